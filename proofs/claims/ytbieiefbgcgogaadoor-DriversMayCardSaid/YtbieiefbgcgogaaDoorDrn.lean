/- Drivers: May. -/
import Derived.Test.YtbieiefbgcgogaaDoorDrm
import Derived.Test.YtbieiefbgcgogaaDoorRek
import Derived.Deep.RegionHeld3
namespace Go.Proofs.YtbieiefbgcgogaaDoor
open Go.RowKit

def mayE (l : List Dr) (m : List Ag) (d c : ByteArray) (a z : Int) : Int := if drE l = 0 then (if agE m = 0 then (if drAt l d < 0 then 8 else if keyB c = false then 5 else tE a z) else agE m) else drE l
def MayPost (l : List Dr) (m : List Ag) (d c : ByteArray) (a z : Int) (w : World) (e : Ending) (w' : World) : Prop :=
  ∃ ok : Bool, e = .returned (.tuple #[.bool ok, .int .i64 (mayE l m d c a z)]) ∧ (mayE l m d c a z ≠ 0 → ok = false) ∧ (∀ (i : Nat) (p : Dr), mayE l m d c a z = 0 → drAt l d = (i : Int) → l[i]? = some p → ok = mayB p (agOf c m) a z) ∧ G w w' none
theorem drErr_all : ∀ (l : List Dr) (b : ByteArray), drErr b l = 0 → ∀ p ∈ l, drT p = true
  | [], _, _, p, hp => by cases hp
  | x :: r, b, h, p, hp => by
    unfold drErr at h
    split at h
    · omega
    · split at h
      · omega
      · split at h
        · omega
        · rename_i h3
          rcases List.mem_cons.1 hp with rfl | hp
          · simpa using h3
          · exact drErr_all r x.1 h p hp
theorem drE_all {l : List Dr} (h : drE l = 0) : ∀ p ∈ l, drT p = true := by
  unfold drE at h
  split at h
  · omega
  · exact drErr_all l _ h
theorem drAt_spec (l : List Dr) (s : ByteArray) : drAt l s = -1 ∨ ∃ (i : Nat) (p : Dr), drAt l s = (i : Int) ∧ l[i]? = some p := by
  rcases ixP_spec (fun p : Dr => p.1.toList == s.toList) l 0 with ⟨h1, -⟩ | ⟨i, p, h1, h2, -⟩
  · exact .inl h1
  · exact .inr ⟨i, p, by rw [Nat.zero_add] at h1; exact h1, h2⟩
set_option maxRecDepth 100000 in
set_option maxHeartbeats 8000000 in
theorem may_c (v u : Value) (l : List Dr) (m : List Ag) (d c : ByteArray) (a z : Int) (w : World) (hr : RdR w 4 drC v l) (hs : RdR w 2 agC u m) (hl : DrOk l) (hm : AgOk m) (hc : Small c) (ha : bnd a) (hz : bnd z) (hn : l.length ≤ 1000) (hn2 : m.length ≤ 1000) :
    Calls Tryd.prog 33 #[v, u, .string d, .string c, .agg #[.int .i64 a, .int .i64 z]] w (MayPost l m d c a z w) := by
  have hD := (Bk.new w 9 #[.string d]).alloc (.cells #[.int .i64 a, .int .i64 z] 31)
  have hW := Bk.newAt (w := w.alloc (.cells #[.string d] 9)) (b := w.heap.size + 1) (by simp) 31 #[.int .i64 a, .int .i64 z]
  have hG := ((G.refl w none).alloc (.cells #[.string d] 9)).alloc (.cells #[.int .i64 a, .int .i64 z] 31)
  have hR := hr.quiet hG
  have hS := hs.quiet hG
  obtain ⟨a1, n1, rfl, hc1, hm1⟩ := RdR.form hr
  obtain ⟨a2, n2, rfl, hc2, hm2⟩ := RdR.form hs
  clear hr hs
  unfold Small at hc
  obtain ⟨E, hE⟩ : ∃ E, mayE l m d c a z = E := ⟨_, rfl⟩
  have HE : Hid (E = if drE l = 0 then (if agE m = 0 then (if drAt l d < 0 then 8 else if keyB c = false then 5 else tE a z) else agE m) else drE l) := Lib.hid hE.symm
  have HEE := Lib.hid hE
  clear hE
  go_enter Tryd.func33, Tryd.ntmps33
  go_upto_region 1 with fail
  generalize (w.alloc (.cells #[.string d] 9)).alloc (.cells #[.int .i64 a, .int .i64 z] 31) = w2 at hD hW hG hR hS ⊢
  go_wp2_with fail
  refine (checkDrivers_c _ l _ hR hl hn).mono ?_; rintro e w3 ⟨rfl, hH⟩
  have hD := hD.quiet hH
  have hW := hW.quiet hH
  have hG := hG.trans hH
  have hR := hR.quiet hH
  have hS := hS.quiet hH
  clear hH
  obtain ⟨E1, hE1⟩ : ∃ E, drE l = E := ⟨_, rfl⟩
  have HDR := Lib.hid hE1
  rw [hE1] at HE ⊢
  clear hE1
  by_cases k1 : E1 = 0
  · have HE2 : Hid (E = if agE m = 0 then (if drAt l d < 0 then 8 else if keyB c = false then 5 else tE a z) else agE m) := Lib.hid (by rw [HE.out, if_pos k1])
    subst k1
    clear HE
    go_wp2_with fail
    refine (checkAges_c _ m _ hS hm hn2).mono ?_; rintro e w4 ⟨rfl, hH⟩
    have hD := hD.quiet hH
    have hW := hW.quiet hH
    have hG := hG.trans hH
    have hR := hR.quiet hH
    have hS := hS.quiet hH
    clear hH
    obtain ⟨E2, hE2⟩ : ∃ E, agE m = E := ⟨_, rfl⟩
    rw [hE2] at HE2 ⊢
    clear hE2
    by_cases k2 : E2 = 0
    · have HE3 : Hid (E = if drAt l d < 0 then 8 else if keyB c = false then 5 else tE a z) := Lib.hid (by rw [HE2.out, if_pos k2])
      subst k2
      clear HE2
      go_wp2_with fail
      refine (indexM_c _ l d w.heap.size _ hR hn hD).mono ?_; rintro e w5 ⟨rfl, hH⟩
      have hD := hD.quiet hH
      have hW := hW.quiet hH
      have hG := hG.trans hH
      have hR := hR.quiet hH
      have hS := hS.quiet hH
      clear hH
      rcases drAt_spec l d with k3 | ⟨i, p, k3, hip⟩
      · have HF : Hid (E = 8) := Lib.hid (by rw [HE3.out, if_pos (by omega)])
        rw [k3]
        clear HE3 k3
        go_wp2_with fail
        go_ret2
        exact ⟨false, by rw [HEE.out, HF.out]; rfl, fun _ => rfl, fun _ _ h => absurd (HEE.out.symm.trans h) (by rw [HF.out]; decide), hG⟩
      · have HE4 : Hid (E = if keyB c = false then 5 else tE a z) := Lib.hid (by rw [HE3.out, if_neg (by omega)])
        have HK3 := Lib.hid k3
        rw [k3]
        have hin : ¬ ((i : Int) < 0) := by omega
        have hil : i < l.length := (List.getElem?_eq_some_iff.1 hip).1
        have HIP := Lib.hid hip
        clear HE3 k3 hip
        go_wp2_with fail
        refine (isKey_c _ _ hc).mono ?_; rintro e w' ⟨rfl, rfl⟩
        cases k4 : keyB c with
        | false =>
          have HF : Hid (E = 5) := Lib.hid (by rw [HE4.out, if_pos k4])
          clear k4 HE4
          go_wp2_with fail
          go_ret2
          exact ⟨false, by rw [HEE.out, HF.out]; rfl, fun _ => rfl, fun _ _ h => absurd (HEE.out.symm.trans h) (by rw [HF.out]; decide), hG⟩
        | true =>
          have HE5 : Hid (E = tE a z) := Lib.hid (by rw [HE4.out, if_neg (by simp [k4])])
          clear k4 HE4
          go_wp2_with (refine wpList_load_row rfl 31 _ rfl (w.heap.size + 1) rfl 31 #[.int .i64 a, .int .i64 z] (0, 0) _ hW Tryd.underlying31 rfl (wi_info _ _) ?_)
          refine (days_c _ _ _ ha hz).mono ?_; rintro e w6 ⟨rfl, hH⟩
          have hD := hD.quiet hH
          have hW := hW.quiet hH
          have hG := hG.trans hH
          have hR := hR.quiet hH
          have hS := hS.quiet hH
          clear hH
          generalize tN a z = N
          by_cases k5 : tE a z = 0
          · obtain ⟨t1, t2, t3, -⟩ := tE_zero k5
            have HF : Hid (E = 0) := Lib.hid (by rw [HE5.out, k5])
            have HT := Lib.hid k5
            rw [k5]
            clear k5 HE5
            have hpT := drE_all HDR.out p (List.mem_of_getElem? HIP.out)
            obtain ⟨d1, d2, d3, d4, d5⟩ := drT_b hpT
            obtain ⟨f, hf⟩ : ∃ f, a / 1440 = f := ⟨_, rfl⟩
            obtain ⟨g, hg⟩ : ∃ g, (z - 1) / 1440 = g := ⟨_, rfl⟩
            have hfb : 0 ≤ f ∧ f ≤ 4001 := by omega
            have hgb : f ≤ g ∧ g ≤ 4001 := by omega
            have hw1 : IntKind.i64.wrap (z - 1) = z - 1 := by rw [IntKind.wrap_i64]; omega
            have hw2 : IntKind.i64.wrap (a.tdiv 1440) = f := by rw [Int.tdiv_eq_ediv_of_nonneg t1, hf, IntKind.wrap_i64]; omega
            have hw3 : IntKind.i64.wrap ((z - 1).tdiv 1440) = g := by rw [Int.tdiv_eq_ediv_of_nonneg (by omega), hg, IntKind.wrap_i64]; omega
            have HM : Hid (mayB p (agOf c m) a z = (decide (p.2.2.1 ≤ f) && (decide (g < p.2.2.2) && decide (agOf c m ≤ f - p.2.1)))) := Lib.hid (by rw [← hf, ← hg]; rfl)
            have c0 : w6.cell? ⟨w.heap.size + 1, 0, none⟩ = some (.int .i64 a) := hW.cell 0
            have c1 : w6.cell? ⟨w.heap.size + 1, 1, none⟩ = some (.int .i64 z) := hW.cell 1
            go_wp2_with fail
            go_quiet (fail)
            have hH := (G.refl w6 none).drewN nq
            have hD := hD.quiet hH
            have hW := hW.quiet hH
            have hG := hG.trans hH
            have hR := hR.quiet hH
            have hS := hS.quiet hH
            clear hH
            have hsz : w.heap.size + 2 ≤ (w6.drewN nq).heap.size := by have := hW.lt; omega
            clear c0 c1 hw1 hw2 hw3 hf hg t1 t2 t3 hD hW
            generalize w6.drewN nq = w7 at hG hR hS hsz ⊢
            obtain ⟨bb, bo, rfl, -, -⟩ := RdR.elem drC_sz hR (G.refl _ none) HIP.out
            have HW := Lib.hid (drRow hR (G.refl _ none) HIP.out)
            have hii : (i : Int) < (l.length : Int) := by omega
            go_upto_region 17 with (refine wpList_load_at rfl 75 _ rfl ⟨bb, bo + i * 4, none⟩ rfl #[.string p.1, .int .i64 p.2.1, .int .i64 p.2.2.1, .int .i64 p.2.2.2] _ HW.out Tryd.underlying75 rfl (dr_info p) ?_)
            have hB : Bk (w7.alloc (.cells #[.string p.1, .int .i64 p.2.1, .int .i64 p.2.2.1, .int .i64 p.2.2.2] 75)) w7.heap.size 75 (drC p) := Bk.new _ _ _
            have hG := hG.alloc (.cells #[.string p.1, .int .i64 p.2.1, .int .i64 p.2.2.1, .int .i64 p.2.2.2] 75)
            have hS := hS.quiet ((G.refl w7 none).alloc (.cells #[.string p.1, .int .i64 p.2.1, .int .i64 p.2.2.1, .int .i64 p.2.2.2] 75))
            clear HW
            generalize w7.alloc (.cells #[.string p.1, .int .i64 p.2.1, .int .i64 p.2.2.1, .int .i64 p.2.2.2] 75) = w8 at hB hG hS ⊢
            generalize w7.heap.size = q at hB ⊢
            have c1 : w8.cell? ⟨q, 1, none⟩ = some (.int .i64 p.2.1) := hB.cell 1
            have c2 : w8.cell? ⟨q, 2, none⟩ = some (.int .i64 p.2.2.1) := hB.cell 2
            have c3 : w8.cell? ⟨q, 3, none⟩ = some (.int .i64 p.2.2.2) := hB.cell 3
            have hFIN : ∀ b : Bool, b = mayB p (agOf c m) a z → ∀ w9, G w w9 none → MayPost l m d c a z w (.returned (.tuple #[.bool b, .int .i64 0])) w9 := fun b hb w9 h9 => ⟨b, by rw [HEE.out, HF.out], fun h => absurd (HEE.out.trans HF.out) h, fun j r _ hj hr => by
              have hij : j = i := by have := HK3.out.symm.trans hj; omega
              subst hij
              rw [HIP.out] at hr
              cases hr
              exact hb, h9⟩
            have HFIN := Lib.hid hFIN
            clear hFIN
            by_cases k6 : p.2.2.1 ≤ f
            · by_cases k7 : g < p.2.2.2
              · have HM2 : Hid (mayB p (agOf c m) a z = decide (agOf c m ≤ f - p.2.1)) := Lib.hid (by rw [HM.out, decide_eq_true k6, decide_eq_true k7]; rfl)
                have hw5 : IntKind.i64.wrap (f - p.2.1) = f - p.2.1 := by rw [IntKind.wrap_i64]; omega
                clear HM
                have hBd := hB.quiet ((G.refl w8 none).drew)
                have hSd := Lib.hid (hS.quiet ((G.refl w8 none).drew))
                have hGd := hG.drew
                clear hB hS hG c1 c2 c3
                refine wp_region_held_drew (S := (fun w' => w'.cell? ⟨q, 1, none⟩ = some (.int .i64 p.2.1) ∧ w'.cell? ⟨q, 2, none⟩ = some (.int .i64 p.2.2.1) ∧ w'.cell? ⟨q, 3, none⟩ = some (.int .i64 p.2.2.2))) (by kernel_rfl) ?_ (fun hHeld => ?_)
                · exact ⟨hBd.cell 1, hBd.cell 2, hBd.cell 3⟩
                refine wpAnyH_take (i := 0) (oi := { dst := some 57, op := Op.fieldAddr 75 (Operand.tmp 19) 2, type := 0, pos := "drivers.go:73", after := #[], guard := none }) (v := ?_) rfl (by kernel_rfl) (by kernel_rfl) (by kernel_rfl) (fun _ _ _ h => h) (Or.inl ⟨by rfl, ?_⟩) (by assumption) ?_
                rotate_left
                · (intro w hSw; obtain ⟨s1, s2, s3⟩ := hSw; (go_simp <;> with_reducible rfl))
                try simp only [Act.put, List.setIfInBounds_toArray, List.set_cons_zero, List.set_cons_succ]
                refine wpAnyH_take (i := 1) (oi := { dst := some 58, op := Op.load 3 (Operand.tmp 57), type := 3, pos := "drivers.go:73", after := #[{ on := 0, ground := Ground.data }], guard := none }) (v := ?_) rfl (by kernel_rfl) (by kernel_rfl) (by kernel_rfl) (fun _ _ _ h => h) (Or.inl ⟨by rfl, ?_⟩) (by assumption) ?_
                rotate_left
                · (intro w hSw; obtain ⟨s1, s2, s3⟩ := hSw; (go_simp <;> with_reducible rfl))
                try simp only [Act.put, List.setIfInBounds_toArray, List.set_cons_zero, List.set_cons_succ]
                refine wpAnyH_take (i := 2) (oi := { dst := some 59, op := Op.move (Operand.tmp 17), type := 3, pos := "drivers.go:73", after := #[], guard := none }) (v := ?_) rfl (by kernel_rfl) (by kernel_rfl) (by kernel_rfl) (fun _ _ _ h => h) (Or.inl ⟨by rfl, ?_⟩) (by assumption) ?_
                rotate_left
                · (intro w hSw; obtain ⟨s1, s2, s3⟩ := hSw; (go_simp <;> with_reducible rfl))
                try simp only [Act.put, List.setIfInBounds_toArray, List.set_cons_zero, List.set_cons_succ]
                refine wpAnyH_take (i := 3) (oi := { dst := some 60, op := Op.binOp BinOp.leq 3 (Operand.tmp 58) (Operand.tmp 59) 3, type := 4, pos := "drivers.go:73", after := #[{ on := 1, ground := Ground.data }, { on := 2, ground := Ground.data }], guard := none }) (v := ?_) rfl (by kernel_rfl) (by kernel_rfl) (by kernel_rfl) (fun _ _ _ h => h) (Or.inl ⟨by rfl, ?_⟩) (by assumption) ?_
                rotate_left
                · (intro w hSw; obtain ⟨s1, s2, s3⟩ := hSw; (go_simp <;> with_reducible rfl))
                try simp only [Act.put, List.setIfInBounds_toArray, List.set_cons_zero, List.set_cons_succ]
                refine wpAnyH_take (i := 4) (oi := { dst := some 61, op := Op.move (Operand.tmp 60), type := 4, pos := "drivers.go:73", after := #[{ on := 3, ground := Ground.data }], guard := none }) (v := ?_) rfl (by kernel_rfl) (by kernel_rfl) (by kernel_rfl) (fun _ _ _ h => h) (Or.inl ⟨by rfl, ?_⟩) (by assumption) ?_
                rotate_left
                · (intro w hSw; obtain ⟨s1, s2, s3⟩ := hSw; (go_simp <;> with_reducible rfl))
                try simp only [Act.put, List.setIfInBounds_toArray, List.set_cons_zero, List.set_cons_succ]
                refine wpAnyH_take (i := 5) (oi := { dst := some 62, op := Op.move (Operand.tmp 18), type := 3, pos := "drivers.go:73", after := #[{ on := 4, ground := Ground.guard }], guard := some (4, true) }) (v := ?_) rfl (by kernel_rfl) (by kernel_rfl) (by kernel_rfl) (fun _ _ _ h => h) (Or.inl ⟨by rfl, ?_⟩) (by assumption) ?_
                rotate_left
                · (intro w hSw; obtain ⟨s1, s2, s3⟩ := hSw; (go_simp <;> with_reducible rfl))
                try simp only [Act.put, List.setIfInBounds_toArray, List.set_cons_zero, List.set_cons_succ]
                refine wpAnyH_take (i := 6) (oi := { dst := some 63, op := Op.fieldAddr 75 (Operand.tmp 19) 3, type := 0, pos := "drivers.go:73", after := #[{ on := 4, ground := Ground.guard }], guard := some (4, true) }) (v := ?_) rfl (by kernel_rfl) (by kernel_rfl) (by kernel_rfl) (fun _ _ _ h => h) (Or.inl ⟨by rfl, ?_⟩) (by assumption) ?_
                rotate_left
                · (intro w hSw; obtain ⟨s1, s2, s3⟩ := hSw; (go_simp <;> with_reducible rfl))
                try simp only [Act.put, List.setIfInBounds_toArray, List.set_cons_zero, List.set_cons_succ]
                refine wpAnyH_take (i := 7) (oi := { dst := some 64, op := Op.load 3 (Operand.tmp 63), type := 3, pos := "drivers.go:73", after := #[{ on := 6, ground := Ground.data }, { on := 4, ground := Ground.guard }], guard := some (4, true) }) (v := ?_) rfl (by kernel_rfl) (by kernel_rfl) (by kernel_rfl) (fun _ _ _ h => h) (Or.inl ⟨by rfl, ?_⟩) (by assumption) ?_
                rotate_left
                · (intro w hSw; obtain ⟨s1, s2, s3⟩ := hSw; (go_simp <;> with_reducible rfl))
                try simp only [Act.put, List.setIfInBounds_toArray, List.set_cons_zero, List.set_cons_succ]
                refine wpAnyH_take (i := 8) (oi := { dst := some 65, op := Op.binOp BinOp.lss 3 (Operand.tmp 62) (Operand.tmp 64) 3, type := 4, pos := "drivers.go:73", after := #[{ on := 5, ground := Ground.data }, { on := 7, ground := Ground.data }, { on := 4, ground := Ground.guard }], guard := some (4, true) }) (v := ?_) rfl (by kernel_rfl) (by kernel_rfl) (by kernel_rfl) (fun _ _ _ h => h) (Or.inl ⟨by rfl, ?_⟩) (by assumption) ?_
                rotate_left
                · (intro w hSw; obtain ⟨s1, s2, s3⟩ := hSw; (go_simp <;> with_reducible rfl))
                try simp only [Act.put, List.setIfInBounds_toArray, List.set_cons_zero, List.set_cons_succ]
                refine wpAnyH_take (i := 9) (oi := { dst := some 66, op := Op.pick (Operand.tmp 61) (Operand.tmp 65) (Operand.const (Value.bool false)), type := 4, pos := "drivers.go:73", after := #[{ on := 4, ground := Ground.data }, { on := 8, ground := Ground.data }], guard := none }) (v := ?_) rfl (by kernel_rfl) (by kernel_rfl) (by kernel_rfl) (fun _ _ _ h => h) (Or.inl ⟨by rfl, ?_⟩) (by assumption) ?_
                rotate_left
                · (intro w hSw; obtain ⟨s1, s2, s3⟩ := hSw; (go_simp <;> with_reducible rfl))
                try simp only [Act.put, List.setIfInBounds_toArray, List.set_cons_zero, List.set_cons_succ]
                refine wpAnyH_take (i := 10) (oi := { dst := some 67, op := Op.move (Operand.tmp 66), type := 4, pos := "drivers.go:73", after := #[{ on := 9, ground := Ground.data }, { on := 4, ground := Ground.chain }], guard := none }) (v := ?_) rfl (by kernel_rfl) (by kernel_rfl) (by kernel_rfl) (fun _ _ _ h => h) (Or.inl ⟨by rfl, ?_⟩) (by assumption) ?_
                rotate_left
                · (intro w hSw; obtain ⟨s1, s2, s3⟩ := hSw; (go_simp <;> with_reducible rfl))
                try simp only [Act.put, List.setIfInBounds_toArray, List.set_cons_zero, List.set_cons_succ]
                refine wpAnyH_take (i := 11) (oi := { dst := some 68, op := Op.move (Operand.tmp 17), type := 3, pos := "drivers.go:73", after := #[{ on := 10, ground := Ground.guard }], guard := some (10, true) }) (v := ?_) rfl (by kernel_rfl) (by kernel_rfl) (by kernel_rfl) (fun _ _ _ h => h) (Or.inl ⟨by rfl, ?_⟩) (by assumption) ?_
                rotate_left
                · (intro w hSw; obtain ⟨s1, s2, s3⟩ := hSw; (go_simp <;> with_reducible rfl))
                try simp only [Act.put, List.setIfInBounds_toArray, List.set_cons_zero, List.set_cons_succ]
                refine wpAnyH_take (i := 12) (oi := { dst := some 69, op := Op.fieldAddr 75 (Operand.tmp 19) 1, type := 0, pos := "drivers.go:73", after := #[{ on := 10, ground := Ground.guard }], guard := some (10, true) }) (v := ?_) rfl (by kernel_rfl) (by kernel_rfl) (by kernel_rfl) (fun _ _ _ h => h) (Or.inl ⟨by rfl, ?_⟩) (by assumption) ?_
                rotate_left
                · (intro w hSw; obtain ⟨s1, s2, s3⟩ := hSw; (go_simp <;> with_reducible rfl))
                try simp only [Act.put, List.setIfInBounds_toArray, List.set_cons_zero, List.set_cons_succ]
                refine wpAnyH_take (i := 13) (oi := { dst := some 70, op := Op.load 3 (Operand.tmp 69), type := 3, pos := "drivers.go:73", after := #[{ on := 12, ground := Ground.data }, { on := 10, ground := Ground.guard }], guard := some (10, true) }) (v := ?_) rfl (by kernel_rfl) (by kernel_rfl) (by kernel_rfl) (fun _ _ _ h => h) (Or.inl ⟨by rfl, ?_⟩) (by assumption) ?_
                rotate_left
                · (intro w hSw; obtain ⟨s1, s2, s3⟩ := hSw; (go_simp <;> with_reducible rfl))
                try simp only [Act.put, List.setIfInBounds_toArray, List.set_cons_zero, List.set_cons_succ]
                refine wpAnyH_take (i := 14) (oi := { dst := some 71, op := Op.binOp BinOp.sub 3 (Operand.tmp 68) (Operand.tmp 70) 3, type := 3, pos := "drivers.go:73", after := #[{ on := 11, ground := Ground.data }, { on := 13, ground := Ground.data }, { on := 10, ground := Ground.guard }], guard := some (10, true) }) (v := ?_) rfl (by kernel_rfl) (by kernel_rfl) (by kernel_rfl) (fun _ _ _ h => h) (Or.inl ⟨by rfl, ?_⟩) (by assumption) ?_
                rotate_left
                · (intro w hSw; obtain ⟨s1, s2, s3⟩ := hSw; (go_simp <;> with_reducible rfl))
                try simp only [Act.put, List.setIfInBounds_toArray, List.set_cons_zero, List.set_cons_succ]
                refine wpAnyH_take (i := 15) (oi := { dst := some 72, op := Op.move (Operand.tmp 1), type := 67, pos := "drivers.go:73", after := #[{ on := 10, ground := Ground.guard }], guard := some (10, true) }) (v := ?_) rfl (by kernel_rfl) (by kernel_rfl) (by kernel_rfl) (fun _ _ _ h => h) (Or.inl ⟨by rfl, ?_⟩) (by assumption) ?_
                rotate_left
                · (intro w hSw; obtain ⟨s1, s2, s3⟩ := hSw; (go_simp <;> with_reducible rfl))
                try simp only [Act.put, List.setIfInBounds_toArray, List.set_cons_zero, List.set_cons_succ]
                refine wpAnyH_take (i := 16) (oi := { dst := some 73, op := Op.move (Operand.tmp 3), type := 9, pos := "drivers.go:73", after := #[{ on := 10, ground := Ground.guard }], guard := some (10, true) }) (v := ?_) rfl (by kernel_rfl) (by kernel_rfl) (by kernel_rfl) (fun _ _ _ h => h) (Or.inl ⟨by rfl, ?_⟩) (by assumption) ?_
                rotate_left
                · (intro w hSw; obtain ⟨s1, s2, s3⟩ := hSw; (go_simp <;> with_reducible rfl))
                try simp only [Act.put, List.setIfInBounds_toArray, List.set_cons_zero, List.set_cons_succ]
                refine wpAnyH_ready (rs := [17]) (by kernel_rfl) (by simp) ?_
                refine AllReadyH.cons (o := { dst := some 74, op := Op.call { callee := Callee.value (Operand.func 81), args := #[Operand.tmp 72, Operand.tmp 73], argTypes := #[67, 9] }, type := 3, pos := "drivers.go:73", after := #[{ on := 15, ground := Ground.data }, { on := 16, ground := Ground.data }, { on := 10, ground := Ground.chain }, { on := 10, ground := Ground.guard }], guard := some (10, true) }) rfl (fun K hK => ?_) AllReadyH.nil
                go_simp
                refine (ageOf_c _ m c _ hSd.out hn2).mono ?_
                rintro e y1 ⟨rfl, hH⟩
                have hB1 := hBd.quiet hH
                have hG1 := hGd.trans hH
                clear hH
                refine hK.out _ _ ?_ (fun hHeld => ?_)
                · exact ⟨hB1.cell 1, hB1.cell 2, hB1.cell 3⟩
                clear hK K
                try simp only [Act.put, List.setIfInBounds_toArray, List.set_cons_zero, List.set_cons_succ]
                refine wpAnyH_take (i := 18) (oi := { dst := some 75, op := Op.binOp BinOp.geq 3 (Operand.tmp 71) (Operand.tmp 74) 3, type := 4, pos := "drivers.go:73", after := #[{ on := 14, ground := Ground.data }, { on := 17, ground := Ground.data }, { on := 10, ground := Ground.guard }], guard := some (10, true) }) (v := ?_) rfl (by kernel_rfl) (by kernel_rfl) (by kernel_rfl) (fun _ _ _ h => h) (Or.inl ⟨by rfl, ?_⟩) (by assumption) ?_
                rotate_left
                · (intro w hSw; obtain ⟨s1, s2, s3⟩ := hSw; (go_simp <;> with_reducible rfl))
                try simp only [Act.put, List.setIfInBounds_toArray, List.set_cons_zero, List.set_cons_succ]
                refine wpAnyH_take (i := 19) (oi := { dst := some 76, op := Op.pick (Operand.tmp 67) (Operand.tmp 75) (Operand.const (Value.bool false)), type := 4, pos := "drivers.go:73", after := #[{ on := 10, ground := Ground.data }, { on := 18, ground := Ground.data }], guard := none }) (v := ?_) rfl (by kernel_rfl) (by kernel_rfl) (by kernel_rfl) (fun _ _ _ h => h) (Or.inl ⟨by rfl, ?_⟩) (by assumption) ?_
                rotate_left
                · (intro w hSw; obtain ⟨s1, s2, s3⟩ := hSw; (go_simp <;> with_reducible rfl))
                try simp only [Act.put, List.setIfInBounds_toArray, List.set_cons_zero, List.set_cons_succ]
                refine wpAnyH_take (i := 20) (oi := { dst := some 10, op := Op.assign (Operand.tmp 76), type := 4, pos := "drivers.go:73", after := #[{ on := 19, ground := Ground.data }, { on := 17, ground := Ground.chain }, { on := 0, ground := Ground.phase }, { on := 1, ground := Ground.phase }, { on := 2, ground := Ground.phase }, { on := 3, ground := Ground.phase }, { on := 4, ground := Ground.phase }, { on := 5, ground := Ground.phase }, { on := 6, ground := Ground.phase }, { on := 7, ground := Ground.phase }, { on := 8, ground := Ground.phase }, { on := 9, ground := Ground.phase }, { on := 10, ground := Ground.phase }, { on := 11, ground := Ground.phase }, { on := 12, ground := Ground.phase }, { on := 13, ground := Ground.phase }, { on := 14, ground := Ground.phase }, { on := 15, ground := Ground.phase }, { on := 16, ground := Ground.phase }, { on := 17, ground := Ground.phase }, { on := 18, ground := Ground.phase }, { on := 19, ground := Ground.phase }], guard := none }) (v := ?_) rfl (by kernel_rfl) (by kernel_rfl) (by kernel_rfl) (fun _ _ _ h => h) (Or.inl ⟨by rfl, ?_⟩) (by assumption) ?_
                rotate_left
                · (intro w hSw; obtain ⟨s1, s2, s3⟩ := hSw; (go_simp <;> with_reducible rfl))
                try simp only [Act.put, List.setIfInBounds_toArray, List.set_cons_zero, List.set_cons_succ]
                refine wpAnyH_take (i := 21) (oi := { dst := some 11, op := Op.assign (Operand.const (Value.int IntKind.i64 0)), type := 38, pos := "drivers.go:73", after := #[{ on := 20, ground := Ground.chain }, { on := 0, ground := Ground.phase }, { on := 1, ground := Ground.phase }, { on := 2, ground := Ground.phase }, { on := 3, ground := Ground.phase }, { on := 4, ground := Ground.phase }, { on := 5, ground := Ground.phase }, { on := 6, ground := Ground.phase }, { on := 7, ground := Ground.phase }, { on := 8, ground := Ground.phase }, { on := 9, ground := Ground.phase }, { on := 10, ground := Ground.phase }, { on := 11, ground := Ground.phase }, { on := 12, ground := Ground.phase }, { on := 13, ground := Ground.phase }, { on := 14, ground := Ground.phase }, { on := 15, ground := Ground.phase }, { on := 16, ground := Ground.phase }, { on := 17, ground := Ground.phase }, { on := 18, ground := Ground.phase }, { on := 19, ground := Ground.phase }, { on := 20, ground := Ground.phase }], guard := none }) (v := ?_) rfl (by kernel_rfl) (by kernel_rfl) (by kernel_rfl) (fun _ _ _ h => h) (Or.inl ⟨by rfl, ?_⟩) (by assumption) ?_
                rotate_left
                · (intro w hSw; obtain ⟨s1, s2, s3⟩ := hSw; (go_simp <;> with_reducible rfl))
                try simp only [Act.put, List.setIfInBounds_toArray, List.set_cons_zero, List.set_cons_succ]
                refine wpAnyH_done (by kernel_rfl) ?_ _
                go_wp2_with fail
                go_ret2
                exact HFIN.out _ HM2.out.symm _ hG1
              · have HM2 : Hid (mayB p (agOf c m) a z = false) := Lib.hid (by rw [HM.out, decide_eq_false k7, Bool.false_and, Bool.and_false])
                have k6' : decide (p.2.2.1 ≤ f) = true := decide_eq_true k6
                have k7' : decide (g < p.2.2.2) = false := decide_eq_false k7
                clear HM
                go_quiet (fail)
                go_wp2_with fail
                go_ret2
                exact HFIN.out false HM2.out.symm _ (hG.drewN _)
            · have HM2 : Hid (mayB p (agOf c m) a z = false) := Lib.hid (by rw [HM.out, decide_eq_false k6, Bool.false_and])
              have k6' : decide (p.2.2.1 ≤ f) = false := decide_eq_false k6
              clear HM
              go_quiet (fail)
              go_wp2_with fail
              go_ret2
              exact HFIN.out false HM2.out.symm _ (hG.drewN _)
          · have HF : Hid (E = tE a z) := HE5
            have k5' : (tE a z != 0) = true := by simpa using k5
            have hne : E ≠ 0 := by rw [HF.out]; exact k5
            have HNE := Lib.hid hne
            clear k5 hne
            go_wp2_with fail
            go_ret2
            exact ⟨false, by rw [HEE.out, HF.out]; rfl, fun _ => rfl, fun _ _ h => absurd (HEE.out.symm.trans h) HNE.out, hG⟩
    · have HF : Hid (E = E2) := Lib.hid (by rw [HE2.out, if_neg k2])
      have k2' : (E2 != 0) = true := by simpa using k2
      have HK2 := Lib.hid k2
      clear k2 HE2
      go_wp2_with fail
      go_ret2
      exact ⟨false, by rw [HEE.out, HF.out]; rfl, fun _ => rfl, fun _ _ h => absurd (HEE.out.symm.trans h) (by rw [HF.out]; exact HK2.out), hG⟩
  · have HF : Hid (E = E1) := Lib.hid (by rw [HE.out, if_neg k1])
    have k1' : (E1 != 0) = true := by simpa using k1
    have HK1 := Lib.hid k1
    clear k1 HE
    go_wp2_with fail
    go_ret2
    exact ⟨false, by rw [HEE.out, HF.out]; rfl, fun _ => rfl, fun _ _ h => absurd (HEE.out.symm.trans h) (by rw [HF.out]; exact HK1.out), hG⟩
end Go.Proofs.YtbieiefbgcgogaaDoor
