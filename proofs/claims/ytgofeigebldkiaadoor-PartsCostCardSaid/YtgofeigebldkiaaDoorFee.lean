/- Fees: CheckFees, its reference. -/
import Derived.Test.YtgofeigebldkiaaDoorExt
import Derived.Deep.RegionHeld3
import Derived.IntWalk
namespace Go.Proofs.YtgofeigebldkiaaDoor
open Go.RowKit

/-- A fee: from, to, cents. -/
abbrev Fe := ByteArray × ByteArray × Int
def feC (x : Fe) : Array Value := #[.string x.1, .string x.2.1, .int .i64 x.2.2]
theorem feC_sz (x : Fe) : (feC x).size = 3 := rfl
theorem fe_info (x : Fe) : (Tryd.prog.info? 110).map (·.size) = some (feC x).size := (by kernel_rfl : (Tryd.prog.info? 110).map (·.size) = some 3)
def FeOk (l : List Fe) : Prop := ∀ x ∈ l, Small x.1 ∧ Small x.2.1 ∧ bnd x.2.2
/-- The first that is not 0. -/
def orI (x y : Int) : Int := if x = 0 then y else x
def cmpF (x y : Fe) : Int := orI (cmpI x.1 y.1) (cmpI x.2.1 y.2.1)
set_option maxRecDepth 100000 in
set_option maxHeartbeats 1000000 in
theorem or2_c (x y : Int) (g : Nat) (w : World) (hB : Bk w g 3 #[.int .i64 x, .int .i64 y]) :
    Calls Tryd.prog 93 #[.slice (some ⟨g, 0, none⟩) 2 2] w fun e w' => e = .returned (.int .i64 (orI x y)) ∧ w = w' := by
  have hc0 := hB.cell 0
  have hc1 := hB.cell 1
  rw [show (#[Value.int .i64 x, .int .i64 y] : Array Value)[0]? = some (.int .i64 x) from rfl] at hc0
  rw [show (#[Value.int .i64 x, .int .i64 y] : Array Value)[1]? = some (.int .i64 y) from rfl] at hc1
  clear hB
  by_cases hx : x = 0
  · rw [orI, if_pos hx]
    subst hx
    by_cases hy : y = 0
    · subst hy
      go_enter Tryd.func93, Tryd.ntmps93
      go_wp2_with fail
      refine wp_loop_rounds 3 ?_
      rw [rounds_succ]
      go_wp2_with fail
      rw [rounds_succ]
      go_wp2_with fail
      rw [rounds_succ]
      go_wp2_with fail
      go_ret
      exact ⟨rfl, rfl⟩
    · have hy' : (y != 0) = true := by rw [bne_iff_ne]; exact hy
      clear hy
      go_enter Tryd.func93, Tryd.ntmps93
      go_wp2_with fail
      refine wp_loop_rounds 3 ?_
      rw [rounds_succ]
      go_wp2_with fail
      rw [rounds_succ]
      go_wp2_with fail
      go_ret
      exact ⟨rfl, rfl⟩
  · rw [orI, if_neg hx]
    have hx' : (x != 0) = true := by rw [bne_iff_ne]; exact hx
    clear hx
    go_enter Tryd.func93, Tryd.ntmps93
    go_wp2_with fail
    refine wp_loop_rounds 3 ?_
    rw [rounds_succ]
    go_wp2_with fail
    go_ret
    exact ⟨rfl, rfl⟩
set_option maxRecDepth 100000 in
set_option maxHeartbeats 1000000 in
theorem compareFees_c (x y : Fe) (w : World) :
    Calls Tryd.prog 71 #[.agg (feC x), .agg (feC y)] w fun e w' => e = .returned (.int .i64 (cmpF x y)) ∧ G w w' none := by
  have hBx := (Bk.new w 110 (feC x)).alloc (.cells (feC y) 110)
  have hBy := Bk.newAt (w := w.alloc (.cells (feC x) 110)) (b := w.heap.size + 1) (by simp) 110 (feC y)
  have hG := ((G.refl w none).alloc (.cells (feC x) 110)).alloc (.cells (feC y) 110)
  have HF : Hid (orI (cmpI x.1 y.1) (cmpI x.2.1 y.2.1) = cmpF x y) := Lib.hid rfl
  go_enter Tryd.func71, Tryd.ntmps71
  go_wp2_with fail
  generalize ((w.alloc (.cells (feC x) 110)).alloc (.cells (feC y) 110)) = w3 at hBx hBy hG ⊢
  have c1 : w3.cell? ⟨w.heap.size, 0, none⟩ = some (.string x.1) := hBx.cell 0
  have c2 : w3.cell? ⟨w.heap.size, 1, none⟩ = some (.string x.2.1) := hBx.cell 1
  have c3 : w3.cell? ⟨w.heap.size + 1, 0, none⟩ = some (.string y.1) := hBy.cell 0
  have c4 : w3.cell? ⟨w.heap.size + 1, 1, none⟩ = some (.string y.2.1) := hBy.cell 1
  have hGd := hG.drew
  clear hBx hBy hG
  go_region_held3 (fun w' => w'.cell? ⟨w.heap.size, 0, none⟩ = some (.string x.1) ∧ w'.cell? ⟨w.heap.size, 1, none⟩ = some (.string x.2.1) ∧ w'.cell? ⟨w.heap.size + 1, 0, none⟩ = some (.string y.1) ∧ w'.cell? ⟨w.heap.size + 1, 1, none⟩ = some (.string y.2.1)) (first | exact ⟨c1, c2, c3, c4⟩ | go_keep) (first | (go_at_call 94; refine (compare_c _ _ _).mono ?_; rintro e w' ⟨rfl, rfl⟩) | (go_at_call 93; refine (or2_c _ _ _ _ ((Bk.new w3 _ _).quiet ((G.refl _ none).drew))).mono ?_; rintro e w' ⟨rfl, rfl⟩))
  go_wp2_with fail
  go_ret
  exact ⟨ret_int HF.out, hGd.alloc _⟩
def feAfter (b : Option Fe) (x : Fe) : Bool := match b with | none => false | some y => decide (0 ≤ cmpF y x)
def feErr : Option Fe → List Fe → Int
  | _, [] => 0
  | b, x :: r => if keyB x.1 = false then 5 else if keyB x.2.1 = false then 5 else if eqB x.1 x.2.1 = true then 14 else if feAfter b x = true then 7 else if inB x.2.2 0 1000000 = false then 1 else feErr (some x) r
def feE (l : List Fe) : Int := if 500 < l.length then 2 else feErr none l
def prevAt {α : Type} (l : List α) (k : Nat) : Option α := if k = 0 then none else l[k - 1]?
theorem prevAt_succ {α : Type} (l : List α) (k : Nat) (p : α) (h : l[k]? = some p) : prevAt l (k + 1) = some p := by
  unfold prevAt
  rw [if_neg (by omega), Nat.add_sub_cancel, h]
def FeRel (w : World) (l : List Fe) (i : Value) (wr : World) : Prop :=
  ∃ k : Nat, k ≤ l.length ∧ i = .int .i64 k ∧ feErr none l = feErr (prevAt l k) (l.drop k) ∧ G w wr none
set_option maxRecDepth 100000 in
set_option maxHeartbeats 4000000 in
theorem checkFees_c (v : Value) (l : List Fe) (w : World) (hr : RdR w 3 feC v l) (hl : FeOk l) (hn : l.length ≤ 1000) :
    Calls Tryd.prog 30 #[v] w fun e w' => e = .returned (.int .i64 (feE l)) ∧ G w w' none := by
  have HR := Lib.hid hr
  obtain ⟨a, cap, rfl, hcap, hm⟩ := RdR.form hr
  clear hr
  by_cases h30 : 500 < l.length
  · have H := Lib.hid (show feE l = 2 by simp [feE, h30])
    go_enter Tryd.func30, Tryd.ntmps30
    go_wp2_with fail
    go_ret
    exact ⟨by rw [H.out]; rfl, G.refl _ _⟩
  · have H := Lib.hid (show feE l = feErr none l by simp [feE, h30])
    go_enter Tryd.func30, Tryd.ntmps30
    go_wp2_with fail
    go_loopw [10] (FeRel w l) (fun i _ => l.length - (intOf i).toNat)
    case atStart => exact ⟨0, by omega, rfl, rfl, G.refl _ _⟩
    case round =>
      obtain ⟨k, hkl, rfl, heq, hG⟩ := hrel
      have HE := Lib.hid heq
      clear heq
      by_cases hk : k < l.length
      · obtain ⟨p, hp⟩ : ∃ p, l[k]? = some p := ⟨_, List.getElem?_eq_getElem hk⟩
        have hdrop : l.drop k = p :: l.drop (k + 1) := by rw [List.drop_eq_getElem_cons hk, ← (List.getElem?_eq_some_iff.1 hp).2]
        have hpl := hl p (List.mem_of_getElem? hp)
        obtain ⟨bb, bo, rfl, hbb, hrow⟩ := RdR.elem feC_sz HR.out hG hp
        have HW := Lib.hid hrow
        have HP := Lib.hid hp
        have hs1 := hpl.1
        have hs2 := hpl.2.1
        unfold Small at hs1 hs2
        have HS : Hid (feErr (prevAt l k) (l.drop k) = if keyB p.1 = false then 5 else if keyB p.2.1 = false then 5 else if eqB p.1 p.2.1 = true then 14 else if feAfter (prevAt l k) p = true then 7 else if inB p.2.2 0 1000000 = false then 1 else feErr (some p) (l.drop (k + 1))) := Lib.hid (by rw [hdrop]; rfl)
        clear hrow hdrop hp hpl
        go_wp2_with (refine wpList_load_at rfl 110 _ rfl ⟨bb, bo + k * 3, none⟩ rfl #[.string p.1, .string p.2.1, .int .i64 p.2.2] _ HW.out Tryd.underlying110 rfl (fe_info p) ?_)
        refine (isKey_c _ _ hs1).mono ?_; rintro e w1 ⟨rfl, rfl⟩
        have hG1 := G.refl (wr.alloc (.cells (feC p) 110)) none
        have hB5 := (Bk.new wr 110 (feC p)).quiet hG1
        have hc0 := hB5.cell 0
        have hc1 := hB5.cell 1
        have hc2 := hB5.cell 2
        rw [show (feC p)[0]? = some (.string p.1) from rfl] at hc0
        rw [show (feC p)[1]? = some (.string p.2.1) from rfl] at hc1
        rw [show (feC p)[2]? = some (.int .i64 p.2.2) from rfl] at hc2
        have hG01 := (hG.alloc (.cells (feC p) 110)).trans hG1
        clear hG hG1 HW
        cases hkb : keyB p.1 with
        | false =>
          have HF : Hid (feE l = 5) := Lib.hid (by rw [H.out, HE.out, HS.out, if_pos hkb])
          clear hkb
          go_wp2_with fail
          go_ret
          exact ⟨by rw [HF.out]; rfl, hG01⟩
        | true =>
          go_wp2_with fail
          refine (isKey_c _ _ hs2).mono ?_; rintro e w2 ⟨rfl, rfl⟩
          have hG2 := G.refl (wr.alloc (.cells (feC p) 110)) none
          have hB6 := hB5.quiet hG2
          have hc0 := hB6.cell 0
          have hc1 := hB6.cell 1
          have hc2 := hB6.cell 2
          rw [show (feC p)[0]? = some (.string p.1) from rfl] at hc0
          rw [show (feC p)[1]? = some (.string p.2.1) from rfl] at hc1
          rw [show (feC p)[2]? = some (.int .i64 p.2.2) from rfl] at hc2
          have hG02 := hG01.trans hG2
          clear hG01 hG2 hB5
          cases hkb2 : keyB p.2.1 with
          | false =>
            have HF : Hid (feE l = 5) := Lib.hid (by rw [H.out, HE.out, HS.out, if_neg (by simp [hkb]), if_pos hkb2])
            clear hkb2
            go_wp2_with fail
            go_ret
            exact ⟨by rw [HF.out]; rfl, hG02⟩
          | true =>
            have HK := Lib.hid hkb
            have HK2 := Lib.hid hkb2
            clear hkb hkb2
            cases hq : eqB p.1 p.2.1 with
            | true =>
              have HF : Hid (feE l = 14) := Lib.hid (by rw [H.out, HE.out, HS.out, if_neg (by simp [HK.out]), if_neg (by simp [HK2.out]), if_pos hq])
              unfold eqB at hq
              go_wp2_with fail
              go_ret
              exact ⟨by rw [HF.out]; rfl, hG02⟩
            | false =>
              have HQ := Lib.hid hq
              unfold eqB at hq
              go_wp2_with fail
              have hB7 : Bk (wr.alloc (.cells #[.string p.1, .string p.2.1, .int .i64 p.2.2] 110)) wr.heap.size 110 (feC p) := hB6
              have hG7 : G w (wr.alloc (.cells #[.string p.1, .string p.2.1, .int .i64 p.2.2] 110)) none := hG02
              have hg7 := hB7.lt
              clear hB6 hG02 hc0 hc1 hc2
              generalize wr.alloc (.cells #[.string p.1, .string p.2.1, .int .i64 p.2.2] 110) = w5 at hB7 hG7 hg7 ⊢
              generalize wr.heap.size = g at hB7 hg7 ⊢
              cases k with
              | zero =>
                have HA : Hid (feAfter (prevAt l 0) p = false) := Lib.hid rfl
                have hc2 : w5.cell? ⟨g, 2, none⟩ = some (.int .i64 p.2.2) := hB7.cell 2
                go_quiet (fail)
                have hGq := hG7.drewN nq
                cases h3 : inB p.2.2 0 1000000 with
                | false =>
                  have HF : Hid (feE l = 1) := Lib.hid (by rw [H.out, HE.out, HS.out, if_neg (by simp [HK.out]), if_neg (by simp [HK2.out]), if_neg (by simp [HQ.out]), if_neg (by simp [HA.out]), if_pos h3])
                  go_wp2_with fail
                  refine (within_c _ _ _ _).mono ?_; rintro e w' ⟨rfl, rfl⟩
                  rw [h3]
                  go_wp2_with fail
                  go_ret
                  exact ⟨by rw [HF.out]; rfl, hGq⟩
                | true =>
                  have HF : Hid (feErr none l = feErr (prevAt l (0 + 1)) (l.drop (0 + 1))) := Lib.hid (by rw [HE.out, HS.out, if_neg (by simp [HK.out]), if_neg (by simp [HK2.out]), if_neg (by simp [HQ.out]), if_neg (by simp [HA.out]), if_neg (by simp [h3]), prevAt_succ l 0 p HP.out])
                  go_wp2_with fail
                  refine (within_c _ _ _ _).mono ?_; rintro e w' ⟨rfl, rfl⟩
                  rw [h3]
                  go_wp2_with fail
                  go_roundw
                  case rel => exact ⟨0 + 1, by omega, by go_num, HF.out, hGq⟩
                  case measure => simp [intOf]; omega

              | succ m =>
                obtain ⟨q, hq2⟩ : ∃ q, l[m]? = some q := ⟨_, List.getElem?_eq_getElem (by omega)⟩
                have HA1 : Hid (feAfter (prevAt l (m + 1)) p = decide (0 ≤ cmpF q p)) := Lib.hid (by rw [prevAt_succ l m q hq2]; rfl)
                have hsub : IntKind.i64.wrap (((m + 1 : Nat) : Int) - 1) = (m : Int) := by rw [show ((m + 1 : Nat) : Int) - 1 = (m : Int) by omega]; rw [IntKind.wrap_i64]; omega
                have d0 := RdR.cell feC_sz HR.out hG7 hq2 0 (.string q.1) rfl
                have d1 := RdR.cell feC_sz HR.out hG7 hq2 1 (.string q.2.1) rfl
                have d2 := RdR.cell feC_sz HR.out hG7 hq2 2 (.int .i64 q.2.2) rfl
                have c0 : w5.cell? ⟨g, 0, none⟩ = some (.string p.1) := hB7.cell 0
                have c1 : w5.cell? ⟨g, 1, none⟩ = some (.string p.2.1) := hB7.cell 1
                have c2 : w5.cell? ⟨g, 2, none⟩ = some (.int .i64 p.2.2) := hB7.cell 2
                have hsub2 : IntKind.i64.wrap (m : Int) = (m : Int) := by rw [IntKind.wrap_i64]; omega
                have hsub3 : IntKind.i64.wrap ((m : Int) + 1 - 1) = (m : Int) := by rw [IntKind.wrap_i64]; omega
                have hm0 : (0 : Int) ≤ (m : Int) := Int.natCast_nonneg m
                have hml : (m : Int) < (l.length : Int) := by omega
                have hcf : cmpF q p < 0 ∨ 0 ≤ cmpF q p := by omega
                simp only [Nat.add_zero] at d0
                clear hq2
                rcases hcf with hcf | hcf
                · have HA : Hid (feAfter (prevAt l (m + 1)) p = false) := Lib.hid (by rw [HA1.out]; exact decide_eq_false (by omega))
                  go_region_held3 (fun w' => w'.cell? ⟨bb, bo + m * 3, none⟩ = some (.string q.1) ∧ w'.cell? ⟨bb, bo + m * 3 + 1, none⟩ = some (.string q.2.1) ∧ w'.cell? ⟨bb, bo + m * 3 + 2, none⟩ = some (.int .i64 q.2.2) ∧ w'.cell? ⟨g, 0, none⟩ = some (.string p.1) ∧ w'.cell? ⟨g, 1, none⟩ = some (.string p.2.1) ∧ w'.cell? ⟨g, 2, none⟩ = some (.int .i64 p.2.2)) (first | exact ⟨d0, d1, d2, c0, c1, c2⟩ | exact hS6 | go_keep) (first | (go_at_call 71; refine (compareFees_c q p _).mono ?_; rintro e w6 ⟨rfl, hG6⟩; have hG06 := hG7.drew.trans hG6; have hB8 := (hB7.quiet ((G.refl w5 none).drew)).quiet hG6; have hc2 : w6.cell? ⟨g, 2, none⟩ = some (.int .i64 p.2.2) := hB8.cell 2; have hbw := hG7.size; have hS6 : w6.cell? ⟨bb, bo + m * 3, none⟩ = some (.string q.1) ∧ w6.cell? ⟨bb, bo + m * 3 + 1, none⟩ = some (.string q.2.1) ∧ w6.cell? ⟨bb, bo + m * 3 + 2, none⟩ = some (.int .i64 q.2.2) ∧ w6.cell? ⟨g, 0, none⟩ = some (.string p.1) ∧ w6.cell? ⟨g, 1, none⟩ = some (.string p.2.1) ∧ w6.cell? ⟨g, 2, none⟩ = some (.int .i64 p.2.2) := ⟨((gcell hG6).1 bb _ (Nat.lt_of_lt_of_le hbb hbw)).trans d0, ((gcell hG6).1 bb _ (Nat.lt_of_lt_of_le hbb hbw)).trans d1, ((gcell hG6).1 bb _ (Nat.lt_of_lt_of_le hbb hbw)).trans d2, ((gcell hG6).1 g _ hg7).trans c0, ((gcell hG6).1 g _ hg7).trans c1, ((gcell hG6).1 g _ hg7).trans c2⟩))
                  cases h3 : inB p.2.2 0 1000000 with
                  | false =>
                    have HF : Hid (feE l = 1) := Lib.hid (by rw [H.out, HE.out, HS.out, if_neg (by simp [HK.out]), if_neg (by simp [HK2.out]), if_neg (by simp [HQ.out]), if_neg (by simp [HA.out]), if_pos h3])
                    go_wp2_with fail
                    refine (within_c _ _ _ _).mono ?_; rintro e w' ⟨rfl, rfl⟩
                    rw [h3]
                    go_wp2_with fail
                    go_ret
                    exact ⟨by rw [HF.out]; rfl, hG06⟩
                  | true =>
                    have HF : Hid (feErr none l = feErr (prevAt l ((m + 1) + 1)) (l.drop ((m + 1) + 1))) := Lib.hid (by rw [HE.out, HS.out, if_neg (by simp [HK.out]), if_neg (by simp [HK2.out]), if_neg (by simp [HQ.out]), if_neg (by simp [HA.out]), if_neg (by simp [h3]), prevAt_succ l (m + 1) p HP.out])
                    go_wp2_with fail
                    refine (within_c _ _ _ _).mono ?_; rintro e w' ⟨rfl, rfl⟩
                    rw [h3]
                    go_wp2_with fail
                    go_roundw
                    case rel => exact ⟨(m + 1) + 1, by omega, by go_num, HF.out, hG06⟩
                    case measure => simp [intOf]; omega
                · have HF : Hid (feE l = 7) := Lib.hid (by rw [H.out, HE.out, HS.out, if_neg (by simp [HK.out]), if_neg (by simp [HK2.out]), if_neg (by simp [HQ.out]), if_pos (by rw [HA1.out]; exact decide_eq_true hcf)])
                  go_region_held3 (fun w' => w'.cell? ⟨bb, bo + m * 3, none⟩ = some (.string q.1) ∧ w'.cell? ⟨bb, bo + m * 3 + 1, none⟩ = some (.string q.2.1) ∧ w'.cell? ⟨bb, bo + m * 3 + 2, none⟩ = some (.int .i64 q.2.2) ∧ w'.cell? ⟨g, 0, none⟩ = some (.string p.1) ∧ w'.cell? ⟨g, 1, none⟩ = some (.string p.2.1) ∧ w'.cell? ⟨g, 2, none⟩ = some (.int .i64 p.2.2)) (first | exact ⟨d0, d1, d2, c0, c1, c2⟩ | exact hS6 | go_keep) (first | (go_at_call 71; refine (compareFees_c q p _).mono ?_; rintro e w6 ⟨rfl, hG6⟩; have hG06 := hG7.drew.trans hG6; have hB8 := (hB7.quiet ((G.refl w5 none).drew)).quiet hG6; have hc2 : w6.cell? ⟨g, 2, none⟩ = some (.int .i64 p.2.2) := hB8.cell 2; have hbw := hG7.size; have hS6 : w6.cell? ⟨bb, bo + m * 3, none⟩ = some (.string q.1) ∧ w6.cell? ⟨bb, bo + m * 3 + 1, none⟩ = some (.string q.2.1) ∧ w6.cell? ⟨bb, bo + m * 3 + 2, none⟩ = some (.int .i64 q.2.2) ∧ w6.cell? ⟨g, 0, none⟩ = some (.string p.1) ∧ w6.cell? ⟨g, 1, none⟩ = some (.string p.2.1) ∧ w6.cell? ⟨g, 2, none⟩ = some (.int .i64 p.2.2) := ⟨((gcell hG6).1 bb _ (Nat.lt_of_lt_of_le hbb hbw)).trans d0, ((gcell hG6).1 bb _ (Nat.lt_of_lt_of_le hbb hbw)).trans d1, ((gcell hG6).1 bb _ (Nat.lt_of_lt_of_le hbb hbw)).trans d2, ((gcell hG6).1 g _ hg7).trans c0, ((gcell hG6).1 g _ hg7).trans c1, ((gcell hG6).1 g _ hg7).trans c2⟩))
                  go_wp2_with fail
                  go_ret
                  exact ⟨by rw [HF.out]; rfl, hG06⟩

      · obtain rfl : k = l.length := by omega
        have HE2 : Hid (feE l = 0) := Lib.hid (by rw [H.out, HE.out, List.drop_length]; rfl)
        go_wp2_with fail
        go_ret
        exact ⟨by rw [HE2.out]; rfl, hG⟩
end Go.Proofs.YtgofeigebldkiaaDoor
