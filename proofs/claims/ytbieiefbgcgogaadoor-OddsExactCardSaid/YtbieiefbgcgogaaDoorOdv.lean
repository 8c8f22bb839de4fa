/- Odds: the reference's overOf and OverOf, for any bookings. -/
import Derived.Test.YtbieiefbgcgogaaDoorOdu
import Derived.Test.YtbieiefbgcgogaaDoorOdf
namespace Go.Proofs.YtbieiefbgcgogaaDoor
open Go.RowKit

theorem low_mul (x h : Nat) (hh : 0 < h) : x / Nat.gcd h x * (h / (h / Nat.gcd h x)) = x := by
  rw [Nat.div_div_self (Nat.gcd_dvd_left h x) (by omega)]
  exact Nat.div_mul_cancel (Nat.gcd_dvd_right h x)
theorem low_den (x h : Nat) (hh : 0 < h) : h / Nat.gcd h x ≠ 0 := by
  have := Nat.div_pos (Nat.le_of_dvd hh (Nat.gcd_dvd_left h x)) (Nat.gcd_pos_of_pos_left x hh)
  omega
def OoRel (w : World) (c : List Int) (u : Int) (s5 s11 : Value) (wr : World) : Prop :=
  ∃ k : Nat, k ≤ c.length ∧ s11 = .int .i64 k ∧ s5 = .int .i64 (ovS c u k) ∧ G w wr none
set_option maxRecDepth 100000 in
set_option maxHeartbeats 8000000 in
theorem overOf_c (v : Value) (l : List Bo) (u : Int) (w : World) (hr : RdR w 6 boC v l) (hn : l.length ≤ 9) (hp : PcOk l) :
    Calls Tryd.prog 71 #[v, .int .i64 u] w fun e w' => e = .returned (.int .i64 (ovS (cas (pcs l)) u (l.length + 1))) ∧ G w w' none := by
  have HR := Lib.hid hr
  obtain ⟨cl, cn, cs⟩ := cas_ok (pcs l) hp
  have hpl : (pcs l).length = l.length := by unfold pcs; rw [List.length_map]
  rw [hpl] at cl cs
  have HPC := Lib.hid hp
  have HM : Hid (spL l = (cas (pcs l)).map fun n => lowF n (100 ^ l.length)) := Lib.hid rfl
  have hlen : (spL l).length = l.length + 1 := by rw [HM.out, List.length_map, cl]
  obtain ⟨c, hc⟩ : ∃ c, cas (pcs l) = c := ⟨_, rfl⟩
  rw [hc] at cl cn cs HM ⊢
  obtain ⟨av, acap, rfl, hcap, hm⟩ := RdR.form hr
  clear hr hp hpl hc
  go_enter Tryd.func71, Tryd.ntmps71
  go_wp2_with fail
  refine (spreadOf_c _ l _ HR.out hn HPC.out).mono ?_; rintro e w2 ⟨s, rfl, hS, hG2⟩
  have HS := Lib.hid hS
  obtain ⟨ad, cap, rfl, hcap2, hm2⟩ := RdR.form hS
  rw [hlen] at HS hcap2 ⊢
  clear hS hlen
  go_wp2_with fail
  go_loopw [5, 11] (fun s5 s11 wr => OoRel w2 c u s5 s11 wr) (fun _ i _ => c.length - (intOf i).toNat)
  case atStart => exact ⟨0, Nat.zero_le _, rfl, rfl, G.refl _ _⟩
  case round =>
    obtain ⟨k, hkc, rfl, rfl, hG⟩ := hrel
    by_cases hlt : k < l.length + 1
    · have hck : c[k]? = some (c.getD k 0) := by simp [List.getD, show k < c.length by omega]
      have hfk : (spL l)[k]? = some (lowF (c.getD k 0) (100 ^ l.length)) := by rw [HM.out, List.getElem?_map, hck]; rfl
      obtain ⟨bb, bo, rfl, hbb, _⟩ := RdR.elem frV_sz HS.out hG hfk
      have HW : Hid (∀ j v, (frV (lowF (c.getD k 0) (100 ^ l.length))).toList[j]? = some v → wr.cell? ((⟨bb, bo + k * 2, none⟩ : Addr).add j) = some v) := Lib.hid fun j v hv => by
        rw [add_at]
        exact RdR.cell frV_sz HS.out hG hfk j v hv
      have hki : (k : Int) < (l.length : Int) + 1 := by omega
      have hk0 : (0 : Int) ≤ (k : Int) := by omega
      obtain ⟨b0, b1⟩ := ovS_bnd cn u k (by omega)
      have b2 := take_le cn k
      have e0 := cn.getD k
      have e1 := take_sum c k (by omega)
      have e2 := take_le cn (k + 1)
      have hH1 := pow_le l.length hn
      have hH0 := pow_pos100 l.length
      have hG1 := hG.alloc (.cells (frV (lowF (c.getD k 0) (100 ^ l.length))) 35)
      clear hfk hck
      rcases (show u < (k : Int) ∨ (k : Int) ≤ u by omega) with hu | hu
      · have HO : Hid (ovS c u (k + 1) = ovS c u k + c.getD k 0) := Lib.hid (by show (if u < (k : Int) then _ else _) = _; rw [if_pos hu])
        have HU := Lib.hid (hundred_c l.length · hn)
        obtain ⟨h, hh⟩ := Int.eq_ofNat_of_zero_le (Int.le_of_lt hH0)
        obtain ⟨x, hx⟩ := Int.eq_ofNat_of_zero_le e0
        rw [hh] at hH0 hH1 cs HU
        rw [hh, hx] at HW hG1
        rw [hx] at e1 e0 HO
        obtain ⟨A, hA⟩ : ∃ A, ovS c u k = A := ⟨_, rfl⟩
        rw [hA] at HO b0 b1 ⊢
        obtain ⟨f1, hf1⟩ : ∃ f, x / Nat.gcd h x = f := ⟨_, rfl⟩
        obtain ⟨f2, hf2⟩ : ∃ f, h / Nat.gcd h x = f := ⟨_, rfl⟩
        obtain ⟨q, hq⟩ : ∃ q, h / f2 = q := ⟨_, rfl⟩
        have hfq : f1 * q = x := by rw [← hf1, ← hq, ← hf2]; exact low_mul x h (by omega)
        have hf20 : ¬ f2 = 0 := by rw [← hf2]; exact low_den x h (by omega)
        have hfr : frV (lowF ((x : Nat) : Int) ((h : Nat) : Int)) = #[.int .i64 f1, .int .i64 f2] := by rw [← hf1, ← hf2]; rfl
        rw [hfr] at HW hG1
        have hwq := quo_wrap h f2 q (by omega) hq
        have hwm : IntKind.i64.wrap ((f1 : Int) * (q : Int)) = (x : Int) := by rw [← Int.natCast_mul, hfq, IntKind.wrap_i64]; omega
        have hwa : IntKind.i64.wrap (A + (x : Int)) = A + (x : Int) := by rw [IntKind.wrap_i64]; omega
        clear hA hf1 hf2 hq hfq hfr hh hx b0 b1 b2 e0 e1 e2 hG
        go_wp2_with (refine wpList_load_at rfl 35 _ rfl ⟨bb, bo + k * 2, none⟩ rfl #[.int .i64 f1, .int .i64 f2] _ HW.out Tryd.underlying35 rfl (fr_info f1 f2) ?_)
        have hX5 := Bk.new wr 35 #[.int .i64 f1, .int .i64 f2]
        generalize wr.alloc (.cells #[.int .i64 f1, .int .i64 f2] 35) = w5 at hX5 hG1 ⊢
        generalize wr.heap.size = gb at hX5 ⊢
        have hXd := hX5.quiet ((G.refl w5 none).drew)
        have hGq := hG1.drew
        clear hX5 hG1
        refine wp_region_held_drew (S := (fun w' => w'.cell? ⟨gb, 0, none⟩ = some (.int .i64 f1) ∧ w'.cell? ⟨gb, 1, none⟩ = some (.int .i64 f2))) (by kernel_rfl) ?_ (fun hHeld => ?_)
        · exact ⟨hXd.cell 0, hXd.cell 1⟩
        refine wpAnyH_take (i := 0) (oi := { dst := some 19, op := Op.move (Operand.tmp 5), type := 3, pos := "books.go:331", after := #[], guard := none }) (v := ?_) rfl (by kernel_rfl) (by kernel_rfl) (by kernel_rfl) (fun _ _ _ h => h) (Or.inl ⟨by rfl, ?_⟩) (by assumption) ?_
        rotate_left
        · (intro w hSw; obtain ⟨s0, s1⟩ := hSw; (go_simp <;> with_reducible rfl))
        try simp only [Act.put, List.setIfInBounds_toArray, List.set_cons_zero, List.set_cons_succ]
        refine wpAnyH_take (i := 1) (oi := { dst := some 20, op := Op.fieldAddr 35 (Operand.tmp 7) 0, type := 0, pos := "books.go:331", after := #[], guard := none }) (v := ?_) rfl (by kernel_rfl) (by kernel_rfl) (by kernel_rfl) (fun _ _ _ h => h) (Or.inl ⟨by rfl, ?_⟩) (by assumption) ?_
        rotate_left
        · (intro w hSw; obtain ⟨s0, s1⟩ := hSw; (go_simp <;> with_reducible rfl))
        try simp only [Act.put, List.setIfInBounds_toArray, List.set_cons_zero, List.set_cons_succ]
        refine wpAnyH_take (i := 2) (oi := { dst := some 21, op := Op.load 3 (Operand.tmp 20), type := 3, pos := "books.go:331", after := #[{ on := 1, ground := Ground.data }], guard := none }) (v := ?_) rfl (by kernel_rfl) (by kernel_rfl) (by kernel_rfl) (fun _ _ _ h => h) (Or.inl ⟨by rfl, ?_⟩) (by assumption) ?_
        rotate_left
        · (intro w hSw; obtain ⟨s0, s1⟩ := hSw; (go_simp <;> with_reducible rfl))
        try simp only [Act.put, List.setIfInBounds_toArray, List.set_cons_zero, List.set_cons_succ]
        refine wpAnyH_take (i := 3) (oi := { dst := some 22, op := Op.move (Operand.tmp 0), type := 26, pos := "books.go:331", after := #[], guard := none }) (v := ?_) rfl (by kernel_rfl) (by kernel_rfl) (by kernel_rfl) (fun _ _ _ h => h) (Or.inl ⟨by rfl, ?_⟩) (by assumption) ?_
        rotate_left
        · (intro w hSw; obtain ⟨s0, s1⟩ := hSw; (go_simp <;> with_reducible rfl))
        try simp only [Act.put, List.setIfInBounds_toArray, List.set_cons_zero, List.set_cons_succ]
        refine wpAnyH_take (i := 4) (oi := { dst := some 23, op := Op.call { callee := Callee.builtin Builtin.len, args := #[Operand.tmp 22], argTypes := #[26] }, type := 3, pos := "books.go:331", after := #[{ on := 3, ground := Ground.data }], guard := none }) (v := ?_) rfl (by kernel_rfl) (by kernel_rfl) (by kernel_rfl) (fun _ _ _ h => h) (Or.inl ⟨by rfl, ?_⟩) (by assumption) ?_
        rotate_left
        · (intro w hSw; obtain ⟨s0, s1⟩ := hSw; (go_simp <;> with_reducible rfl))
        try simp only [Act.put, List.setIfInBounds_toArray, List.set_cons_zero, List.set_cons_succ]
        refine wpAnyH_take (i := 6) (oi := { dst := some 25, op := Op.fieldAddr 35 (Operand.tmp 7) 1, type := 0, pos := "books.go:331", after := #[], guard := none }) (v := ?_) rfl (by kernel_rfl) (by kernel_rfl) (by kernel_rfl) (fun _ _ _ h => h) (Or.inl ⟨by rfl, ?_⟩) (by assumption) ?_
        rotate_left
        · (intro w hSw; obtain ⟨s0, s1⟩ := hSw; (go_simp <;> with_reducible rfl))
        try simp only [Act.put, List.setIfInBounds_toArray, List.set_cons_zero, List.set_cons_succ]
        refine wpAnyH_take (i := 7) (oi := { dst := some 26, op := Op.load 3 (Operand.tmp 25), type := 3, pos := "books.go:331", after := #[{ on := 6, ground := Ground.data }], guard := none }) (v := ?_) rfl (by kernel_rfl) (by kernel_rfl) (by kernel_rfl) (fun _ _ _ h => h) (Or.inl ⟨by rfl, ?_⟩) (by assumption) ?_
        rotate_left
        · (intro w hSw; obtain ⟨s0, s1⟩ := hSw; (go_simp <;> with_reducible rfl))
        try simp only [Act.put, List.setIfInBounds_toArray, List.set_cons_zero, List.set_cons_succ]
        refine wpAnyH_ready (rs := [5]) (by kernel_rfl) (by simp) ?_
        refine AllReadyH.cons (o := { dst := some 24, op := Op.call { callee := Callee.value (Operand.func 70), args := #[Operand.tmp 23], argTypes := #[3] }, type := 3, pos := "books.go:331", after := #[{ on := 4, ground := Ground.data }], guard := none }) rfl (fun K hK => ?_) AllReadyH.nil
        go_simp
        refine (HU.out _).mono ?_; rintro e y1 ⟨rfl, rfl⟩
        refine hK.out _ _ ?_ (fun hHeld => ?_)
        · exact ⟨hXd.cell 0, hXd.cell 1⟩
        clear hK K
        try simp only [Act.put, List.setIfInBounds_toArray, List.set_cons_zero, List.set_cons_succ]
        refine wpAnyH_take (i := 8) (oi := { dst := some 27, op := Op.binOp BinOp.quo 3 (Operand.tmp 24) (Operand.tmp 26) 3, type := 3, pos := "books.go:331", after := #[{ on := 5, ground := Ground.data }, { on := 7, ground := Ground.data }], guard := none }) (v := ?_) rfl (by kernel_rfl) (by kernel_rfl) (by kernel_rfl) (fun _ _ _ h => h) (Or.inl ⟨by rfl, ?_⟩) (by assumption) ?_
        rotate_left
        · (intro w hSw; obtain ⟨s0, s1⟩ := hSw; (go_simp <;> with_reducible rfl))
        try simp only [Act.put, List.setIfInBounds_toArray, List.set_cons_zero, List.set_cons_succ]
        refine wpAnyH_take (i := 9) (oi := { dst := some 28, op := Op.binOp BinOp.mul 3 (Operand.tmp 21) (Operand.tmp 27) 3, type := 3, pos := "books.go:331", after := #[{ on := 2, ground := Ground.data }, { on := 8, ground := Ground.data }], guard := none }) (v := ?_) rfl (by kernel_rfl) (by kernel_rfl) (by kernel_rfl) (fun _ _ _ h => h) (Or.inl ⟨by rfl, ?_⟩) (by assumption) ?_
        rotate_left
        · (intro w hSw; obtain ⟨s0, s1⟩ := hSw; (go_simp <;> with_reducible rfl))
        try simp only [Act.put, List.setIfInBounds_toArray, List.set_cons_zero, List.set_cons_succ]
        refine wpAnyH_take (i := 10) (oi := { dst := some 29, op := Op.binOp BinOp.add 3 (Operand.tmp 19) (Operand.tmp 28) 3, type := 3, pos := "books.go:331", after := #[{ on := 0, ground := Ground.data }, { on := 9, ground := Ground.data }], guard := none }) (v := ?_) rfl (by kernel_rfl) (by kernel_rfl) (by kernel_rfl) (fun _ _ _ h => h) (Or.inl ⟨by rfl, ?_⟩) (by assumption) ?_
        rotate_left
        · (intro w hSw; obtain ⟨s0, s1⟩ := hSw; (go_simp <;> with_reducible rfl))
        try simp only [Act.put, List.setIfInBounds_toArray, List.set_cons_zero, List.set_cons_succ]
        refine wpAnyH_take (i := 11) (oi := { dst := some 5, op := Op.assign (Operand.tmp 29), type := 3, pos := "books.go:331", after := #[{ on := 10, ground := Ground.data }, { on := 5, ground := Ground.chain }, { on := 0, ground := Ground.phase }, { on := 1, ground := Ground.phase }, { on := 2, ground := Ground.phase }, { on := 3, ground := Ground.phase }, { on := 4, ground := Ground.phase }, { on := 5, ground := Ground.phase }, { on := 6, ground := Ground.phase }, { on := 7, ground := Ground.phase }, { on := 8, ground := Ground.phase }, { on := 9, ground := Ground.phase }, { on := 10, ground := Ground.phase }], guard := none }) (v := ?_) rfl (by kernel_rfl) (by kernel_rfl) (by kernel_rfl) (fun _ _ _ h => h) (Or.inl ⟨by rfl, ?_⟩) (by assumption) ?_
        rotate_left
        · (intro w hSw; obtain ⟨s0, s1⟩ := hSw; (go_simp <;> with_reducible rfl))
        try simp only [Act.put, List.setIfInBounds_toArray, List.set_cons_zero, List.set_cons_succ]
        refine wpAnyH_done (by kernel_rfl) ?_ _
        go_wp2_with fail
        go_roundw
        case rel => exact ⟨k + 1, by omega, by go_num, by rw [HO.out], hGq⟩
        case measure => simp [intOf]; omega
      · have HO : Hid (ovS c u (k + 1) = ovS c u k) := Lib.hid (by show (if u < (k : Int) then _ else _) = _; rw [if_neg (by omega)])
        have hnu : ¬ u < (k : Int) := by omega
        obtain ⟨A, hA⟩ : ∃ A, ovS c u k = A := ⟨_, rfl⟩
        rw [hA] at HO ⊢
        obtain ⟨F, hF⟩ : ∃ F, lowF (c.getD k 0) (100 ^ l.length) = F := ⟨_, rfl⟩
        rw [hF] at HW hG1
        clear hA hF b0 b1 b2 e0 e1 e2 hG
        go_wp2_with (refine wpList_load_at rfl 35 _ rfl ⟨bb, bo + k * 2, none⟩ rfl #[.int .i64 F.1, .int .i64 F.2] _ HW.out Tryd.underlying35 rfl (fr_info F.1 F.2) ?_)
        go_roundw
        case rel => exact ⟨k + 1, by omega, by go_num, by rw [HO.out], hG1⟩
        case measure => simp [intOf]; omega
    · obtain rfl : k = l.length + 1 := by omega
      have hnk : ¬ ((l.length : Int) + 1 < (l.length : Int) + 1) := by omega
      go_wp2_with fail
      go_ret
      exact ⟨rfl, hG2.trans hG⟩
end Go.Proofs.YtbieiefbgcgogaaDoor
