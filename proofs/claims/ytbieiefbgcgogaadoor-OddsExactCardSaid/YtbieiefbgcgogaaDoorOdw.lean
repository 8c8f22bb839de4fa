/- Odds: the reference's OverOf and MostOf, for any bookings. -/
import Derived.Test.YtbieiefbgcgogaaDoorOdv
import Derived.Test.YtbieiefbgcgogaaDoorOdj
import Derived.Test.YtbieiefbgcgogaaDoorOdh
namespace Go.Proofs.YtbieiefbgcgogaaDoor
open Go.RowKit

set_option maxRecDepth 100000 in
set_option maxHeartbeats 4000000 in
theorem overOfP_c (v : Value) (l : List Bo) (u : Int) (w : World) (hr : RdR w 6 boC v l) (hn : l.length ≤ 9) (hp : PcOk l) :
    Calls Tryd.prog 20 #[v, .int .i64 u] w fun e w' => e = .returned (.agg (frV (ovF l u))) ∧ G w w' none := by
  have hG0 := (G.refl w none).alloc (.cells (frC 0 0) 35)
  have HR := Lib.hid (hr.quiet hG0)
  have hB0 := Bk.new w 35 (frC 0 0)
  obtain ⟨cl, cn, cs⟩ := cas_ok (pcs l) hp
  have hpl : (pcs l).length = l.length := by unfold pcs; rw [List.length_map]
  rw [hpl] at cl cs
  obtain ⟨b0, b1⟩ := ovS_bnd cn u (l.length + 1) (by omega)
  have b2 := take_le cn (l.length + 1)
  have hH1 := pow_le l.length hn
  have hH0 := pow_pos100 l.length
  have HF : Hid (lowF (ovS (cas (pcs l)) u (l.length + 1)) (100 ^ l.length) = ovF l u) := Lib.hid rfl
  have HU : Hid (∀ w : World, Calls Tryd.prog 70 #[.int .i64 l.length] w fun e w' => e = .returned (.int .i64 (100 ^ l.length)) ∧ w = w') := Lib.hid fun w => hundred_c l.length w hn
  have HP := Lib.hid hp
  obtain ⟨av, acap, rfl, hcap, hm⟩ := RdR.form hr
  clear hr hpl hp
  go_enter Tryd.func20, Tryd.ntmps20
  go_wp2_with fail
  refine (overOf_c _ l u _ HR.out hn HP.out).mono ?_; rintro e w2 ⟨rfl, hG2⟩
  have hB2 := hB0.quiet hG2
  have hG02 := hG0.trans hG2
  obtain ⟨A, hA⟩ : ∃ A, ovS (cas (pcs l)) u (l.length + 1) = A := ⟨_, rfl⟩
  obtain ⟨H, hH⟩ : ∃ H : Int, (100 : Int) ^ l.length = H := ⟨_, rfl⟩
  rw [hA, hH] at HF
  rw [hA] at b0 b1 ⊢
  rw [hH] at cs hH1 hH0 HU
  clear hA hH
  go_wp2_with fail
  refine (HU.out _).mono ?_; rintro e w' ⟨rfl, rfl⟩
  go_wp2_with fail
  refine (rlow_i A H _ b0 (by omega) hH0 hH1).mono ?_; rintro e w3 ⟨rfl, hG3⟩
  have hB3 := hB2.quiet hG3
  have hG03 := hG02.trans hG3
  obtain ⟨F, hFF⟩ : ∃ F, lowF A H = F := ⟨_, rfl⟩
  rw [hFF] at HF ⊢
  clear hFF
  go_wp2_with (refine wpList_store_row rfl 35 _ _ rfl w.heap.size (frC F.1 F.2) rfl rfl 35 _ hB3 (fr_info F.1 F.2) rfl (fr_one F.1 F.2) ?_)
  refine bodyPost_ret (results_cell_row rfl _ _ w.heap.size 35 (frC F.1 F.2) (0, 0) _ rfl (hB3.setRow _) Tryd.underlying35 rfl (fr_info F.1 F.2)) rfl ?_
  exact ⟨by rw [← HF.out]; rfl, hG03.setRow (.inl (Nat.le_refl _)) _⟩
theorem lowF_pos (n d : Int) (d0 : 0 < d) : 0 < (lowF n d).2 := by
  have h1 := low_den n.toNat d.toNat (by omega)
  show (0 : Int) < ((d.toNat / Nat.gcd d.toNat n.toNat : Nat) : Int)
  exact Int.natCast_pos.2 (Nat.pos_of_ne_zero h1)
theorem atM_c (x r : Fr) (w : World) (x1 : 0 ≤ x.1) (x2 : x.1 ≤ 1000000000000000000) (x3 : 0 < x.2) (x4 : x.2 ≤ 1000000000000000000) (r1 : 0 ≤ r.1) (r2 : r.1 ≤ 1000000) (r3 : 0 < r.2) (r4 : r.2 ≤ 1000000) :
    Calls Tryd.prog 72 #[.agg (frV x), .agg (frV r)] w fun e w' => e = .returned (.bool (!(grB x r))) ∧ G w w' none := by
  obtain ⟨a, b⟩ := x
  obtain ⟨c, d⟩ := r
  simp only at x1 x2 x3 x4 r1 r2 r3 r4
  obtain ⟨a', rfl⟩ := Int.eq_ofNat_of_zero_le x1
  obtain ⟨b', rfl⟩ := Int.eq_ofNat_of_zero_le (Int.le_of_lt x3)
  obtain ⟨c', rfl⟩ := Int.eq_ofNat_of_zero_le r1
  obtain ⟨d', rfl⟩ := Int.eq_ofNat_of_zero_le (Int.le_of_lt r3)
  have h := atMost_c a' b' c' d' (by omega) (by omega) (by omega) (by omega) (by omega) (by omega) w
  have e : decide (a' * d' ≤ c' * b') = !(grB ((a' : Int), (b' : Int)) ((c' : Int), (d' : Int))) := by
    show _ = !(decide (c' * b' < a' * d'))
    rw [Bool.eq_iff_iff]
    simp
  rw [e] at h
  exact h
def bestK (p : Nat → Bool) : Nat → Nat
  | 0 => 0
  | k + 1 => if p k = true then bestK p k else k
theorem best_most (p : Nat → Bool) : ∀ k, bestK p (k + 1) = mostK p k
  | 0 => by simp [bestK, mostK]
  | k + 1 => by
    have h := best_most p k
    show (if p (k + 1) = true then bestK p (k + 1) else k + 1) = if p (k + 1) = true then mostK p k else k + 1
    rw [h]
def MfRel (w : World) (l : List Bo) (u : Int) (r : Fr) (s7 s12 : Value) (wr : World) : Prop :=
  ∃ k : Nat, k ≤ l.length + 1 ∧ s12 = .int .i64 k ∧ s7 = .int .i64 (bestK (ovG l u r) k : Nat) ∧ Bk wr w.heap.size 35 (frC r.1 r.2) ∧ G w wr none
set_option maxRecDepth 100000 in
set_option maxHeartbeats 4000000 in
theorem mostOf_c (v : Value) (l : List Bo) (u : Int) (r : Fr) (w : World) (hr : RdR w 6 boC v l) (hn : l.length ≤ 9) (hp : PcOk l) (hrr : 0 ≤ r.1 ∧ r.1 ≤ 1000000 ∧ 0 < r.2 ∧ r.2 ≤ 1000000) :
    Calls Tryd.prog 21 #[v, .int .i64 u, .agg (frV r)] w fun e w' => e = .returned (.int .i64 (mostK (ovG l u r) l.length : Nat)) ∧ G w w' none := by
  have hG1 := (G.refl w none).alloc (.cells (frC r.1 r.2) 35)
  have hB1 := Bk.new w 35 (frC r.1 r.2)
  have hr0 := Lib.hid hr
  have HP := Lib.hid hp
  have HRB := Lib.hid hrr
  obtain ⟨r1, r2⟩ := r
  simp only [frV, frC] at hG1 hB1 ⊢
  obtain ⟨ad, cap, rfl, hcap, hm⟩ := RdR.form hr
  clear hr hp hrr
  go_enter Tryd.func21, Tryd.ntmps21
  go_wp2_with fail
  go_loopw [7, 12] (MfRel w l u (r1, r2)) (fun _ i _ => l.length + 1 - (intOf i).toNat)
  case atStart => exact ⟨0, Nat.zero_le _, rfl, rfl, hB1, hG1⟩
  case round =>
    clear hB1 hG1
    obtain ⟨k, hk, rfl, rfl, hB, hG⟩ := hrel
    by_cases hlt : k < l.length + 1
    · have hki : (k : Int) < (l.length : Int) + 1 := by omega
      go_wp2_with fail
      have hkl : k ≤ l.length := by omega
      have hBd := hB.quiet ((G.refl wr none).drew)
      have hGd := hG.drew
      have HPre := Lib.hid ((RdR.prefix_ boC_sz hr0.out k hkl).quiet hGd)
      have HPk := Lib.hid (And.intro (HP.out.take k) (show (l.take k).length ≤ 9 by rw [List.length_take]; omega))
      have HOB := Lib.hid (ovF_bnd (l.take k) u HPk.out.1 HPk.out.2)
      have HOP : Hid (0 < (ovF (l.take k) u).2) := Lib.hid (lowF_pos _ _ (pow_pos100 _))
      have hkc : (k : Int) ≤ cap := by omega
      have hkc' : k ≤ cap := by omega
      clear hB hG
      refine wp_region_held_drew (S := (fun w' => w'.cell? ⟨w.heap.size, 0, none⟩ = some (.int .i64 r1) ∧ w'.cell? ⟨w.heap.size, 1, none⟩ = some (.int .i64 r2))) (by kernel_rfl) ?_ (fun hHeld => ?_)
      · exact ⟨hBd.cell 0, hBd.cell 1⟩
      refine wpAnyH_take (i := 0) (oi := { dst := some 15, op := Op.move (Operand.tmp 0), type := 26, pos := "books.go:362", after := #[], guard := none }) (v := ?_) rfl (by kernel_rfl) (by kernel_rfl) (by kernel_rfl) (fun _ _ _ h => h) (Or.inl ⟨by rfl, ?_⟩) (by assumption) ?_
      rotate_left
      · (intro w hSw; obtain ⟨s0, s1⟩ := hSw; (go_simp <;> with_reducible rfl))
      try simp only [Act.put, List.setIfInBounds_toArray, List.set_cons_zero, List.set_cons_succ]
      refine wpAnyH_take (i := 1) (oi := { dst := some 16, op := Op.move (Operand.tmp 8), type := 3, pos := "books.go:362", after := #[], guard := none }) (v := ?_) rfl (by kernel_rfl) (by kernel_rfl) (by kernel_rfl) (fun _ _ _ h => h) (Or.inl ⟨by rfl, ?_⟩) (by assumption) ?_
      rotate_left
      · (intro w hSw; obtain ⟨s0, s1⟩ := hSw; (go_simp <;> with_reducible rfl))
      try simp only [Act.put, List.setIfInBounds_toArray, List.set_cons_zero, List.set_cons_succ]
      refine wpAnyH_take (i := 2) (oi := { dst := some 17, op := Op.slice 26 (Operand.tmp 15) none (some (Operand.tmp 16)) none, type := 26, pos := "books.go:362", after := #[{ on := 0, ground := Ground.data }, { on := 1, ground := Ground.data }], guard := none }) (v := ?_) rfl (by kernel_rfl) (by kernel_rfl) (by kernel_rfl) (fun _ _ _ h => h) (Or.inl ⟨by rfl, ?_⟩) (by assumption) ?_
      rotate_left
      · (intro w hSw; obtain ⟨s0, s1⟩ := hSw; (go_simp <;> with_reducible rfl))
      try simp only [Act.put, List.setIfInBounds_toArray, List.set_cons_zero, List.set_cons_succ]
      refine wpAnyH_take (i := 3) (oi := { dst := some 18, op := Op.move (Operand.tmp 1), type := 3, pos := "books.go:362", after := #[], guard := none }) (v := ?_) rfl (by kernel_rfl) (by kernel_rfl) (by kernel_rfl) (fun _ _ _ h => h) (Or.inl ⟨by rfl, ?_⟩) (by assumption) ?_
      rotate_left
      · (intro w hSw; obtain ⟨s0, s1⟩ := hSw; (go_simp <;> with_reducible rfl))
      try simp only [Act.put, List.setIfInBounds_toArray, List.set_cons_zero, List.set_cons_succ]
      refine wpAnyH_take (i := 5) (oi := { dst := some 20, op := Op.load 35 (Operand.tmp 5), type := 35, pos := "books.go:362", after := #[], guard := none }) (v := ?_) rfl (by kernel_rfl) (by kernel_rfl) (by kernel_rfl) (fun _ _ _ h => h) (Or.inl ⟨by rfl, ?_⟩) (by assumption) ?_
      rotate_left
      · (intro w hSw; obtain ⟨s0, s1⟩ := hSw; (go_simp <;> with_reducible rfl))
      try simp only [Act.put, List.setIfInBounds_toArray, List.set_cons_zero, List.set_cons_succ]
      refine wpAnyH_ready (rs := [4]) (by kernel_rfl) (by simp) ?_
      refine AllReadyH.cons (o := { dst := some 19, op := Op.call { callee := Callee.value (Operand.func 20), args := #[Operand.tmp 17, Operand.tmp 18], argTypes := #[26, 3] }, type := 35, pos := "books.go:362", after := #[{ on := 2, ground := Ground.data }, { on := 3, ground := Ground.data }], guard := none }) rfl (fun K hK => ?_) AllReadyH.nil
      go_simp
      refine (overOfP_c _ (l.take k) u _ HPre.out HPk.out.2 HPk.out.1).mono ?_
      rintro e y1 ⟨rfl, hH⟩
      have hB1 := hBd.quiet hH
      have hG1 := hGd.trans hH
      clear hH
      refine hK.out _ _ ?_ (fun hHeld => ?_)
      · exact ⟨hB1.cell 0, hB1.cell 1⟩
      clear hK K
      try simp only [Act.put, List.setIfInBounds_toArray, List.set_cons_zero, List.set_cons_succ]
      refine wpAnyH_ready (rs := [6]) (by kernel_rfl) (by simp) ?_
      refine AllReadyH.cons (o := { dst := some 21, op := Op.call { callee := Callee.value (Operand.func 72), args := #[Operand.tmp 19, Operand.tmp 20], argTypes := #[35, 35] }, type := 4, pos := "books.go:362", after := #[{ on := 4, ground := Ground.data }, { on := 5, ground := Ground.data }, { on := 4, ground := Ground.chain }], guard := none }) rfl (fun K hK => ?_) AllReadyH.nil
      go_simp
      refine (atM_c (ovF (l.take k) u) (r1, r2) _ HOB.out.1 HOB.out.2.1 HOP.out HOB.out.2.2.2 HRB.out.1 HRB.out.2.1 HRB.out.2.2.1 HRB.out.2.2.2).mono ?_
      rintro e y2 ⟨rfl, hH⟩
      have hB3 := hB1.quiet hH
      have hG3 := hG1.trans hH
      clear hH
      refine hK.out _ _ ?_ (fun hHeld => ?_)
      · exact ⟨hB3.cell 0, hB3.cell 1⟩
      clear hK K
      try simp only [Act.put, List.setIfInBounds_toArray, List.set_cons_zero, List.set_cons_succ]
      refine wpAnyH_done (by kernel_rfl) ?_ _
      obtain ⟨F, hFF⟩ : ∃ F, ovF (l.take k) u = F := ⟨_, rfl⟩
      rw [hFF]
      clear hBd hGd hB1 hG1 HOB HPk HPre HOP
      cases hg : grB F (r1, r2) with
      | true =>
        have hp : ovG l u (r1, r2) k = true := by unfold ovG; rw [hFF]; exact hg
        have HB : Hid (bestK (ovG l u (r1, r2)) (k + 1) = bestK (ovG l u (r1, r2)) k) := Lib.hid (if_pos hp)
        clear hp hg hFF
        go_wp2_with fail
        go_roundw
        case rel => exact ⟨k + 1, by omega, by go_num, by rw [HB.out], hB3, hG3⟩
        case measure => simp [intOf]; omega
      | false =>
        have hp : ovG l u (r1, r2) k = false := by unfold ovG; rw [hFF]; exact hg
        have HB : Hid (bestK (ovG l u (r1, r2)) (k + 1) = k) := Lib.hid (if_neg (by rw [hp]; decide))
        clear hp hg hFF
        go_wp2_with fail
        go_roundw
        case rel => exact ⟨k + 1, by omega, by go_num, by rw [HB.out], hB3, hG3⟩
        case measure => simp [intOf]; omega
    · obtain rfl : k = l.length + 1 := by omega
      have hnk : ¬ ((l.length : Int) + 1 < (l.length : Int) + 1) := by omega
      have hb := best_most (ovG l u (r1, r2)) l.length
      rw [hb]
      clear hb
      go_wp2_with fail
      go_ret
      exact ⟨rfl, hG⟩
end Go.Proofs.YtbieiefbgcgogaaDoor
