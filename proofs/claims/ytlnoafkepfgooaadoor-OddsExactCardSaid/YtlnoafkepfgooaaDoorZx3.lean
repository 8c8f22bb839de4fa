/- Odh, Odw, Ows, GenK, Ocl, Lay. -/
import Derived.Test.YtlnoafkepfgooaaDoorZx2
import Derived.Test.YtlnoafkepfgooaaDoorZx1
import Derived.Deep.CutRange
import Derived.Test.YtlnoafkepfgooaaDoorRows
import Derived.Test.YtlnoafkepfgooaaDoorTie
import Derived.Test.YtlnoafkepfgooaaDoorCards
import Derived.LaidMore
import Derived.ChangeSame
import Derived.ProofKit
import Derived.OpenShut
import Derived.PinnedBridge
import Derived.Deep.DeepHandedRow
import Derived.Deep.DeepWitnessRowRef
/- Odds: Most, for any bookings. -/
namespace Go.Proofs.YtlnoafkepfgooaaDoor
open Go.RowKit Go.Shelf

/-- The greatest k, up to the given one, that is none of these; 0 if there is none. -/
def mostK (p : Nat → Bool) : Nat → Nat
  | 0 => 0
  | k + 1 => if p (k + 1) = true then mostK p k else k + 1
def grB (x r : Fr) : Bool := decide (r.1.toNat * x.2.toNat < x.1.toNat * r.2.toNat)
def ovG (l : List Bo) (u : Int) (r : Fr) (k : Nat) : Bool := grB (ovF (l.take k) u) r
def riB (r : Fr) : Bool := inB r.2 1 1000000 && inB r.1 0 r.2
def moE (l : List Bo) (u : Int) (r : Fr) : Int := if cuE l u = 0 then (if riB r = false then 1 else 0) else cuE l u
def moN (l : List Bo) (u : Int) (r : Fr) : Int := if moE l u r = 0 then (mostK (ovG l u r) l.length : Nat) else 0
theorem grB_c (x r : Fr) (w : World) (x1 : 0 ≤ x.1) (x2 : x.1 ≤ 1000000000000000000) (x3 : 0 ≤ x.2) (x4 : x.2 ≤ 1000000000000000000) (r1 : 0 ≤ r.1) (r2 : r.1 ≤ 1000000) (r3 : 0 ≤ r.2) (r4 : r.2 ≤ 1000000) :
    Calls Tryd.prog 40 #[.agg (frV x), .agg (frV r)] w fun e w' => e = .returned (.bool (grB x r)) ∧ G w w' none := by
  obtain ⟨a, b⟩ := x
  obtain ⟨c, d⟩ := r
  simp only at x1 x2 x3 x4 r1 r2 r3 r4
  obtain ⟨a', rfl⟩ := Int.eq_ofNat_of_zero_le x1
  obtain ⟨b', rfl⟩ := Int.eq_ofNat_of_zero_le x3
  obtain ⟨c', rfl⟩ := Int.eq_ofNat_of_zero_le r1
  obtain ⟨d', rfl⟩ := Int.eq_ofNat_of_zero_le r3
  exact isGreater_c a' b' c' d' (by omega) (by omega) (by omega) (by omega) w
theorem lowF_bnd (n d : Int) (n0 : 0 ≤ n) (hn : n ≤ 1000000000000000000) (d0 : 0 < d) (hd : d ≤ 1000000000000000000) :
    0 ≤ (lowF n d).1 ∧ (lowF n d).1 ≤ 1000000000000000000 ∧ 0 ≤ (lowF n d).2 ∧ (lowF n d).2 ≤ 1000000000000000000 := by
  have h1 := Nat.div_le_self n.toNat (Nat.gcd d.toNat n.toNat)
  have h2 := Nat.div_le_self d.toNat (Nat.gcd d.toNat n.toNat)
  refine ⟨Int.natCast_nonneg _, ?_, Int.natCast_nonneg _, ?_⟩
  · have h3 : ((n.toNat / Nat.gcd d.toNat n.toNat : Nat) : Int) ≤ (n.toNat : Nat) := Int.ofNat_le.2 h1
    exact Int.le_trans h3 (by omega)
  · have h3 : ((d.toNat / Nat.gcd d.toNat n.toNat : Nat) : Int) ≤ (d.toNat : Nat) := Int.ofNat_le.2 h2
    exact Int.le_trans h3 (by omega)
theorem ovF_bnd (l : List Bo) (u : Int) (hp : PcOk l) (h9 : l.length ≤ 9) :
    0 ≤ (ovF l u).1 ∧ (ovF l u).1 ≤ 1000000000000000000 ∧ 0 ≤ (ovF l u).2 ∧ (ovF l u).2 ≤ 1000000000000000000 := by
  obtain ⟨cl, cn, cs⟩ := cas_ok (pcs l) hp
  have hpl : (pcs l).length = l.length := by unfold pcs; rw [List.length_map]
  rw [hpl] at cl cs
  obtain ⟨b0, b1⟩ := ovS_bnd cn u (l.length + 1) (by omega)
  have b2 := take_le cn (l.length + 1)
  have hH1 := pow_le l.length h9
  exact lowF_bnd _ _ b0 (by omega) (pow_pos100 l.length) hH1
theorem PcOk.take {l : List Bo} (h : PcOk l) (k : Nat) : PcOk (l.take k) := fun p hp => by
  unfold pcs at hp
  rw [List.map_take] at hp
  exact h p (List.mem_of_mem_take hp)
theorem ov_zero (l : List Bo) (u : Int) (r : Fr) (hu : 0 ≤ u) : ovG l u r 0 = false := by
  have h1 : ovF [] u = (0, 1) := by
    show lowF (ovS [1] u 1) 1 = (0, 1)
    have h2 : ovS [1] u 1 = 0 := by
      show (if u < ((0 : Nat) : Int) then _ else _) = _
      rw [if_neg (by omega)]
      rfl
    rw [h2]
    rfl
  show grB (ovF [] u) r = false
  rw [h1]
  unfold grB
  rw [decide_eq_false_iff_not]
  show ¬ _ < (0 : Int).toNat * _
  simp
def MoRel (w : World) (l : List Bo) (u : Int) (r : Fr) (s9 : Value) (wr : World) : Prop :=
  ∃ k : Nat, k ≤ l.length ∧ s9 = .int .i64 k ∧ mostK (ovG l u r) l.length = mostK (ovG l u r) k ∧ Bk wr w.heap.size 35 (frC r.1 r.2) ∧ G w wr none
set_option maxRecDepth 100000 in
set_option maxHeartbeats 4000000 in
theorem most_c (v : Value) (l : List Bo) (u : Int) (r : Fr) (w : World) (hr : RdR w 6 boC v l) (hl : BoOk l) (hn : l.length ≤ 1000) :
    Calls Tryd.prog 11 #[v, .int .i64 u, .agg (frV r)] w fun e w' => e = .returned (.tuple #[.int .i64 (moN l u r), .int .i64 (moE l u r)]) ∧ G w w' none := by
  have hG1 := (G.refl w none).alloc (.cells (frC r.1 r.2) 35)
  have HR := Lib.hid (hr.quiet hG1)
  have hB1 := Bk.new w 35 (frC r.1 r.2)
  have hr0 := Lib.hid hr
  obtain ⟨r1, r2⟩ := r
  simp only [frV, frC] at hG1 hB1 HR ⊢
  go_enter Tryd.func11, Tryd.ntmps11
  go_wp2_with fail
  refine (checkUnits_c v l u _ HR.out hl hn).mono ?_; rintro e w2 ⟨rfl, hG2⟩
  have hB2 := hB1.quiet hG2
  have hG02 := hG1.trans hG2
  by_cases h0 : cuE l u = 0
  · have hok := cuE_ok h0
    have hu0 : Hid (0 ≤ u) := Lib.hid (by have h := hok.2.2; simp only [inB, Bool.and_eq_true, decide_eq_true_eq] at h; exact h.1)
    have HE : Hid (moE l u (r1, r2) = if riB (r1, r2) = false then 1 else 0) := Lib.hid (if_pos h0)
    rw [h0]
    clear h0 hB1 hG1 HR hG2
    have n0 : w2.cell? ⟨w.heap.size, 0, none⟩ = some (.int .i64 r1) := hB2.cell 0
    have n1 : w2.cell? ⟨w.heap.size, 1, none⟩ = some (.int .i64 r2) := hB2.cell 1
    go_wp2_with fail
    refine (within_c _ _ _ _).mono ?_; rintro e w' ⟨rfl, rfl⟩
    cases hu : inB r2 1 1000000 with
    | false =>
      have HF : Hid (moE l u (r1, r2) = 1) := Lib.hid (by rw [HE.out, if_pos (by simp [riB, hu])])
      have HN : Hid (moN l u (r1, r2) = 0) := Lib.hid (by rw [moN, if_neg (by rw [HF.out]; decide)])
      go_wp2_with fail
      go_ret2
      exact ⟨by rw [HF.out, HN.out]; rfl, hG02⟩
    | true =>
      go_wp2_with fail
      refine (within_c _ _ _ _).mono ?_; rintro e w' ⟨rfl, rfl⟩
      cases hv : inB r1 0 r2 with
      | false =>
        have HF : Hid (moE l u (r1, r2) = 1) := Lib.hid (by rw [HE.out, if_pos (by simp [riB, hu, hv])])
        have HN : Hid (moN l u (r1, r2) = 0) := Lib.hid (by rw [moN, if_neg (by rw [HF.out]; decide)])
        go_wp2_with fail
        go_ret2
        exact ⟨by rw [HF.out, HN.out]; rfl, hG02⟩
      | true =>
        have HF : Hid (moE l u (r1, r2) = 0) := Lib.hid (by rw [HE.out, if_neg (by simp [riB, hu, hv])])
        have HN : Hid (moN l u (r1, r2) = (mostK (ovG l u (r1, r2)) l.length : Nat)) := Lib.hid (by rw [moN, if_pos HF.out])
        have HRB : Hid (0 ≤ r1 ∧ r1 ≤ 1000000 ∧ 0 ≤ r2 ∧ r2 ≤ 1000000) := Lib.hid (by simp only [inB, Bool.and_eq_true, decide_eq_true_eq] at hu hv; omega)
        obtain ⟨ad, cap, rfl, hcap, hm⟩ := RdR.form hr
        clear hr
        go_wp2_with fail
        go_loopw [9] (MoRel w l u (r1, r2)) (fun i _ => (intOf i).toNat)
        case atStart => exact ⟨l.length, Nat.le_refl _, rfl, rfl, hB2, hG02⟩
        case round =>
          clear hB2 hG02 n0 n1
          obtain ⟨k, hk, rfl, hmk, hB, hG⟩ := hrel
          go_wp2_with fail
          have hBd := hB.quiet ((G.refl wr none).drew)
          have hGd := hG.drew
          have HPre := Lib.hid ((RdR.prefix_ boC_sz hr0.out k hk).quiet hGd)
          have HPk := Lib.hid (And.intro (hok.1.take k) (show (l.take k).length ≤ 9 by rw [List.length_take]; omega))
          have HOB := Lib.hid (ovF_bnd (l.take k) u HPk.out.1 HPk.out.2)
          have hkc : (k : Int) ≤ cap := by omega
          have hkc' : k ≤ cap := by omega
          clear hB hG
          refine wp_region_held_drew (S := (fun w' => w'.cell? ⟨w.heap.size, 0, none⟩ = some (.int .i64 r1) ∧ w'.cell? ⟨w.heap.size, 1, none⟩ = some (.int .i64 r2))) (by kernel_rfl) ?_ (fun hHeld => ?_)
          · exact ⟨hBd.cell 0, hBd.cell 1⟩
          refine wpAnyH_take (i := 0) (oi := { dst := some 30, op := Op.move (Operand.tmp 0), type := 26, pos := _, after := #[], guard := none }) (v := ?_) rfl (by kernel_rfl) (by kernel_rfl) (by kernel_rfl) (fun _ _ _ h => h) (Or.inl ⟨by rfl, ?_⟩) (by assumption) ?_
          rotate_left
          · (intro w hSw; obtain ⟨s0, s1⟩ := hSw; (go_simp <;> with_reducible rfl))
          try simp only [Act.put, List.setIfInBounds_toArray, List.set_cons_zero, List.set_cons_succ]
          refine wpAnyH_take (i := 1) (oi := { dst := some 31, op := Op.move (Operand.tmp 9), type := 3, pos := _, after := #[], guard := none }) (v := ?_) rfl (by kernel_rfl) (by kernel_rfl) (by kernel_rfl) (fun _ _ _ h => h) (Or.inl ⟨by rfl, ?_⟩) (by assumption) ?_
          rotate_left
          · (intro w hSw; obtain ⟨s0, s1⟩ := hSw; (go_simp <;> with_reducible rfl))
          try simp only [Act.put, List.setIfInBounds_toArray, List.set_cons_zero, List.set_cons_succ]
          refine wpAnyH_take (i := 2) (oi := { dst := some 32, op := Op.slice 26 (Operand.tmp 30) none (some (Operand.tmp 31)) none, type := 26, pos := _, after := #[{ on := 0, ground := Ground.data }, { on := 1, ground := Ground.data }], guard := none }) (v := ?_) rfl (by kernel_rfl) (by kernel_rfl) (by kernel_rfl) (fun _ _ _ h => h) (Or.inl ⟨by rfl, ?_⟩) (by assumption) ?_
          rotate_left
          · (intro w hSw; obtain ⟨s0, s1⟩ := hSw; (go_simp <;> with_reducible rfl))
          try simp only [Act.put, List.setIfInBounds_toArray, List.set_cons_zero, List.set_cons_succ]
          refine wpAnyH_take (i := 3) (oi := { dst := some 33, op := Op.move (Operand.tmp 1), type := 3, pos := _, after := #[], guard := none }) (v := ?_) rfl (by kernel_rfl) (by kernel_rfl) (by kernel_rfl) (fun _ _ _ h => h) (Or.inl ⟨by rfl, ?_⟩) (by assumption) ?_
          rotate_left
          · (intro w hSw; obtain ⟨s0, s1⟩ := hSw; (go_simp <;> with_reducible rfl))
          try simp only [Act.put, List.setIfInBounds_toArray, List.set_cons_zero, List.set_cons_succ]
          refine wpAnyH_take (i := 5) (oi := { dst := some 35, op := Op.load 35 (Operand.tmp 5), type := 35, pos := _, after := #[], guard := none }) (v := ?_) rfl (by kernel_rfl) (by kernel_rfl) (by kernel_rfl) (fun _ _ _ h => h) (Or.inl ⟨by rfl, ?_⟩) (by assumption) ?_
          rotate_left
          · (intro w hSw; obtain ⟨s0, s1⟩ := hSw; (go_simp <;> with_reducible rfl))
          try simp only [Act.put, List.setIfInBounds_toArray, List.set_cons_zero, List.set_cons_succ]
          refine wpAnyH_ready (rs := [4]) (by kernel_rfl) (by simp) ?_
          refine AllReadyH.cons (o := { dst := some 34, op := Op.call { callee := Callee.value (Operand.func 38), args := #[Operand.tmp 32, Operand.tmp 33], argTypes := #[26, 3] }, type := 35, pos := _, after := #[{ on := 2, ground := Ground.data }, { on := 3, ground := Ground.data }], guard := none }) rfl (fun K hK => ?_) AllReadyH.nil
          go_simp
          refine (over_c _ (l.take k) u _ HPre.out HPk.out.1 HPk.out.2).mono ?_
          rintro e y1 ⟨rfl, hH⟩
          have hB1 := hBd.quiet hH
          have hG1 := hGd.trans hH
          clear hH
          refine hK.out _ _ ?_ (fun hHeld => ?_)
          · exact ⟨hB1.cell 0, hB1.cell 1⟩
          clear hK K
          try simp only [Act.put, List.setIfInBounds_toArray, List.set_cons_zero, List.set_cons_succ]
          refine wpAnyH_ready (rs := [6]) (by kernel_rfl) (by simp) ?_
          refine AllReadyH.cons (o := { dst := some 36, op := Op.call { callee := Callee.value (Operand.func 40), args := #[Operand.tmp 34, Operand.tmp 35], argTypes := #[35, 35] }, type := 4, pos := _, after := #[{ on := 4, ground := Ground.data }, { on := 5, ground := Ground.data }, { on := 4, ground := Ground.chain }], guard := none }) rfl (fun K hK => ?_) AllReadyH.nil
          go_simp
          refine (grB_c (ovF (l.take k) u) (r1, r2) _ HOB.out.1 HOB.out.2.1 HOB.out.2.2.1 HOB.out.2.2.2 HRB.out.1 HRB.out.2.1 HRB.out.2.2.1 HRB.out.2.2.2).mono ?_
          rintro e y2 ⟨rfl, hH⟩
          have hB3 := hB1.quiet hH
          have hG3 := hG1.trans hH
          clear hH
          refine hK.out _ _ ?_ (fun hHeld => ?_)
          · exact ⟨hB3.cell 0, hB3.cell 1⟩
          clear hK K
          try simp only [Act.put, List.setIfInBounds_toArray, List.set_cons_zero, List.set_cons_succ]
          refine wpAnyH_done (by kernel_rfl) ?_ _
          obtain ⟨F, hFF⟩ : ∃ F, ovF (l.take k) u = F := ⟨_, rfl⟩
          rw [hFF]
          clear hBd hGd hB1 hG1 HOB HPk HPre
          cases hg : grB F (r1, r2) with
          | true =>
            have hp : ovG l u (r1, r2) k = true := by unfold ovG; rw [hFF]; exact hg
            obtain ⟨k', rfl⟩ : ∃ k', k = k' + 1 := by
              cases k with
              | zero => rw [ov_zero l u (r1, r2) hu0.out] at hp; cases hp
              | succ k' => exact ⟨k', rfl⟩
            have hmk' : mostK (ovG l u (r1, r2)) l.length = mostK (ovG l u (r1, r2)) k' := hmk.trans (if_pos hp)
            clear hmk hp hg hFF
            go_wp2_with fail
            go_roundw
            case rel => exact ⟨k', by omega, by go_num, hmk', hB3, hG3⟩
            case measure => simp [intOf]
          | false =>
            have hp : ovG l u (r1, r2) k = false := by unfold ovG; rw [hFF]; exact hg
            have hmk' : mostK (ovG l u (r1, r2)) l.length = k := hmk.trans (by
              cases k with
              | zero => rfl
              | succ k' => exact if_neg (by rw [hp]; decide))
            have HFIN : Hid (Ending.returned (.tuple #[.int .i64 (k : Int), .int .i64 0]) = .returned (.tuple #[.int .i64 (moN l u (r1, r2)), .int .i64 (moE l u (r1, r2))])) := Lib.hid (by rw [HN.out, HF.out, hmk'])
            clear hmk hmk' hp hg hFF HN HF
            go_wp2_with fail
            go_ret2
            exact ⟨HFIN.out, hG3⟩
  · have h0' : (cuE l u != 0) = true := by rw [bne_iff_ne]; exact h0
    have HE : Hid (moE l u (r1, r2) = cuE l u) := Lib.hid (if_neg h0)
    have HN : Hid (moN l u (r1, r2) = 0) := Lib.hid (by rw [moN, if_neg (by rw [HE.out]; exact h0)])
    obtain ⟨E, hE⟩ : ∃ E, cuE l u = E := ⟨_, rfl⟩
    rw [hE] at h0' HE ⊢
    clear h0 hB1 hG1 HR hG2 hE
    go_wp2_with fail
    go_ret2
    exact ⟨by rw [HE.out, HN.out]; rfl, hG02⟩
end Go.Proofs.YtlnoafkepfgooaaDoor

/- Odds: the reference's OverOf and MostOf, for any bookings. -/
namespace Go.Proofs.YtlnoafkepfgooaaDoor
open Go.RowKit

set_option maxRecDepth 100000 in
set_option maxHeartbeats 4000000 in
theorem overOfP_c (v : Value) (l : List Bo) (u : Int) (w : World) (hr : RdR w 6 boC v l) (hn : l.length ≤ 9) (hp : PcOk l) :
    Calls Tryd.prog 17 #[v, .int .i64 u] w fun e w' => e = .returned (.agg (frV (ovF l u))) ∧ G w w' none := by
  have hG0 := (G.refl w none).alloc (.cells (frC 0 0) 35)
  have HR := Lib.hid (hr.quiet hG0)
  have hB0 := Bk.new w 35 (frC 0 0)
  obtain ⟨cl, cn, cs⟩ := cas_ok (pcs l) hp
  have hpl : (pcs l).length = l.length := by unfold pcs; rw [List.length_map]
  rw [hpl] at cl cs
  obtain ⟨b0, b1⟩ := ovS_bnd cn u (l.length + 1) (by omega)
  have b2 := take_le cn (l.length + 1)
  have hH1 := pow_le l.length hn
  have hH0 := pow_pos100 l.length
  have HF : Hid (lowF (ovS (cas (pcs l)) u (l.length + 1)) (100 ^ l.length) = ovF l u) := Lib.hid rfl
  have HU : Hid (∀ w : World, Calls Tryd.prog 44 #[.int .i64 l.length] w fun e w' => e = .returned (.int .i64 (100 ^ l.length)) ∧ w = w') := Lib.hid fun w => hundred_c l.length w hn
  have HP := Lib.hid hp
  obtain ⟨av, acap, rfl, hcap, hm⟩ := RdR.form hr
  clear hr hpl hp
  go_enter Tryd.func17, Tryd.ntmps17
  go_wp2_with fail
  refine (overOf_c _ l u _ HR.out hn HP.out).mono ?_; rintro e w2 ⟨rfl, hG2⟩
  have hB2 := hB0.quiet hG2
  have hG02 := hG0.trans hG2
  obtain ⟨A, hA⟩ : ∃ A, ovS (cas (pcs l)) u (l.length + 1) = A := ⟨_, rfl⟩
  obtain ⟨H, hH⟩ : ∃ H : Int, (100 : Int) ^ l.length = H := ⟨_, rfl⟩
  rw [hA, hH] at HF
  rw [hA] at b0 b1 ⊢
  rw [hH] at cs hH1 hH0 HU
  clear hA hH
  go_wp2_with fail
  refine (HU.out _).mono ?_; rintro e w' ⟨rfl, rfl⟩
  go_wp2_with fail
  refine (rlow_i A H _ b0 (by omega) hH0 hH1).mono ?_; rintro e w3 ⟨rfl, hG3⟩
  have hB3 := hB2.quiet hG3
  have hG03 := hG02.trans hG3
  obtain ⟨F, hFF⟩ : ∃ F, lowF A H = F := ⟨_, rfl⟩
  rw [hFF] at HF ⊢
  clear hFF
  go_wp2_with (refine wpList_store_row rfl 35 _ _ rfl w.heap.size (frC F.1 F.2) rfl rfl 35 _ hB3 (fr_info F.1 F.2) rfl (fr_one F.1 F.2) ?_)
  refine bodyPost_ret (results_cell_row rfl _ _ w.heap.size 35 (frC F.1 F.2) (0, 0) _ rfl (hB3.setRow _) Tryd.underlying35 rfl (fr_info F.1 F.2)) rfl ?_
  exact ⟨by rw [← HF.out]; rfl, hG03.setRow (.inl (Nat.le_refl _)) _⟩
theorem lowF_pos (n d : Int) (d0 : 0 < d) : 0 < (lowF n d).2 := by
  have h1 := low_den n.toNat d.toNat (by omega)
  show (0 : Int) < ((d.toNat / Nat.gcd d.toNat n.toNat : Nat) : Int)
  exact Int.natCast_pos.2 (Nat.pos_of_ne_zero h1)
theorem atM_c (x r : Fr) (w : World) (x1 : 0 ≤ x.1) (x2 : x.1 ≤ 1000000000000000000) (x3 : 0 < x.2) (x4 : x.2 ≤ 1000000000000000000) (r1 : 0 ≤ r.1) (r2 : r.1 ≤ 1000000) (r3 : 0 < r.2) (r4 : r.2 ≤ 1000000) :
    Calls Tryd.prog 46 #[.agg (frV x), .agg (frV r)] w fun e w' => e = .returned (.bool (!(grB x r))) ∧ G w w' none := by
  obtain ⟨a, b⟩ := x
  obtain ⟨c, d⟩ := r
  simp only at x1 x2 x3 x4 r1 r2 r3 r4
  obtain ⟨a', rfl⟩ := Int.eq_ofNat_of_zero_le x1
  obtain ⟨b', rfl⟩ := Int.eq_ofNat_of_zero_le (Int.le_of_lt x3)
  obtain ⟨c', rfl⟩ := Int.eq_ofNat_of_zero_le r1
  obtain ⟨d', rfl⟩ := Int.eq_ofNat_of_zero_le (Int.le_of_lt r3)
  have h := atMost_c a' b' c' d' (by omega) (by omega) (by omega) (by omega) (by omega) (by omega) w
  have e : decide (a' * d' ≤ c' * b') = !(grB ((a' : Int), (b' : Int)) ((c' : Int), (d' : Int))) := by
    show _ = !(decide (c' * b' < a' * d'))
    rw [Bool.eq_iff_iff]
    simp
  rw [e] at h
  exact h
def bestK (p : Nat → Bool) : Nat → Nat
  | 0 => 0
  | k + 1 => if p k = true then bestK p k else k
theorem best_most (p : Nat → Bool) : ∀ k, bestK p (k + 1) = mostK p k
  | 0 => by simp [bestK, mostK]
  | k + 1 => by
    have h := best_most p k
    show (if p (k + 1) = true then bestK p (k + 1) else k + 1) = if p (k + 1) = true then mostK p k else k + 1
    rw [h]
def MfRel (w : World) (l : List Bo) (u : Int) (r : Fr) (s7 s12 : Value) (wr : World) : Prop :=
  ∃ k : Nat, k ≤ l.length + 1 ∧ s12 = .int .i64 k ∧ s7 = .int .i64 (bestK (ovG l u r) k : Nat) ∧ Bk wr w.heap.size 35 (frC r.1 r.2) ∧ G w wr none
set_option maxRecDepth 100000 in
set_option maxHeartbeats 4000000 in
theorem mostOf_c (v : Value) (l : List Bo) (u : Int) (r : Fr) (w : World) (hr : RdR w 6 boC v l) (hn : l.length ≤ 9) (hp : PcOk l) (hrr : 0 ≤ r.1 ∧ r.1 ≤ 1000000 ∧ 0 < r.2 ∧ r.2 ≤ 1000000) :
    Calls Tryd.prog 18 #[v, .int .i64 u, .agg (frV r)] w fun e w' => e = .returned (.int .i64 (mostK (ovG l u r) l.length : Nat)) ∧ G w w' none := by
  have hG1 := (G.refl w none).alloc (.cells (frC r.1 r.2) 35)
  have hB1 := Bk.new w 35 (frC r.1 r.2)
  have hr0 := Lib.hid hr
  have HP := Lib.hid hp
  have HRB := Lib.hid hrr
  obtain ⟨r1, r2⟩ := r
  simp only [frV, frC] at hG1 hB1 ⊢
  obtain ⟨ad, cap, rfl, hcap, hm⟩ := RdR.form hr
  clear hr hp hrr
  go_enter Tryd.func18, Tryd.ntmps18
  go_wp2_with fail
  go_loopw [7, 12] (MfRel w l u (r1, r2)) (fun _ i _ => l.length + 1 - (intOf i).toNat)
  case atStart => exact ⟨0, Nat.zero_le _, rfl, rfl, hB1, hG1⟩
  case round =>
    clear hB1 hG1
    obtain ⟨k, hk, rfl, rfl, hB, hG⟩ := hrel
    by_cases hlt : k < l.length + 1
    · have hki : (k : Int) < (l.length : Int) + 1 := by omega
      go_wp2_with fail
      have hkl : k ≤ l.length := by omega
      have hBd := hB.quiet ((G.refl wr none).drew)
      have hGd := hG.drew
      have HPre := Lib.hid ((RdR.prefix_ boC_sz hr0.out k hkl).quiet hGd)
      have HPk := Lib.hid (And.intro (HP.out.take k) (show (l.take k).length ≤ 9 by rw [List.length_take]; omega))
      have HOB := Lib.hid (ovF_bnd (l.take k) u HPk.out.1 HPk.out.2)
      have HOP : Hid (0 < (ovF (l.take k) u).2) := Lib.hid (lowF_pos _ _ (pow_pos100 _))
      have hkc : (k : Int) ≤ cap := by omega
      have hkc' : k ≤ cap := by omega
      clear hB hG
      refine wp_region_held_drew (S := (fun w' => w'.cell? ⟨w.heap.size, 0, none⟩ = some (.int .i64 r1) ∧ w'.cell? ⟨w.heap.size, 1, none⟩ = some (.int .i64 r2))) (by kernel_rfl) ?_ (fun hHeld => ?_)
      · exact ⟨hBd.cell 0, hBd.cell 1⟩
      refine wpAnyH_take (i := 0) (oi := { dst := some 15, op := Op.move (Operand.tmp 0), type := 26, pos := _, after := #[], guard := none }) (v := ?_) rfl (by kernel_rfl) (by kernel_rfl) (by kernel_rfl) (fun _ _ _ h => h) (Or.inl ⟨by rfl, ?_⟩) (by assumption) ?_
      rotate_left
      · (intro w hSw; obtain ⟨s0, s1⟩ := hSw; (go_simp <;> with_reducible rfl))
      try simp only [Act.put, List.setIfInBounds_toArray, List.set_cons_zero, List.set_cons_succ]
      refine wpAnyH_take (i := 1) (oi := { dst := some 16, op := Op.move (Operand.tmp 8), type := 3, pos := _, after := #[], guard := none }) (v := ?_) rfl (by kernel_rfl) (by kernel_rfl) (by kernel_rfl) (fun _ _ _ h => h) (Or.inl ⟨by rfl, ?_⟩) (by assumption) ?_
      rotate_left
      · (intro w hSw; obtain ⟨s0, s1⟩ := hSw; (go_simp <;> with_reducible rfl))
      try simp only [Act.put, List.setIfInBounds_toArray, List.set_cons_zero, List.set_cons_succ]
      refine wpAnyH_take (i := 2) (oi := { dst := some 17, op := Op.slice 26 (Operand.tmp 15) none (some (Operand.tmp 16)) none, type := 26, pos := _, after := #[{ on := 0, ground := Ground.data }, { on := 1, ground := Ground.data }], guard := none }) (v := ?_) rfl (by kernel_rfl) (by kernel_rfl) (by kernel_rfl) (fun _ _ _ h => h) (Or.inl ⟨by rfl, ?_⟩) (by assumption) ?_
      rotate_left
      · (intro w hSw; obtain ⟨s0, s1⟩ := hSw; (go_simp <;> with_reducible rfl))
      try simp only [Act.put, List.setIfInBounds_toArray, List.set_cons_zero, List.set_cons_succ]
      refine wpAnyH_take (i := 3) (oi := { dst := some 18, op := Op.move (Operand.tmp 1), type := 3, pos := _, after := #[], guard := none }) (v := ?_) rfl (by kernel_rfl) (by kernel_rfl) (by kernel_rfl) (fun _ _ _ h => h) (Or.inl ⟨by rfl, ?_⟩) (by assumption) ?_
      rotate_left
      · (intro w hSw; obtain ⟨s0, s1⟩ := hSw; (go_simp <;> with_reducible rfl))
      try simp only [Act.put, List.setIfInBounds_toArray, List.set_cons_zero, List.set_cons_succ]
      refine wpAnyH_take (i := 5) (oi := { dst := some 20, op := Op.load 35 (Operand.tmp 5), type := 35, pos := _, after := #[], guard := none }) (v := ?_) rfl (by kernel_rfl) (by kernel_rfl) (by kernel_rfl) (fun _ _ _ h => h) (Or.inl ⟨by rfl, ?_⟩) (by assumption) ?_
      rotate_left
      · (intro w hSw; obtain ⟨s0, s1⟩ := hSw; (go_simp <;> with_reducible rfl))
      try simp only [Act.put, List.setIfInBounds_toArray, List.set_cons_zero, List.set_cons_succ]
      refine wpAnyH_ready (rs := [4]) (by kernel_rfl) (by simp) ?_
      refine AllReadyH.cons (o := { dst := some 19, op := Op.call { callee := Callee.value (Operand.func 17), args := #[Operand.tmp 17, Operand.tmp 18], argTypes := #[26, 3] }, type := 35, pos := _, after := #[{ on := 2, ground := Ground.data }, { on := 3, ground := Ground.data }], guard := none }) rfl (fun K hK => ?_) AllReadyH.nil
      go_simp
      refine (overOfP_c _ (l.take k) u _ HPre.out HPk.out.2 HPk.out.1).mono ?_
      rintro e y1 ⟨rfl, hH⟩
      have hB1 := hBd.quiet hH
      have hG1 := hGd.trans hH
      clear hH
      refine hK.out _ _ ?_ (fun hHeld => ?_)
      · exact ⟨hB1.cell 0, hB1.cell 1⟩
      clear hK K
      try simp only [Act.put, List.setIfInBounds_toArray, List.set_cons_zero, List.set_cons_succ]
      refine wpAnyH_ready (rs := [6]) (by kernel_rfl) (by simp) ?_
      refine AllReadyH.cons (o := { dst := some 21, op := Op.call { callee := Callee.value (Operand.func 46), args := #[Operand.tmp 19, Operand.tmp 20], argTypes := #[35, 35] }, type := 4, pos := _, after := #[{ on := 4, ground := Ground.data }, { on := 5, ground := Ground.data }, { on := 4, ground := Ground.chain }], guard := none }) rfl (fun K hK => ?_) AllReadyH.nil
      go_simp
      refine (atM_c (ovF (l.take k) u) (r1, r2) _ HOB.out.1 HOB.out.2.1 HOP.out HOB.out.2.2.2 HRB.out.1 HRB.out.2.1 HRB.out.2.2.1 HRB.out.2.2.2).mono ?_
      rintro e y2 ⟨rfl, hH⟩
      have hB3 := hB1.quiet hH
      have hG3 := hG1.trans hH
      clear hH
      refine hK.out _ _ ?_ (fun hHeld => ?_)
      · exact ⟨hB3.cell 0, hB3.cell 1⟩
      clear hK K
      try simp only [Act.put, List.setIfInBounds_toArray, List.set_cons_zero, List.set_cons_succ]
      refine wpAnyH_done (by kernel_rfl) ?_ _
      obtain ⟨F, hFF⟩ : ∃ F, ovF (l.take k) u = F := ⟨_, rfl⟩
      rw [hFF]
      clear hBd hGd hB1 hG1 HOB HPk HPre HOP
      cases hg : grB F (r1, r2) with
      | true =>
        have hp : ovG l u (r1, r2) k = true := by unfold ovG; rw [hFF]; exact hg
        have HB : Hid (bestK (ovG l u (r1, r2)) (k + 1) = bestK (ovG l u (r1, r2)) k) := Lib.hid (if_pos hp)
        clear hp hg hFF
        go_wp2_with fail
        go_roundw
        case rel => exact ⟨k + 1, by omega, by go_num, by rw [HB.out], hB3, hG3⟩
        case measure => simp [intOf]; omega
      | false =>
        have hp : ovG l u (r1, r2) k = false := by unfold ovG; rw [hFF]; exact hg
        have HB : Hid (bestK (ovG l u (r1, r2)) (k + 1) = k) := Lib.hid (if_neg (by rw [hp]; decide))
        clear hp hg hFF
        go_wp2_with fail
        go_roundw
        case rel => exact ⟨k + 1, by omega, by go_num, by rw [HB.out], hB3, hG3⟩
        case measure => simp [intOf]; omega
    · obtain rfl : k = l.length + 1 := by omega
      have hnk : ¬ ((l.length : Int) + 1 < (l.length : Int) + 1) := by omega
      have hb := best_most (ovG l u (r1, r2)) l.length
      rw [hb]
      clear hb
      go_wp2_with fail
      go_ret
      exact ⟨rfl, hG⟩
end Go.Proofs.YtlnoafkepfgooaaDoor

/- Rows of structs that a call owns, of whatever make; prefixes of lists of strings. No program. -/
namespace Go.Proofs.YtlnoafkepfgooaaDoor
open Go.RowKit

abbrev OwnX {α : Type} (T : TypeId) (z : Nat) (c : α → Array Value) (w : World) (base : Nat) (v : Value) (l : List α) : Prop := w.ownsRow base T z v l.length (rowL c l)
structure RowOk {α : Type} (P : Program) (T TS : TypeId) (z bytes : Nat) (zv : Value) (c : α → Array Value) : Prop where
  row : (P.info? T).map (fun i => (i.zero, i.size, i.bytes)) = some (some zv, z, bytes)
  slice : P.underlying TS = some (.slice T)
  one : ∀ r, ∀ u ∈ (c r).toList, u.oneCell' = true
  sz : ∀ p, (c p).size = z
  zv : zv.cells.size = z
  pos : 0 < z
  few : bytes ≤ 100000
section
variable {α : Type} {T : TypeId} {z : Nat} {c : α → Array Value}
theorem bk_at {w : World} {g : Nat} {cs : Array Value} (h : Bk w g T cs) : ∀ j u, cs.toList[j]? = some u → w.cell? ((⟨g, 0, none⟩ : Addr).add j) = some u := fun j u hu => by
  rw [add_at, Nat.zero_add, h.cell]
  simpa using hu
theorem wp_append_x {P : Program} {TS : TypeId} {bytes : Nat} {zv : Value} (hk : RowOk P T TS z bytes zv c) {w : World} {o : Oper} {a : Act} {K : Act → World → Prop} {Q : Exit → Act → World → Prop} (s x : Operand)
    (ho : o.op = .call { callee := .builtin .append, args := #[s, x], argTypes := #[TS, TS] }) (base : Nat) (v : Value) (l : List α) (hs : a.eval s = v) (hown : OwnX T z c w base v l)
    (g : Nat) (r : α) (hx : a.eval x = .slice (some ⟨g, 0, none⟩) 1 1) (hb : Bk w g T (c r)) (hl : l.length ≤ 1000) (hbase : base ≤ w.heap.size)
    (hK : ∀ v' w', OwnX T z c w' base v' (l ++ [r]) → w.grownBy w' v.ownBlock → K (a.put o.dst v') w') : o.wp P a w K Q := by
  obtain ⟨i0, hi, hz0, hz1, hz2⟩ := info_parts hk.row
  have hm : (l.length + 1) * bytes ≤ 1001 * 100000 := Nat.mul_le_mul (by omega) hk.few
  refine wp_append_own w s x TS ho base T i0 zv z bytes hk.slice hi hz0 hz1 hz2 hk.zv hk.pos v l.length (rowL c l) hs hown ⟨g, 0, none⟩ 1 1 (c r).toList hx (by rw [Array.length_toList, hk.sz, Nat.one_mul]) (bk_at hb) (hk.one r) (by unfold maxLen; omega) (by omega) hbase ?_
  intro v' w' h1 h2 _
  refine hK v' w' ?_ h2
  unfold OwnX
  rw [List.length_append, rowL_snoc]
  exact h1
theorem OwnX.alloc {w : World} {base : Nat} {v : Value} {l : List α} (h : OwnX T z c w base v l) (o : Obj) : OwnX T z c (w.alloc o) base v l := World.ownsRow.alloc h o
theorem OwnX.kept {w w' : World} {base : Nat} {v : Value} {l : List α} {s : Nat} (h : OwnX T z c w base v l) (hg : G w w' (some s)) (hs : s < base) : OwnX T z c w' base v l := by
  refine World.ownsRow.kept h hg (.inr fun e => ?_)
  have := (World.ownsRow.lt h s e).1
  omega
theorem OwnX.quiet {w w' : World} {base : Nat} {v : Value} {l : List α} (h : OwnX T z c w base v l) (hg : G w w' none) : OwnX T z c w' base v l := World.ownsRow.kept h hg (Classical.em _)
theorem OwnX.drew {w : World} {base : Nat} {v : Value} {l : List α} (h : OwnX T z c w base v l) : OwnX T z c w.drew base v l := h.quiet ((G.refl w none).drew)
theorem OwnX.ne {w : World} {base : Nat} {v : Value} {l : List α} (h : OwnX T z c w base v l) {r : Nat} (hr : r < base ∨ w.heap.size ≤ r) : some r ≠ v.ownBlock := fun e => by
  have := World.ownsRow.lt h r e.symm
  omega
theorem OwnX.far {w : World} {base : Nat} {v : Value} {l : List α} (h : OwnX T z c w base v l) {p : Addr} (hp : some p.block ≠ v.ownBlock) (u : Value) : OwnX T z c (w.setCell p u) base v l := World.ownsRow.kept h (grownBy_setCell_row w p u) (.inr hp.symm)
theorem OwnX.low {w : World} {base : Nat} {v : Value} {l : List α} (h : OwnX T z c w base v l) : ∀ r, v.ownBlock = some r → base ≤ r := fun r e => (World.ownsRow.lt h r e).1
theorem OwnX.down {w : World} {base b : Nat} {v : Value} {l : List α} (h : OwnX T z c w base v l) (hb : b ≤ base) : OwnX T z c w b v l := by
  obtain ⟨h1, h2⟩ := h
  rcases h2 with ⟨rfl, h3⟩ | ⟨g, cap, cur, rfl, h3, h4, h5, h6, h7, h8⟩
  · exact ⟨h1, .inl ⟨rfl, h3⟩⟩
  · exact ⟨h1, .inr ⟨g, cap, cur, rfl, Nat.le_trans hb h3, h4, h5, h6, h7, h8⟩⟩
theorem OwnX.set (hz : ∀ p, (c p).size = z) {w : World} {base g n cap : Nat} {l : List α} {k : Nat} {p q : α} (h : w.ownsRow base T z (.slice (some ⟨g, 0, none⟩) n cap) n (rowL c l)) (hp : l[k]? = some p) (j : Nat) (u : Value) (hj : j < z) (hq : (c q).toList = (c p).toList.set j u) :
    (w.setCell ⟨g, k * z + j, none⟩ u).ownsRow base T z (.slice (some ⟨g, 0, none⟩) n cap) n (rowL c (l.set k q)) := by
  rw [← rowL_set hz l k p q hp j u hj hq]
  exact ownsRow_set h _ _
end
/-- The first of a list of strings. -/
theorem rdS_prefix {w : World} {a : Option Addr} {n cap : Nat} {l : List ByteArray} (h : Rd w 1 (.slice a n cap) l.length (l.map Value.string)) (m : Nat) (hm : m ≤ l.length) : Rd w 1 (.slice a m cap) (l.take m).length ((l.take m).map Value.string) := by
  obtain ⟨a', c', e, h1, h2, h3, h4, h5⟩ := h
  obtain ⟨rfl, rfl, rfl⟩ : a = a' ∧ n = l.length ∧ cap = c' := by cases e; exact ⟨rfl, rfl, rfl⟩
  have hlt : (l.take m).length = m := by rw [List.length_take]; omega
  refine ⟨a, cap, by rw [hlt], by omega, h2, by simp, fun e => ⟨by have := (h4 e).1; omega, (h4 e).2⟩, fun b hb => ?_⟩
  obtain ⟨q1, q2, q3⟩ := h5 b hb
  refine ⟨q1, q2, fun j u hj => q3 j u ?_⟩
  rw [List.map_take] at hj
  rw [← hj, List.getElem?_take]
  have hjl := (List.getElem?_eq_some_iff.1 hj).1
  simp at hjl
  rw [if_pos (by omega)]
end Go.Proofs.YtlnoafkepfgooaaDoor

/- Generator: Bookings. -/
namespace Go.Proofs.YtlnoafkepfgooaaDoor
open Go.RowKit

theorem bo_oneL (r : Bo) : ∀ u ∈ (boC r).toList, u.oneCell' = true := by
  intro u hu
  simp [boC] at hu
  rcases hu with rfl | rfl | rfl | rfl | rfl | rfl <;> rfl
theorem bo_rowOk : RowOk Tryd.prog 33 26 6 64 (.agg (boC (⟨#[]⟩, ⟨#[]⟩, 0, 0, 0, 0))) boC := ⟨by kernel_rfl, Tryd.underlying26, bo_oneL, boC_sz, rfl, by omega, by omega⟩
abbrev OwnBo (w : World) (base : Nat) (v : Value) (l : List Bo) : Prop := OwnX 33 6 boC w base v l
theorem BoOk.snoc {l : List Bo} {r : Bo} (h : BoOk l) (hr : boB r) : BoOk (l ++ [r]) := fun p hp => by
  rcases List.mem_append.1 hp with hp | hp
  · exact h p hp
  · obtain rfl := List.mem_singleton.1 hp
    exact hr
theorem BoOk.set {l : List Bo} (h : BoOk l) {r : Bo} (hr : boB r) (k : Nat) : BoOk (l.set k r) := fun p hp => by
  rcases List.mem_or_eq_of_mem_set hp with hp | rfl
  · exact h p hp
  · exact hr
theorem min2k (x y : Int) (w : World) : (Builtin.min_ #[3, 3] 3 #[.int .i64 x, .int .i64 y]).run Tryd.prog w = .ok (.int .i64 (min x y)) w := by
  have e : (if y < x then y else x) = min x y := by
    rw [Int.min_def]
    split <;> split <;> omega
  simp [Builtin.min_, Builtin.min2, e]
def boKeys : Array Value := #[.string ⟨#[98, 97]⟩, .string ⟨#[98, 98]⟩, .string ⟨#[98, 99]⟩, .string ⟨#[98, 100]⟩, .string ⟨#[98, 101]⟩, .string ⟨#[98, 102]⟩, .string ⟨#[98, 103]⟩, .string ⟨#[98, 104]⟩, .string ⟨#[98, 105]⟩]
theorem boKeys_at (k : Nat) (hk : k < 9) : ∃ a : ByteArray, Small a ∧ boKeys[k]? = some (.string a) := by
  match k, hk with
  | 0, _ => exact ⟨_, small_of (s := ⟨#[98, 97]⟩) (by decide), rfl⟩
  | 1, _ => exact ⟨_, small_of (s := ⟨#[98, 98]⟩) (by decide), rfl⟩
  | 2, _ => exact ⟨_, small_of (s := ⟨#[98, 99]⟩) (by decide), rfl⟩
  | 3, _ => exact ⟨_, small_of (s := ⟨#[98, 100]⟩) (by decide), rfl⟩
  | 4, _ => exact ⟨_, small_of (s := ⟨#[98, 101]⟩) (by decide), rfl⟩
  | 5, _ => exact ⟨_, small_of (s := ⟨#[98, 102]⟩) (by decide), rfl⟩
  | 6, _ => exact ⟨_, small_of (s := ⟨#[98, 103]⟩) (by decide), rfl⟩
  | 7, _ => exact ⟨_, small_of (s := ⟨#[98, 104]⟩) (by decide), rfl⟩
  | 8, _ => exact ⟨_, small_of (s := ⟨#[98, 105]⟩) (by decide), rfl⟩
def BookingsPost (s K m : Nat) (w : World) (e : Ending) (w' : World) : Prop :=
  ∃ (v : Value) (l : List Bo), e = .returned v ∧ OwnBo w' (w.heap.size + 1) v l ∧ BoOk l ∧ l.length ≤ m ∧ SB w' s (K + 60) ∧ G w w' (some s)
theorem bookings_fin {w w' : World} {s K m : Nat} {v : Value} {l : List Bo} (hown : OwnBo w' (w.heap.size + 1) v l) (hl : BoOk l) (hn : l.length ≤ m) (hSB : SB w' s (K + 60)) (hG : G w w' (some s)) : BookingsPost s K m w (.returned v) w' :=
  ⟨v, l, rfl, hown, hl, hn, hSB, hG⟩
def BgRel (w : World) (s K m : Nat) (s5 s15 : Value) (wr : World) : Prop :=
  ∃ (k : Nat) (l : List Bo), k ≤ m ∧ l.length ≤ k ∧ s15 = .int .i64 k ∧ OwnBo wr (w.heap.size + 1) s5 l ∧ BoOk l ∧ SB wr s (K + 5 * k) ∧ G w wr (some s) ∧ Bk wr w.heap.size 9 boKeys
set_option maxRecDepth 100000 in
set_option maxHeartbeats 8000000 in
theorem bookings_c (w : World) (s : Nat) (K n : Nat) (hs : SB w s K) (hk : K ≤ 900000000000) (hn : n ≤ 1000) :
    Calls Tryd.prog 5 #[.pointer (some ⟨s, 0, none⟩), .int .i64 n] w (BookingsPost s K (min n 9) w) := by
  have hsw := hs.lt
  have hsb : s < w.heap.size + 1 := Nat.lt_succ_of_lt hsw
  obtain ⟨m, hm⟩ : ∃ m, min n 9 = m := ⟨_, rfl⟩
  have hm9 : m ≤ 9 := by omega
  have hmi : (m : Int) ≤ 9 := by omega
  have hmin : ∀ w : World, (Builtin.min_ #[3, 3] 3 #[.int .i64 n, .int .i64 9]).run Tryd.prog w = .ok (.int .i64 m) w := fun w => by rw [min2k, ← hm]; congr 2; omega
  rw [hm]
  clear hm
  go_enter Tryd.func5, Tryd.ntmps5
  go_wp2_with fail
  go_loopw [5, 15] (BgRel w s K m) (fun _ i _ => m - (intOf i).toNat)
  case atStart => exact ⟨0, [], by omega, by simp, rfl, World.ownsRow_nil _ _ _ _, fun p hp => (by cases hp), hs.alloc _, (G.refl _ _).alloc _, Bk.new w _ _⟩
  case round =>
    obtain ⟨k, l, hkm, hlk, rfl, hown, hl, hSB, hG, hB⟩ := hrel
    have HL := Lib.hid hl
    clear hl hs hmin
    by_cases hk2 : k < m
    · obtain ⟨key, hkey, hpa⟩ := boKeys_at k (by omega)
      have hrow : wr.cell? ⟨w.heap.size, k, none⟩ = some (.string key) := by rw [hB.cell]; exact hpa
      have hBl := hB.lt
      have hki : (k : Int) < (m : Int) := by omega
      clear hpa
      go_wp2_with fail
      refine (pick_c _ _ _ [0, 10, 10, 20, 25, 30, 100] _ _ _ (hSB.alloc _) (by omega) (by decide) (by decide) (Rd.newAt _ rfl rfl (by decide)) (hSB.newAt _ _ _ (Nat.le_refl _))).mono ?_; rintro e w3 ⟨f, rfl, hp, hSB3, hg⟩
      have hf0 : 0 ≤ f ∧ f ≤ 100 := by simp only [List.mem_cons, List.mem_nil_iff, or_false] at hp; omega
      obtain ⟨f0, f1⟩ := hf0
      have hown3 := OwnX.kept (OwnX.alloc hown (.cells _ 3)) hg hsb
      have hB3 := (hB.alloc (.cells _ 3)).grown hg (fun e => by have := Option.some.inj e; omega)
      have hG3 := (hG.alloc (.cells _ 3)).trans hg
      clear hown hB hG hSB hg hp
      clear hrow
      go_wp2_with fail
      refine (some_c _ _ _ [⟨#[109, 105, 110, 105]⟩, ⟨#[109, 105, 110, 105]⟩, ⟨#[109, 105, 100, 105]⟩, ⟨#[109, 97, 120, 105]⟩, ⟨#[98, 105, 103]⟩] _ _ _ (hSB3.alloc _) (by omega) (by decide) (by decide) (Rd.newAt _ rfl rfl (by decide)) (hSB3.newAt _ _ _ (Nat.le_refl _))).mono ?_; rintro e w4 ⟨cl, rfl, hp, hSB4, hg⟩
      have hcl := small_pick hp (by decide)
      have hown4 := OwnX.kept (OwnX.alloc hown3 (.cells _ 9)) hg hsb
      have hB4 := (hB3.alloc (.cells _ 9)).grown hg (fun e => by have := Option.some.inj e; omega)
      have hG4 := (hG3.alloc (.cells _ 9)).trans hg
      clear hown3 hB3 hG3 hSB3 hg hp
      go_wp2_with fail
      refine (pick_c _ _ _ [1, 5, 10, 10, 20, 100] _ _ _ (hSB4.alloc _) (by omega) (by decide) (by decide) (Rd.newAt _ rfl rfl (by decide)) (hSB4.newAt _ _ _ (Nat.le_refl _))).mono ?_; rintro e w5 ⟨t, rfl, hp, hSB5, hg⟩
      have ht0 : 0 ≤ t ∧ t ≤ 100 := by simp only [List.mem_cons, List.mem_nil_iff, or_false] at hp; omega
      obtain ⟨t0, t1⟩ := ht0
      have hown5 := OwnX.kept (OwnX.alloc hown4 (.cells _ 3)) hg hsb
      have hB5 := (hB4.alloc (.cells _ 3)).grown hg (fun e => by have := Option.some.inj e; omega)
      have hG5 := (hG4.alloc (.cells _ 3)).trans hg
      clear hown4 hB4 hG4 hSB4 hg hp
      obtain ⟨q, hq⟩ : ∃ q, min f 9 = q := ⟨_, rfl⟩
      have hmin2 : ∀ w : World, (Builtin.min_ #[3, 3] 3 #[.int .i64 f, .int .i64 9]).run Tryd.prog w = .ok (.int .i64 q) w := fun w => by rw [min2k, hq]
      have hq0 : 0 ≤ q ∧ q ≤ 9 := by omega
      obtain ⟨q0, q1⟩ := hq0
      clear hq
      go_wp2_with fail
      refine (range_c 0 q _ _ _ hSB5 (by omega) (by omega) (by omega) (by omega)).mono ?_; rintro e w6 ⟨d, rfl, d0, d1, hSB6, hg⟩
      have bd : Hid (bnd d) := Lib.hid (by unfold bnd; omega)
      have hown6 := OwnX.kept hown5 hg hsb
      have hB6 := hB5.grown hg (fun e => by have := Option.some.inj e; omega)
      have hG6 := hG5.trans hg
      clear hown5 hB5 hG5 hSB5 hg d0 d1 hmin2
      go_wp2_with fail
      refine (pick_c _ _ _ [0, 10, 50, 75, 90, 100] _ _ _ (hSB6.alloc _) (by omega) (by decide) (by decide) (Rd.newAt _ rfl rfl (by decide)) (hSB6.newAt _ _ _ (Nat.le_refl _))).mono ?_; rintro e w7 ⟨y, rfl, hp, hSB7, hg⟩
      have bm := Lib.hid (bnd_pick hp (by decide))
      have hown7 := OwnX.kept (OwnX.alloc hown6 (.cells _ 3)) hg hsb
      have hB7 := (hB6.alloc (.cells _ 3)).grown hg (fun e => by have := Option.some.inj e; omega)
      have hG7 := (hG6.alloc (.cells _ 3)).trans hg
      clear hown6 hB6 hG6 hSB6 hg hp
      have hsz := hG7.size
      have HRB : Hid (boB (key, cl, f, f + t, d, y)) := Lib.hid ⟨hkey, hcl, (by show bnd f; unfold bnd; omega), (by show bnd (f + t); unfold bnd; omega), bd.out, bm.out⟩
      have hownA := OwnX.alloc hown7 (.cells #[.string key, .string cl, .int .i64 f, .int .i64 (f + t), .int .i64 d, .int .i64 y] 33)
      go_wp2_with (at_builtin; refine wpList_plain rfl fun K' hK' => wp_append_x bo_rowOk _ _ rfl (w.heap.size + 1) u5 l rfl hownA w7.heap.size (key, cl, f, f + t, d, y) rfl (Bk.new w7 _ _) (by omega) (by have := hB7.lt; simp; omega) ?_; intro v8 w8 hown8 hgrow; refine hK' _ _ ?_)
      have hob := OwnX.low hown7
      go_roundw
      case rel => exact ⟨k + 1, l ++ [(key, cl, f, f + t, d, y)], by omega, by simp; omega, by go_num, hown8, HL.out.snoc HRB.out, ((hSB7.alloc _).own hgrow (fun r e => Nat.lt_of_lt_of_le hsb (hob r e))).le (by omega), (hG7.alloc _).other hgrow (fun r e => .inl (Nat.le_of_succ_le (hob r e))), (hB7.alloc _).grown hgrow (OwnX.ne hown7 (.inl (Nat.lt_succ_self _)))⟩
      case measure => simp [intOf]; omega
    · obtain rfl : k = m := by omega
      have hf := hown.2
      have hnk : ¬ ((k : Int) < (k : Int)) := by omega
      rcases hf with ⟨rfl, hn0⟩ | ⟨g, cap, cur, rfl, hbg, _, hnc, hmc, _, _⟩
      · clear hn0
        go_wp2_with fail
        go_ret
        exact bookings_fin hown HL.out hlk (hSB.le (by omega)) hG
      · by_cases h0 : l.length = 0
        · have h0i : ¬ ((0 : Int) < (l.length : Int)) := by omega
          clear h0
          go_wp2_with fail
          go_ret
          exact bookings_fin hown HL.out hlk (hSB.le (by omega)) hG
        · have h0i : ((0 : Int) < (l.length : Int)) := by omega
          have hsg : s < g := by omega
          have hgw : w.heap.size ≤ g := by omega
          clear h0
          go_wp2_with fail
          refine (flip_c _ _ _ _ hSB (by omega) (by omega)).mono ?_; rintro e w2 ⟨b, rfl, hSB2, hG2⟩
          have hown2 := OwnX.kept hown hG2 hsb
          have hG02 := hG.trans hG2
          clear hown hG hG2 hSB hB
          cases b with
          | false =>
            go_wp2_with fail
            go_ret
            exact bookings_fin hown2 HL.out hlk (hSB2.le (by omega)) hG02
          | true =>
            go_wp2_with fail
            refine (next_c _ _ _ _ hSB2 (by omega) (by omega)).mono ?_; rintro e w3 ⟨j, rfl, hj, hSB3, hG3⟩
            obtain ⟨j0, j1⟩ := hj
            obtain ⟨j, rfl⟩ := Int.eq_ofNat_of_zero_le j0
            have jl : j < l.length := by omega
            have jli : (j : Int) < (l.length : Int) := by omega
            clear j1
            have hown3 := OwnX.kept hown2 hG3 hsb
            have hG03 := hG02.trans hG3
            clear hown2 hG02 hG3 hSB2
            obtain ⟨p, hp⟩ : ∃ p, l[j]? = some p := ⟨_, List.getElem?_eq_getElem jl⟩
            have HP := Lib.hid hp
            have hpb := Lib.hid (HL.out p (List.mem_of_getElem? hp))
            clear hp
            go_wp2_with fail
            refine (next_c _ _ _ _ hSB3 (by omega) (by omega)).mono ?_; rintro e w4 ⟨t, rfl, ht, hSB4, hG4⟩
            have hown4 := OwnX.kept hown3 hG4 hsb
            have hG04 := hG03.trans hG4
            clear hown3 hG03 hG4 hSB3
            obtain ⟨t0, t1⟩ := ht
            rcases (show t = 0 ∨ t = 1 ∨ t = 2 ∨ t = 3 ∨ t = 4 by omega) with rfl | rfl | rfl | rfl | rfl
            · clear t0 t1
              go_wp2_with fail
              refine (some_c _ _ _ [⟨#[]⟩, ⟨#[65]⟩, ⟨#[98, 97]⟩, ⟨#[122, 122]⟩] _ _ _ (hSB4.alloc _) (by omega) (by decide) (by decide) (Rd.newAt _ rfl rfl (by decide)) (hSB4.newAt _ _ _ (Nat.le_refl _))).mono ?_; rintro e w5 ⟨r, rfl, hr, hSB5, hG5⟩
              have hrs := small_pick hr (by decide)
              have hown5 := OwnX.kept (OwnX.alloc hown4 _) hG5 hsb
              have hG05 := (hG04.alloc _).trans hG5
              clear hr hown4 hSB4 hG04 hG5
              have c0 := RdR.cell boC_sz (Rd.of_owns hown5) (G.refl _ _) HP.out 0 (.string p.1) rfl
              have f0 := ownsRow_free hown5 (j * 6 + 0)
              have hown6 := OwnX.set boC_sz hown5 HP.out (q := (r, p.2)) 0 (.string r) (by omega) rfl
              simp only [Nat.zero_add, Nat.add_zero] at c0 f0 hown6
              go_wp2_with fail
              go_ret
              exact bookings_fin (l := l.set j (r, p.2)) (by unfold OwnBo OwnX; rw [List.length_set]; exact hown6) (HL.out.set (r := (r, p.2)) ⟨hrs, hpb.out.2⟩ j) (by rw [List.length_set]; exact hlk) ((hSB5.setCell (p := ⟨g, j * 6, none⟩) hsg _).le (by omega)) (hG05.setCell (p := ⟨g, j * 6, none⟩) (.inl hgw) _)
            · clear t0 t1
              go_wp2_with fail
              refine (some_c _ _ _ [⟨#[110, 111, 110, 101]⟩, ⟨#[]⟩, ⟨#[65]⟩] _ _ _ (hSB4.alloc _) (by omega) (by decide) (by decide) (Rd.newAt _ rfl rfl (by decide)) (hSB4.newAt _ _ _ (Nat.le_refl _))).mono ?_; rintro e w5 ⟨r, rfl, hr, hSB5, hG5⟩
              have hrs := small_pick hr (by decide)
              have hown5 := OwnX.kept (OwnX.alloc hown4 _) hG5 hsb
              have hG05 := (hG04.alloc _).trans hG5
              clear hr hown4 hSB4 hG04 hG5
              have c0 := RdR.cell boC_sz (Rd.of_owns hown5) (G.refl _ _) HP.out 1 (.string p.2.1) rfl
              have f0 := ownsRow_free hown5 (j * 6 + 1)
              have hown6 := OwnX.set boC_sz hown5 HP.out (q := (p.1, r, p.2.2)) 1 (.string r) (by omega) rfl
              simp only [Nat.zero_add] at c0 f0 hown6
              go_wp2_with fail
              go_ret
              exact bookings_fin (l := l.set j (p.1, r, p.2.2)) (by unfold OwnBo OwnX; rw [List.length_set]; exact hown6) (HL.out.set (r := (p.1, r, p.2.2)) ⟨hpb.out.1, hrs, hpb.out.2.2⟩ j) (by rw [List.length_set]; exact hlk) ((hSB5.setCell (p := ⟨g, j * 6 + 1, none⟩) hsg _).le (by omega)) (hG05.setCell (p := ⟨g, j * 6 + 1, none⟩) (.inl hgw) _)
            · clear t0 t1
              go_wp2_with fail
              refine (odd_c _ _ _ _ _ hSB4 (by omega) (by omega) (by omega) (by omega) (by omega)).mono ?_; rintro e w5 ⟨y1, rfl, y10, y11, hSB5, hG5⟩
              have hown5 := OwnX.kept hown4 hG5 hsb
              have hG05 := hG04.trans hG5
              clear hown4 hSB4 hG04 hG5
              go_wp2_with fail
              refine (odd_c _ _ _ _ _ hSB5 (by omega) (by omega) (by omega) (by omega) (by omega)).mono ?_; rintro e w6 ⟨y2, rfl, y20, y21, hSB6, hG6⟩
              have hown6 := OwnX.kept hown5 hG6 hsb
              have hG06 := hG05.trans hG6
              clear hown5 hSB5 hG05 hG6
              have c2 := RdR.cell boC_sz (Rd.of_owns hown6) (G.refl _ _) HP.out 2 (.int .i64 p.2.2.1) rfl
              have c3 := RdR.cell boC_sz (Rd.of_owns hown6) (G.refl _ _) HP.out 3 (.int .i64 p.2.2.2.1) rfl
              have f2 := ownsRow_free hown6 (j * 6 + 2)
              have f3 := ownsRow_free hown6 (j * 6 + 3)
              have hown7 := OwnX.set boC_sz hown6 HP.out (q := (p.1, p.2.1, y1, p.2.2.2)) 2 (.int .i64 y1) (by omega) rfl
              have hown8 := OwnX.set boC_sz hown7 (show (l.set j (p.1, p.2.1, y1, p.2.2.2))[j]? = some (p.1, p.2.1, y1, p.2.2.2) by rw [List.getElem?_set_self jl]) (q := (p.1, p.2.1, y1, y2, p.2.2.2.2)) 3 (.int .i64 y2) (by omega) rfl
              rw [List.set_set] at hown8
              simp only [Nat.zero_add] at c2 c3
              clear hown7
              go_wp2_with fail
              go_ret
              exact bookings_fin (l := l.set j (p.1, p.2.1, y1, y2, p.2.2.2.2)) (by unfold OwnBo OwnX; rw [List.length_set]; exact hown8) (HL.out.set (r := (p.1, p.2.1, y1, y2, p.2.2.2.2)) ⟨hpb.out.1, hpb.out.2.1, ⟨y10, y11⟩, ⟨y20, y21⟩, hpb.out.2.2.2.2⟩ j) (by rw [List.length_set]; exact hlk) (((hSB6.setCell (p := ⟨g, j * 6 + 2, none⟩) hsg _).setCell (p := ⟨g, j * 6 + 3, none⟩) hsg _).le (by omega)) ((hG06.setCell (p := ⟨g, j * 6 + 2, none⟩) (.inl hgw) _).setCell (p := ⟨g, j * 6 + 3, none⟩) (.inl hgw) _)
            · clear t0 t1
              go_wp2_with fail
              refine (odd_c _ _ _ _ _ hSB4 (by omega) (by omega) (by omega) (by omega) (by omega)).mono ?_; rintro e w5 ⟨y1, rfl, y10, y11, hSB5, hG5⟩
              have hown5 := OwnX.kept hown4 hG5 hsb
              have hG05 := hG04.trans hG5
              clear hown4 hSB4 hG04 hG5
              have c0 := RdR.cell boC_sz (Rd.of_owns hown5) (G.refl _ _) HP.out 4 (.int .i64 p.2.2.2.2.1) rfl
              have f0 := ownsRow_free hown5 (j * 6 + 4)
              have hown6 := OwnX.set boC_sz hown5 HP.out (q := (p.1, p.2.1, p.2.2.1, p.2.2.2.1, y1, p.2.2.2.2.2)) 4 (.int .i64 y1) (by omega) rfl
              simp only [Nat.zero_add] at c0
              go_wp2_with fail
              go_ret
              exact bookings_fin (l := l.set j (p.1, p.2.1, p.2.2.1, p.2.2.2.1, y1, p.2.2.2.2.2)) (by unfold OwnBo OwnX; rw [List.length_set]; exact hown6) (HL.out.set (r := (p.1, p.2.1, p.2.2.1, p.2.2.2.1, y1, p.2.2.2.2.2)) ⟨hpb.out.1, hpb.out.2.1, hpb.out.2.2.1, hpb.out.2.2.2.1, ⟨y10, y11⟩, hpb.out.2.2.2.2.2⟩ j) (by rw [List.length_set]; exact hlk) ((hSB5.setCell (p := ⟨g, j * 6 + 4, none⟩) hsg _).le (by omega)) (hG05.setCell (p := ⟨g, j * 6 + 4, none⟩) (.inl hgw) _)
            · clear t0 t1
              go_wp2_with fail
              refine (odd_c _ _ _ _ _ hSB4 (by omega) (by omega) (by omega) (by omega) (by omega)).mono ?_; rintro e w5 ⟨y1, rfl, y10, y11, hSB5, hG5⟩
              have hown5 := OwnX.kept hown4 hG5 hsb
              have hG05 := hG04.trans hG5
              clear hown4 hSB4 hG04 hG5
              have c0 := RdR.cell boC_sz (Rd.of_owns hown5) (G.refl _ _) HP.out 5 (.int .i64 p.2.2.2.2.2) rfl
              have f0 := ownsRow_free hown5 (j * 6 + 5)
              have hown6 := OwnX.set boC_sz hown5 HP.out (q := (p.1, p.2.1, p.2.2.1, p.2.2.2.1, p.2.2.2.2.1, y1)) 5 (.int .i64 y1) (by omega) rfl
              simp only [Nat.zero_add] at c0
              go_wp2_with fail
              go_ret
              exact bookings_fin (l := l.set j (p.1, p.2.1, p.2.2.1, p.2.2.2.1, p.2.2.2.2.1, y1)) (by unfold OwnBo OwnX; rw [List.length_set]; exact hown6) (HL.out.set (r := (p.1, p.2.1, p.2.2.1, p.2.2.2.1, p.2.2.2.2.1, y1)) ⟨hpb.out.1, hpb.out.2.1, hpb.out.2.2.1, hpb.out.2.2.2.1, hpb.out.2.2.2.2.1, ⟨y10, y11⟩⟩ j) (by rw [List.length_set]; exact hlk) ((hSB5.setCell (p := ⟨g, j * 6 + 5, none⟩) hsg _).le (by omega)) (hG05.setCell (p := ⟨g, j * 6 + 5, none⟩) (.inl hgw) _)
end Go.Proofs.YtlnoafkepfgooaaDoor

/- The law OddsExact. -/
namespace Go.Proofs.YtlnoafkepfgooaaDoor
open Go.RowKit

theorem od_one (l : List Bo) (q : Int) (hq : q = if 9 < l.length then 2 else 0) : errsOf [boE l, q] = coE l := by
  subst hq
  unfold coE
  show (if boE l = 0 then (if (if 9 < l.length then (2 : Int) else 0) = 0 then 0 else (if 9 < l.length then 2 else 0)) else boE l) = _
  split
  · split <;> simp
  · rfl
theorem od_two (l : List Bo) (u q : Int) (hq : q = if inB u 0 500 = true then 0 else 1) : errsOf [coE l, q] = cuE l u := by
  subst hq
  unfold cuE
  show (if coE l = 0 then (if (if inB u 0 500 = true then (0 : Int) else 1) = 0 then 0 else (if inB u 0 500 = true then 0 else 1)) else coE l) = _
  cases inB u 0 500 <;> simp
theorem od_three (l : List Bo) (u : Int) (r : Fr) (q : Int) (hq : q = if riB r = true then 0 else 1) : errsOf [cuE l u, q] = moE l u r := by
  subst hq
  unfold moE
  show (if cuE l u = 0 then (if (if riB r = true then (0 : Int) else 1) = 0 then 0 else (if riB r = true then 0 else 1)) else cuE l u) = _
  cases riB r <;> simp
/-- What the law wants of Most, where the three faults are none. -/
theorem mo_zero {l : List Bo} {u : Int} {r : Fr} (h : moE l u r = 0) : cuE l u = 0 ∧ riB r = true ∧ 0 ≤ r.1 ∧ r.1 ≤ 1000000 ∧ 0 < r.2 ∧ r.2 ≤ 1000000 := by
  unfold moE at h
  split at h
  · rename_i h1
    cases hr : riB r with
    | false => rw [hr] at h; exact absurd h (by decide)
    | true =>
      have h2 := hr
      simp only [riB, inB, Bool.and_eq_true, decide_eq_true_eq] at h2
      exact ⟨h1, rfl, by omega, by omega, by omega, by omega⟩
  · rename_i h1; exact absurd h h1
theorem fr_eql (x : Fr) (w : World) : (binOp .eql 35 (.agg #[.int .i64 x.1, .int .i64 x.2]) (.agg #[.int .i64 x.1, .int .i64 x.2])).run Tryd.prog w = .ok (.bool true) w := by
  have ht : Tryd.prog.underlying 35 = some (.struct (Tryd.prog.fieldsOf 35)) := by kernel_rfl
  have hp : Tryd.prog.stoodInHeld 35 = false := by kernel_rfl
  rw [run_eql_struct, run_equalIn_agg w 9999 35 _ _ ht hp]
  simp [Tryd.underlying35, Tryd.underlying3, go_sem]
/-- What stands behind the draws of the bookings: the row, the stream. -/
def OdA (W : World) (v : Value) (l : List Bo) (w : World) : Prop :=
  OwnBo w (W.heap.size + 1) v l ∧ BoOk l ∧ l.length ≤ 10 ∧ SB w W.heap.size 100 ∧ G W w (some W.heap.size)
/-- What stands throughout: the row, the risk. -/
def OdI (W : World) (v : Value) (l : List Bo) (g : Nat) (r : Fr) (w : World) : Prop := RdR w 6 boC v l ∧ Bk w g 35 (frV r) ∧ G W w none
theorem OdI.quiet {W w w' : World} {v : Value} {l : List Bo} {g : Nat} {r : Fr} (h : OdI W v l g r w) (hG : G w w' none) : OdI W v l g r w' := ⟨h.1.quiet hG, h.2.1.quiet hG, h.2.2.trans hG⟩
theorem OdI.setRow {W w : World} {v : Value} {l : List Bo} {g k : Nat} {r : Fr} (h : OdI W v l g r w) (hg : g ≠ k) (hv : ∀ j, v.ownBlock = some j → j ≠ k) (hW : W.heap.size ≤ k) (cs : Array Value) : OdI W v l g r (w.setRow k cs) :=
  ⟨Rd.grown h.1 ((G.refl w (some k)).setRow (.inr rfl) cs) (fun j e hj => by cases e; exact hv _ hj rfl), h.2.1.farRow hg _, h.2.2.setRow (.inl hW) _⟩
/-- A row's block is there. -/
theorem Rd.blk {w : World} {z : Nat} {v : Value} {n : Nat} {cs : List Value} (h : Rd w z v n cs) : ∀ k, v.ownBlock = some k → k < w.heap.size := by
  obtain ⟨a, c, rfl, h1, h2, h3, h4, h5⟩ := h
  intro k hk
  cases a with
  | none => cases hk
  | some b =>
    have := (h5 b rfl).2.1
    cases hk
    exact this
set_option maxRecDepth 100000 in
set_option maxHeartbeats 16000000 in
theorem oddsExact_c (a : Option Addr) (n c : Nat) (zs : List Int) (W : World) (hr : Rd W 1 (.slice a n c) n (zs.map (Value.int .i64))) (hz : ∀ z ∈ zs, -9223372036854775808 ≤ z ∧ z ≤ 9223372036854775807) :
    Calls Tryd.prog 3 #[.slice a n c] W fun e W' => e = .returned (.bool true) ∧ G W W' none := by
  have hSB : SB (W.alloc (.cells #[.slice a n c, .int .i64 0] 25)) W.heap.size 0 := by
    have hB := Bk.new W 25 #[.slice a n c, .int .i64 0]
    refine ⟨0, a, n, c, zs, Nat.le_refl _, hr.quiet ((G.refl _ _).alloc _), fun b e => ?_, hz, hB.cell 0, hB.cell 1, hB.free 1, hB.lt⟩
    obtain ⟨a', c', e', r1, r2, r3, r4, r5⟩ := hr
    cases e'
    exact (r5 b e).2.1
  have hG0 : G W (W.alloc (.cells #[.slice a n c, .int .i64 0] 25)) (some W.heap.size) := (G.refl _ _).alloc _
  clear hr hz
  go_enter Tryd.func3, Tryd.ntmps3
  go_wp2_with fail
  refine (pick_c _ _ _ [0, 1, 2, 3, 4, 5, 6, 9] _ W.heap.size 0 (hSB.alloc _) (by omega) (by decide) (by decide) (Rd.newAt _ (by simp) rfl (by decide)) (hSB.newAt _ _ _ (by simp))).mono ?_; rintro e w1 ⟨m, rfl, hm, hSB1, hG1⟩
  have hm0 : 0 ≤ m ∧ m ≤ 9 := by simp only [List.mem_cons, List.mem_nil_iff, or_false] at hm; omega
  obtain ⟨m0, m1⟩ := hm0
  obtain ⟨m, rfl⟩ := Int.eq_ofNat_of_zero_le m0
  have hG01 := (hG0.alloc _).trans hG1
  clear hSB hG0 hG1 hm
  go_wp2_with fail
  refine (bookings_c w1 W.heap.size _ m hSB1 (by omega) (by omega)).mono ?_; rintro e w2 ⟨v, l, rfl, hown, hl, hln, hSB2, hG2⟩
  have hz1 : W.heap.size + 1 ≤ w1.heap.size := by have := hSB1.lt; omega
  have hown := OwnX.down hown (show W.heap.size + 1 ≤ w1.heap.size + 1 by omega)
  have hG02 := hG01.trans hG2
  have hl9 : l.length ≤ 9 := by omega
  clear hSB1 hG01 hG2 hln m0 m1 hz1
  go_wp2_with fail
  refine (pick_c _ _ _ [0, 1, 2, 3, 500, -1, 501] _ _ _ (hSB2.alloc _) (by omega) (by decide) (by decide) (Rd.newAt _ rfl rfl (by decide)) (hSB2.newAt _ _ _ (Nat.le_refl _))).mono ?_; rintro e w3 ⟨u, rfl, hu, hSB3, hG3⟩
  have hu0 : -1 ≤ u ∧ u ≤ 501 := by simp only [List.mem_cons, List.mem_nil_iff, or_false] at hu; omega
  obtain ⟨u0, u1⟩ := hu0
  have hown3 := OwnX.kept (OwnX.alloc hown _) hG3 (Nat.lt_succ_self _)
  have hG03 := (hG02.alloc _).trans hG3
  clear hSB2 hG02 hG3 hu hown
  go_wp2_with fail
  refine (flip_c _ _ _ _ hSB3 (by omega) (by omega)).mono ?_; rintro e w4 ⟨q, rfl, hSB4, hG4⟩
  have HA : Hid (OdA W v l w4) := Lib.hid ⟨OwnX.kept hown3 hG4 (Nat.lt_succ_self _), hl, by omega, hSB4.le (by omega), hG03.trans hG4⟩
  clear hSB3 hG03 hG4 hown3 hl hSB4
  go_upto_if 30 with fail
  go_cut [4] from 18 (fun s4 w => ∃ l, OdA W s4 l w)
  case first =>
    cases q with
    | false =>
      go_wp2_with fail
      go_meet
      case rel => exact ⟨l, HA.out⟩
    | true =>
      obtain ⟨hown, hl, hl10, hSB, hG⟩ := HA.out
      have hs4 := hSB.lt
      have hownA := OwnX.alloc hown (.cells #[.string ⟨#[98, 122]⟩, .string ⟨#[99]⟩, .int .i64 0, .int .i64 1, .int .i64 0, .int .i64 1] 33)
      have hob := OwnX.low hown
      go_wp2_with (at_builtin; refine wpList_plain rfl fun K' hK' => wp_append_x bo_rowOk _ _ rfl (W.heap.size + 1) v l rfl hownA w4.heap.size (⟨#[98, 122]⟩, ⟨#[99]⟩, 0, 1, 0, 1) rfl (Bk.new w4 _ _) (by omega) (by simp; omega) ?_; intro v8 w8 hown8 hgrow; refine hK' _ _ ?_)
      go_meet
      case rel => exact ⟨l ++ [(⟨#[98, 122]⟩, ⟨#[99]⟩, 0, 1, 0, 1)], hown8, hl.snoc ⟨small_of (by decide), small_of (by decide), by unfold bnd; dsimp only; omega, by unfold bnd; dsimp only; omega, by unfold bnd; dsimp only; omega, by unfold bnd; dsimp only; omega⟩, by simp; omega, (hSB.alloc _).own hgrow (fun r e => hob r e), (hG.alloc _).other hgrow (fun r e => .inl (by have := hob r e; omega))⟩
  case rest =>
    obtain ⟨l, hown, hl, hl10, hSB5, hG5⟩ := hcut
    clear HA hl9
    obtain ⟨a4, c4, hv4, hc4, hm4⟩ := RdR.form (Rd.of_owns hown)
    subst hv4
    go_wp2_with fail
    refine (pick_c _ _ _ [0, 1, 1, 5, 50] _ _ _ (hSB5.alloc _) (by omega) (by decide) (by decide) (Rd.newAt _ rfl rfl (by decide)) (hSB5.newAt _ _ _ (Nat.le_refl _))).mono ?_; rintro e w6 ⟨p, rfl, hp, hSB6, hG6⟩
    have hp0 : 0 ≤ p ∧ p ≤ 50 := by simp only [List.mem_cons, List.mem_nil_iff, or_false] at hp; omega
    obtain ⟨p0, p1⟩ := hp0
    have hown6 := OwnX.kept (OwnX.alloc hown _) hG6 (Nat.lt_succ_self _)
    have hG06 := (hG5.alloc _).trans hG6
    clear hSB5 hG5 hG6 hp
    go_wp2_with fail
    refine (pick_c _ _ _ [1, 2, 100, 1000000] _ _ _ (hSB6.alloc _) (by omega) (by decide) (by decide) (Rd.newAt _ rfl rfl (by decide)) (hSB6.newAt _ _ _ (Nat.le_refl _))).mono ?_; rintro e w7 ⟨d, rfl, hd, hSB7, hG7⟩
    have hd0 : 1 ≤ d ∧ d ≤ 1000000 := by simp only [List.mem_cons, List.mem_nil_iff, or_false] at hd; omega
    obtain ⟨d0, d1⟩ := hd0
    have hown7 := OwnX.kept (OwnX.alloc hown6 _) hG7 (Nat.lt_succ_self _)
    have hG07 := (hG06.alloc _).trans hG7
    clear hSB6 hG06 hG7 hd hown6
    have hB7 := Bk.new w7 35 (frV (p, d))
    have hSB8 := hSB7.alloc (.cells (frV (p, d)) 35)
    have hown8 := OwnX.alloc hown7 (.cells (frV (p, d)) 35)
    have hG08 := hG07.alloc (.cells (frV (p, d)) 35)
    have hs7 := hSB7.lt
    have hv7 := (Rd.of_owns hown7).blk
    clear hSB7 hG07 hown7
    go_wp2_with fail
    refine (flip_c _ _ _ _ hSB8 (by omega) (by omega)).mono ?_; rintro e w8 ⟨q, rfl, hSB9, hG8⟩
    have HB : Hid (SB w8 W.heap.size 200 ∧ OdI W (.slice a4 l.length c4) l w7.heap.size (p, d) w8) := Lib.hid ⟨hSB9.le (by omega), Rd.of_owns (OwnX.kept hown8 hG8 (Nat.lt_succ_self _)), hB7.grown hG8 (fun e => by have := Option.some.inj e; omega), G.own (hG08.trans hG8) (Nat.le_refl _)⟩
    clear hB7 hSB8 hown8 hG08 hSB9 hG8
    have hvg := hv7
    generalize w7.heap.size = g at HB hs7 hvg ⊢
    go_upto_if 44 with fail
    go_cut [] from 18 (fun w => ∃ r : Fr, (bnd r.1 ∧ bnd r.2) ∧ OdI W (.slice a4 l.length c4) l g r w)
    case first =>
      cases q with
      | false =>
        go_wp2_with fail
        go_meet
        case rel => exact ⟨(p, d), ⟨by unfold bnd; dsimp only; omega, by unfold bnd; dsimp only; omega⟩, HB.out.2⟩
      | true =>
        obtain ⟨hSB9, hrd, hB, hG⟩ := HB.out
        go_wp2_with fail
        refine (odd_c _ _ _ _ _ hSB9 (by omega) (by omega) (by omega) (by omega) (by omega)).mono ?_; rintro e w9 ⟨x, rfl, x0, x1, hSBa, hGa⟩
        have hrda := hrd.grown hGa (fun k e hk => by cases e; have := OwnX.low hown _ hk; omega)
        have hBa := hB.grown hGa (fun e => by have := Option.some.inj e; omega)
        have hG0a := (hG.but _).trans hGa
        clear hrd hB hG hGa hSB9
        go_wp2_with fail
        refine (odd_c _ _ _ _ _ hSBa (by omega) (by omega) (by omega) (by omega) (by omega)).mono ?_; rintro e wb ⟨y, rfl, y0, y1, hSBb, hGb⟩
        have hrdb := hrda.grown hGb (fun k e hk => by cases e; have := OwnX.low hown _ hk; omega)
        have hBb := hBa.grown hGb (fun e => by have := Option.some.inj e; omega)
        have hG0b := hG0a.trans hGb
        clear hrda hBa hG0a hGb hSBa
        go_wp2_with (refine wpList_store_row rfl 35 _ _ rfl g (frC x y) rfl rfl 35 _ hBb (fr_info x y) rfl (fr_one x y) ?_)
        go_meet
        case rel => exact ⟨(x, y), ⟨⟨x0, x1⟩, ⟨y0, y1⟩⟩, Rd.grown hrdb ((G.refl wb (some g)).setRow (.inr rfl) _) (fun k e hk => by cases e; have := hvg _ hk; omega), hBb.setRow _, (G.own hG0b (Nat.le_refl _)).setRow (.inl (by omega)) _⟩
    case rest =>
      obtain ⟨r, ⟨hr1, hr2⟩, hI⟩ := hcut
      clear HB
      go_wp2_with fail
      refine (spread_c (.slice a4 l.length c4) l _ hI.1 hl (by omega)).mono ?_; rintro e w8 ⟨vs, ms, rfl, hrs, hms, hG8⟩
      have hI := hI.quiet hG8
      clear hG8
      go_wp2_with fail
      refine (overP_c (.slice a4 l.length c4) l u _ hI.1 hl (by omega)).mono ?_; rintro e w9 ⟨rfl, hG9⟩
      have hI := hI.quiet hG9
      have hrs := hrs.quiet hG9
      clear hG9
      obtain ⟨F, hF⟩ : ∃ F, ovP l u = F := ⟨_, rfl⟩
      rw [hF, show frV F = #[.int .i64 F.1, .int .i64 F.2] from rfl]
      have HF := Lib.hid hF
      have hF9 : Bk (w9.alloc (.cells #[.int .i64 F.1, .int .i64 F.2] 35)) w9.heap.size 35 (frV F) := Bk.new _ _ _
      have hI := hI.quiet ((G.refl w9 none).alloc (.cells #[.int .i64 F.1, .int .i64 F.2] 35))
      have hrs := hrs.quiet ((G.refl w9 none).alloc (.cells #[.int .i64 F.1, .int .i64 F.2] 35))
      clear hF
      go_wp2_with (refine wpList_load_row rfl 35 _ rfl g rfl 35 #[.int .i64 r.1, .int .i64 r.2] (0, 0) _ hI.2.1 Tryd.underlying35 rfl (fr_info r.1 r.2) ?_)
      have hf9 := hF9.lt
      generalize w9.alloc (.cells #[.int .i64 F.1, .int .i64 F.2] 35) = wa at hF9 hI hrs hf9 ⊢
      generalize w9.heap.size = f at hF9 hf9 ⊢
      refine (most_c (.slice a4 l.length c4) l u r _ hI.1 hl (by omega)).mono ?_; rintro e wb ⟨rfl, hGb⟩
      have hI := hI.quiet hGb
      have hrs := hrs.quiet hGb
      have hF9 := hF9.quiet hGb
      clear hGb hf9
      go_wp2_with fail
      refine (bookingForm_c (.slice a4 l.length c4) l _ hI.1 hl (by omega)).mono ?_; rintro e wd ⟨rfl, hGd⟩
      have hI := hI.quiet hGd
      have hrs := hrs.quiet hGd
      have hF9 := hF9.quiet hGd
      clear hGd
      obtain ⟨q1, hq1⟩ : ∃ q1, q1 = if 9 < l.length then (2 : Int) else 0 := ⟨_, rfl⟩
      have Hq1 := Lib.hid (od_one l q1 hq1)
      have hw1 : ∀ w : World, Calls Tryd.prog 14 #[.bool (decide ((9 : Int) < (l.length : Int))), .int .i64 2] w fun e w' => e = .returned (.int .i64 q1) ∧ w = w' := fun w => by
        refine (when_c _ 2 w).mono ?_; rintro e w' ⟨rfl, rfl⟩
        refine ⟨ret_int ?_, rfl⟩
        rw [hq1]
        by_cases h : 9 < l.length
        · rw [if_pos h, decide_eq_true (show (9 : Int) < (l.length : Int) by omega)]; rfl
        · rw [if_neg h, decide_eq_false (show ¬ (9 : Int) < (l.length : Int) by omega)]; rfl
      have HW1 := Lib.hid hw1
      clear hq1 hw1
      go_wp2_with fail
      refine (HW1.out _).mono ?_; rintro e w' ⟨rfl, rfl⟩
      have hI := hI.quiet ((G.refl wd none).alloc (.cells #[.int .i64 (boE l), .int .i64 q1] 38))
      have hrs := hrs.quiet ((G.refl wd none).alloc (.cells #[.int .i64 (boE l), .int .i64 q1] 38))
      have hF9 := hF9.quiet ((G.refl wd none).alloc (.cells #[.int .i64 (boE l), .int .i64 q1] 38))
      go_wp2_with fail
      refine (errs_c [boE l, q1] _ _ (Rd.new #[.int .i64 (boE l), .int .i64 q1] rfl (by show 2 ≤ maxLen; decide)) (by simp)).mono ?_; rintro e w' ⟨rfl, rfl⟩
      rw [Hq1.out]
      generalize wd.alloc (.cells #[.int .i64 (boE l), .int .i64 q1] 38) = we at hI hrs hF9 ⊢
      clear Hq1 HW1
      generalize we = wx at hI hrs hF9 ⊢
      go_upto_region 12 with fail
      go_cut [14] from 76 (fun s14 w => s14 = .int .i64 (cuE l u) ∧ OdI W (.slice a4 l.length c4) l g r w ∧ Rd w 2 vs ms.length (rowL frV ms) ∧ Bk w f 35 (frV F))
      case first =>
        rcases (show u < 0 ∨ (0 ≤ u ∧ 500 < u) ∨ (0 ≤ u ∧ u ≤ 500) by omega) with k1 | ⟨k1, k2⟩ | ⟨k1, k2⟩
        · have hone := od_two l u 1 (by rw [inB, decide_eq_false (show ¬ 0 ≤ u by omega)]; rfl)
          go_wp2_with fail
          refine (when_t _ _).mono ?_; rintro e w' ⟨rfl, rfl⟩
          have hI := hI.quiet ((G.refl wx none).alloc (.cells #[.int .i64 (coE l), .int .i64 1] 38))
          have hrs := hrs.quiet ((G.refl wx none).alloc (.cells #[.int .i64 (coE l), .int .i64 1] 38))
          have hF9 := hF9.quiet ((G.refl wx none).alloc (.cells #[.int .i64 (coE l), .int .i64 1] 38))
          go_wp2_with fail
          refine (errs_c [coE l, 1] _ _ (Rd.new #[.int .i64 (coE l), .int .i64 1] rfl (by show 2 ≤ maxLen; decide)) (by simp)).mono ?_; rintro e w' ⟨rfl, rfl⟩
          rw [hone]
          go_wp2_with fail
          go_meet
          case rel => exact ⟨rfl, hI, hrs, hF9⟩
        · have hone := od_two l u 1 (by rw [inB, decide_eq_false (show ¬ u ≤ 500 by omega), Bool.and_false]; rfl)
          go_wp2_with fail
          refine (when_t _ _).mono ?_; rintro e w' ⟨rfl, rfl⟩
          have hI := hI.quiet ((G.refl wx none).alloc (.cells #[.int .i64 (coE l), .int .i64 1] 38))
          have hrs := hrs.quiet ((G.refl wx none).alloc (.cells #[.int .i64 (coE l), .int .i64 1] 38))
          have hF9 := hF9.quiet ((G.refl wx none).alloc (.cells #[.int .i64 (coE l), .int .i64 1] 38))
          go_wp2_with fail
          refine (errs_c [coE l, 1] _ _ (Rd.new #[.int .i64 (coE l), .int .i64 1] rfl (by show 2 ≤ maxLen; decide)) (by simp)).mono ?_; rintro e w' ⟨rfl, rfl⟩
          rw [hone]
          go_wp2_with fail
          go_meet
          case rel => exact ⟨rfl, hI, hrs, hF9⟩
        · have hone := od_two l u 0 (by rw [inB, decide_eq_true k1, decide_eq_true k2]; rfl)
          go_wp2_with fail
          rw [show (decide (u < 0) || decide (500 < u)) = false by rw [decide_eq_false (show ¬ u < 0 by omega), decide_eq_false (show ¬ 500 < u by omega)]; rfl]
          refine (when_f _ _).mono ?_; rintro e w' ⟨rfl, rfl⟩
          have hI := hI.quiet ((G.refl wx none).alloc (.cells #[.int .i64 (coE l), .int .i64 0] 38))
          have hrs := hrs.quiet ((G.refl wx none).alloc (.cells #[.int .i64 (coE l), .int .i64 0] 38))
          have hF9 := hF9.quiet ((G.refl wx none).alloc (.cells #[.int .i64 (coE l), .int .i64 0] 38))
          go_wp2_with fail
          refine (errs_c [coE l, 0] _ _ (Rd.new #[.int .i64 (coE l), .int .i64 0] rfl (by show 2 ≤ maxLen; decide)) (by simp)).mono ?_; rintro e w' ⟨rfl, rfl⟩
          rw [hone]
          go_wp2_with fail
          go_meet
          case rel => exact ⟨rfl, hI, hrs, hF9⟩
      case rest =>
        obtain ⟨rfl, hI, hrs, hF9⟩ := hcut
        generalize wc = wx at hI hrs hF9 ⊢
        have c0 : wx.cell? ⟨g, 0, none⟩ = some (.int .i64 r.1) := hI.2.1.cell 0
        have c1 : wx.cell? ⟨g, 1, none⟩ = some (.int .i64 r.2) := hI.2.1.cell 1
        go_upto_region 13 with fail
        go_cut [15] from 76 (fun s15 w => s15 = .int .i64 (moE l u r) ∧ OdI W (.slice a4 l.length c4) l g r w ∧ Rd w 2 vs ms.length (rowL frV ms) ∧ Bk w f 35 (frV F))
        case first =>
          rcases (show r.2 < 1 ∨ (1 ≤ r.2 ∧ 1000000 < r.2) ∨ (1 ≤ r.2 ∧ r.2 ≤ 1000000 ∧ r.1 < 0) ∨ (1 ≤ r.2 ∧ r.2 ≤ 1000000 ∧ 0 ≤ r.1 ∧ r.2 < r.1) ∨ (1 ≤ r.2 ∧ r.2 ≤ 1000000 ∧ 0 ≤ r.1 ∧ r.1 ≤ r.2) by omega) with k1 | ⟨k1, k2⟩ | ⟨k1, k2, k3⟩ | ⟨k1, k2, k3, k4⟩ | ⟨k1, k2, k3, k4⟩
          · have hone := od_three l u r 1 (by rw [riB, inB, decide_eq_false (show ¬ 1 ≤ r.2 by omega)]; rfl)
            go_wp2_with fail
            refine (when_t _ _).mono ?_; rintro e w' ⟨rfl, rfl⟩
            have hI := hI.quiet ((G.refl wx none).alloc (.cells #[.int .i64 (cuE l u), .int .i64 1] 38))
            have hrs := hrs.quiet ((G.refl wx none).alloc (.cells #[.int .i64 (cuE l u), .int .i64 1] 38))
            have hF9 := hF9.quiet ((G.refl wx none).alloc (.cells #[.int .i64 (cuE l u), .int .i64 1] 38))
            go_wp2_with fail
            refine (errs_c [cuE l u, 1] _ _ (Rd.new #[.int .i64 (cuE l u), .int .i64 1] rfl (by show 2 ≤ maxLen; decide)) (by simp)).mono ?_; rintro e w' ⟨rfl, rfl⟩
            rw [hone]
            go_wp2_with fail
            go_meet
            case rel => exact ⟨rfl, hI, hrs, hF9⟩
          · have hone := od_three l u r 1 (by rw [riB, inB, decide_eq_false (show ¬ r.2 ≤ 1000000 by omega), Bool.and_false]; rfl)
            have d0 : decide (r.2 < 1) = false := decide_eq_false (by omega)
            go_wp2_with fail
            refine (when_t _ _).mono ?_; rintro e w' ⟨rfl, rfl⟩
            have hI := hI.quiet ((G.refl wx none).alloc (.cells #[.int .i64 (cuE l u), .int .i64 1] 38))
            have hrs := hrs.quiet ((G.refl wx none).alloc (.cells #[.int .i64 (cuE l u), .int .i64 1] 38))
            have hF9 := hF9.quiet ((G.refl wx none).alloc (.cells #[.int .i64 (cuE l u), .int .i64 1] 38))
            go_wp2_with fail
            refine (errs_c [cuE l u, 1] _ _ (Rd.new #[.int .i64 (cuE l u), .int .i64 1] rfl (by show 2 ≤ maxLen; decide)) (by simp)).mono ?_; rintro e w' ⟨rfl, rfl⟩
            rw [hone]
            go_wp2_with fail
            go_meet
            case rel => exact ⟨rfl, hI, hrs, hF9⟩
          · have hone := od_three l u r 1 (by rw [riB, inB, inB, decide_eq_false (show ¬ 0 ≤ r.1 by omega), Bool.false_and, Bool.and_false]; rfl)
            have d0 : decide (r.2 < 1) = false := decide_eq_false (by omega)
            have d1 : decide (1000000 < r.2) = false := decide_eq_false (by omega)
            go_wp2_with fail
            refine (when_t _ _).mono ?_; rintro e w' ⟨rfl, rfl⟩
            have hI := hI.quiet ((G.refl wx none).alloc (.cells #[.int .i64 (cuE l u), .int .i64 1] 38))
            have hrs := hrs.quiet ((G.refl wx none).alloc (.cells #[.int .i64 (cuE l u), .int .i64 1] 38))
            have hF9 := hF9.quiet ((G.refl wx none).alloc (.cells #[.int .i64 (cuE l u), .int .i64 1] 38))
            go_wp2_with fail
            refine (errs_c [cuE l u, 1] _ _ (Rd.new #[.int .i64 (cuE l u), .int .i64 1] rfl (by show 2 ≤ maxLen; decide)) (by simp)).mono ?_; rintro e w' ⟨rfl, rfl⟩
            rw [hone]
            go_wp2_with fail
            go_meet
            case rel => exact ⟨rfl, hI, hrs, hF9⟩
          · have hone := od_three l u r 1 (by rw [riB, inB, inB, decide_eq_false (show ¬ r.1 ≤ r.2 by omega), Bool.and_false, Bool.and_false]; rfl)
            have d0 : decide (r.2 < 1) = false := decide_eq_false (by omega)
            have d1 : decide (1000000 < r.2) = false := decide_eq_false (by omega)
            have d2 : decide (r.1 < 0) = false := decide_eq_false (by omega)
            go_wp2_with fail
            refine (when_t _ _).mono ?_; rintro e w' ⟨rfl, rfl⟩
            have hI := hI.quiet ((G.refl wx none).alloc (.cells #[.int .i64 (cuE l u), .int .i64 1] 38))
            have hrs := hrs.quiet ((G.refl wx none).alloc (.cells #[.int .i64 (cuE l u), .int .i64 1] 38))
            have hF9 := hF9.quiet ((G.refl wx none).alloc (.cells #[.int .i64 (cuE l u), .int .i64 1] 38))
            go_wp2_with fail
            refine (errs_c [cuE l u, 1] _ _ (Rd.new #[.int .i64 (cuE l u), .int .i64 1] rfl (by show 2 ≤ maxLen; decide)) (by simp)).mono ?_; rintro e w' ⟨rfl, rfl⟩
            rw [hone]
            go_wp2_with fail
            go_meet
            case rel => exact ⟨rfl, hI, hrs, hF9⟩
          · have hone := od_three l u r 0 (by rw [riB, inB, inB, decide_eq_true k1, decide_eq_true k2, decide_eq_true k3, decide_eq_true k4]; rfl)
            have d0 : decide (r.2 < 1) = false := decide_eq_false (by omega)
            have d1 : decide (1000000 < r.2) = false := decide_eq_false (by omega)
            have d2 : decide (r.1 < 0) = false := decide_eq_false (by omega)
            have d3 : decide (r.2 < r.1) = false := decide_eq_false (by omega)
            go_wp2_with fail
            refine (when_f _ _).mono ?_; rintro e w' ⟨rfl, rfl⟩
            have hI := hI.quiet ((G.refl wx none).alloc (.cells #[.int .i64 (cuE l u), .int .i64 0] 38))
            have hrs := hrs.quiet ((G.refl wx none).alloc (.cells #[.int .i64 (cuE l u), .int .i64 0] 38))
            have hF9 := hF9.quiet ((G.refl wx none).alloc (.cells #[.int .i64 (cuE l u), .int .i64 0] 38))
            go_wp2_with fail
            refine (errs_c [cuE l u, 0] _ _ (Rd.new #[.int .i64 (cuE l u), .int .i64 0] rfl (by show 2 ≤ maxLen; decide)) (by simp)).mono ?_; rintro e w' ⟨rfl, rfl⟩
            rw [hone]
            go_wp2_with fail
            go_meet
            case rel => exact ⟨rfl, hI, hrs, hF9⟩
        case rest =>
          obtain ⟨rfl, hI, hrs, hF9⟩ := hcut
          clear c0 c1
          generalize wc = wy at hI hrs hF9 ⊢
          go_upto_region 14 with fail
          go_cut [142] from 110 (fun s142 w => s142 = .bool false ∧ OdI W (.slice a4 l.length c4) l g r w ∧ Bk w f 35 (frV F))
          case first =>
            by_cases hc : coE l = 0
            · have hms2 : ms = spL l := by rw [hms, if_pos hc]
              subst hms2
              obtain ⟨hpc, hl9⟩ := coE_ok hc
              have hcl : (spL l).length ≤ 1000000 := by
                rw [spL, List.length_map, (cas_ok (pcs l) hpc).1]
                simp [pcs]
                omega
              have hne : (coE l == 0) = true := by simpa using hc
              have hnn : (coE l != 0) = false := by simpa using hc
              clear hc
              go_wp2_with fail
              refine (spreadOf_c _ l _ hI.1 hl9 hpc).mono ?_; rintro e wz ⟨v2, rfl, hrd2, hGz⟩
              have hI := hI.quiet hGz
              have hF9 := hF9.quiet hGz
              have hrs := hrs.quiet hGz
              clear hGz
              go_wp2_with fail
              refine (frEqual_c vs v2 _ _ _ hrs hrd2 hcl).mono ?_; rintro e wz2 ⟨rfl, hGz⟩
              rw [decide_eq_true (rfl : spL l = spL l)]
              have hI := hI.quiet hGz
              have hF9 := hF9.quiet hGz
              go_wp2_with fail
              go_meet
              case rel => exact ⟨rfl, hI, hF9⟩
            · have hv : ∃ a7 c7, vs = .slice a7 0 c7 := by
                obtain ⟨a7, c7, h, _⟩ := RdR.form hrs
                exact ⟨a7, c7, by rw [h, hms, if_neg hc]; rfl⟩
              obtain ⟨a7, c7, hv7⟩ := hv
              clear hrs hms
              have hlen0 : ∀ w : World, (Builtin.len_ #[37] 3 #[vs]).run Tryd.prog w = .ok (.int .i64 0) w := fun w => by rw [hv7]; rfl
              clear hv7
              have hne : (coE l == 0) = false := by simpa using hc
              have hnn : (coE l != 0) = true := by simpa using hc
              clear hc
              go_wp2_with fail
              go_meet
              case rel => exact ⟨rfl, hI, hF9⟩
          case rest =>
            obtain ⟨rfl, hI, hF9⟩ := hcut
            clear hrs hms
            generalize wc = wy at hI hF9 ⊢
            have hvh := hI.1.blk
            have hgh := hI.2.1.lt
            have hfh := hF9.lt
            have hWh := hI.2.2.size
            have hH := Bk.new wy 35 (frV (0, 0))
            have hI := hI.quiet ((G.refl wy none).alloc (.cells (frV (0, 0)) 35))
            have hF9 := hF9.quiet ((G.refl wy none).alloc (.cells (frV (0, 0)) 35))
            go_upto_if 145 with fail
            rw [show wy.alloc (.cells #[.int .i64 0, .int .i64 0] 35) = wy.alloc (.cells (frV (0, 0)) 35) from rfl]
            generalize wy.alloc (.cells (frV (0, 0)) 35) = wz at hH hI hF9 ⊢
            generalize wy.heap.size = h at hH hvh hgh hfh hWh ⊢
            go_cut [] from 144 (fun w => OdI W (.slice a4 l.length c4) l g r w ∧ Bk w f 35 (frV F) ∧ Bk w h 35 (frV F))
            case first =>
              by_cases hE : cuE l u = 0
              · obtain ⟨hpc, hl9, hui⟩ := cuE_ok hE
                have HFE : Hid (ovF l u = F) := Lib.hid (by rw [← HF.out, ovP, if_pos hE])
                have hee : (cuE l u == 0) = true := by simpa using hE
                clear hE
                go_wp2_with fail
                refine (overOfP_c _ l u _ hI.1 hl9 hpc).mono ?_; rintro e wk ⟨rfl, hGk⟩
                rw [HFE.out, show frV F = #[.int .i64 F.1, .int .i64 F.2] from rfl]
                have hI := hI.quiet hGk
                have hF9 := hF9.quiet hGk
                have hH := hH.quiet hGk
                go_wp2_with (refine wpList_store_row rfl 35 _ _ rfl h (frC F.1 F.2) rfl rfl 35 _ hH (fr_info F.1 F.2) rfl (fr_one F.1 F.2) ?_)
                go_meet
                case rel => exact ⟨hI.setRow (by omega) (fun j e => by have := hvh j e; omega) hWh _, hF9.farRow (by omega) _, hH.setRow _⟩
              · have HFE : Hid (F = (0, 0)) := Lib.hid (by rw [← HF.out, ovP, if_neg hE])
                have hee : (cuE l u == 0) = false := by simpa using hE
                clear hE
                go_wp2_with fail
                go_meet
                case rel => exact ⟨hI, hF9, by rw [HFE.out]; exact hH⟩
            case rest =>
              obtain ⟨hI, hF9, hH⟩ := hcut
              generalize wc = wx at hI hF9 hH ⊢
              go_upto_if 150 with fail
              go_cut [17] from 146 (fun s17 w => s17 = .int .i64 (moN l u r) ∧ OdI W (.slice a4 l.length c4) l g r w ∧ Bk w f 35 (frV F) ∧ Bk w h 35 (frV F))
              case first =>
                by_cases hE : moE l u r = 0
                · obtain ⟨z1, z2, z3, z4, z5, z6⟩ := mo_zero hE
                  obtain ⟨hpc, hl9, hui⟩ := cuE_ok z1
                  have HN : Hid ((mostK (ovG l u r) l.length : Nat) = moN l u r) := Lib.hid (by rw [moN, if_pos hE])
                  have hee : (moE l u r == 0) = true := by simpa using hE
                  clear hE z1 z2
                  go_wp2_with (refine wpList_load_row rfl 35 _ rfl g rfl 35 #[.int .i64 r.1, .int .i64 r.2] (0, 0) _ hI.2.1 Tryd.underlying35 rfl (fr_info r.1 r.2) ?_)
                  refine (mostOf_c _ l u r _ hI.1 hl9 hpc ⟨z3, z4, z5, z6⟩).mono ?_; rintro e wk ⟨rfl, hGk⟩
                  rw [HN.out]
                  have hI := hI.quiet hGk
                  have hF9 := hF9.quiet hGk
                  have hH := hH.quiet hGk
                  go_wp2_with fail
                  go_meet
                  case rel => exact ⟨rfl, hI, hF9, hH⟩
                · have HN : Hid (moN l u r = 0) := Lib.hid (by rw [moN, if_neg hE])
                  have hee : (moE l u r == 0) = false := by simpa using hE
                  clear hE
                  go_wp2_with fail
                  go_meet
                  case rel => exact ⟨by rw [HN.out], hI, hF9, hH⟩
              case rest =>
                obtain ⟨rfl, hI, hF9, hH⟩ := hcut
                generalize wc = wx at hI hF9 hH ⊢
                have heq := fr_eql F
                go_wp2_with (first | refine wpList_load_row rfl 35 _ rfl f rfl 35 #[.int .i64 F.1, .int .i64 F.2] (0, 0) _ hF9 Tryd.underlying35 rfl (fr_info F.1 F.2) ?_ | refine wpList_load_row rfl 35 _ rfl h rfl 35 #[.int .i64 F.1, .int .i64 F.2] (0, 0) _ hH Tryd.underlying35 rfl (fr_info F.1 F.2) ?_)
                refine (booked_c _).mono ?_; rintro e wk ⟨rfl, hGk⟩
                go_wp2_with fail
                go_ret
                exact ⟨rfl, hI.2.2.trans hGk⟩
end Go.Proofs.YtlnoafkepfgooaaDoor

/- What the row's list of variables gives; a start that meets it. -/
namespace Go.Proofs.YtlnoafkepfgooaaDoor
open Go.ChangeShapes Go.WideShapes Go.ChangeAt Go.RowKit

theorem own : ownKnob Tryd.prog.godebug = none := by kernel_rfl
theorem c1 : Tryd.prog.cellsOf 3 = 1 := by kernel_rfl
def laidL : List (String × DataW Unit) := [("unicode/utf8.acceptRanges", Rows.laid_unicode_utf8_acceptRanges), ("unicode/utf8.first", Rows.laid_unicode_utf8_first)]
/-- A start that meets the list: what the door's run leaves, Go's own table laid by hand. -/
noncomputable def laidWorld (os : Os) : World :=
  { World.doorLaid Tryd.prog 200 os with heap := (World.doorLaid Tryd.prog 200 os).heap.modify 2 fun
      | .cells _ t fr => .cells (Lib.firstTab.map (Value.int .u8)).toArray t fr
      | o => o }
set_option maxRecDepth 100000 in
theorem laid_met (os : Os) : laidMetH Tryd.prog laidL ((laidWorld os).forCall (fun _ _ => 0) ⟨#[], #[.slice none 0 0], []⟩).memory :=
  laidMetH_of_parts3 (fuel := 8) (laidMet_of_run' 8 (by kernel_rfl) (by kernel_rfl)) (by kernel_rfl) (by kernel_rfl)

/-! ### The row's last step -/
section
variable {H : Type} {enc : TypeId × Value → H} {P : Program}
theorem post_quiet {f : Func} {s : ChangeSpec} {apart fresh handsOn again : Bool} {W W' : World} {args : Array Value} {v : Value} {ds gs : List (DataW H)} {before pa pv : List MemPlace}
    (hW : DataW.Whole enc P f.params.toList s.vars apart W args.toList ds gs before) (hg : G W W' none)
    (hres : ∀ (b : Nat) (sp : Nat → Bool) (hd : Bool), DataW.TrodAll enc P W' b sp hd f.resultTypes.toList (v.resultList f.resultTypes.size) (s.fn H (ds ++ gs)).results [])
    (hargs : ∀ sp : Nat → Bool, (∀ p ∈ before, sp p.block = true) → DataW.TrodAll enc P W' 0 sp true f.params.toList args.toList (s.fn H (ds ++ gs)).args pa)
    (hvars : ∀ sp : Nat → Bool, (∀ p ∈ before, sp p.block = true) → DataW.TrodVars enc P W' sp s.vars (s.fn H (ds ++ gs)).vars pv)
    (hps : before = pa ++ pv)
    (hok : ∀ (j : Nat) (t : TypeId) (r : Value), f.resultTypes[j]? = some t → (v.resultList f.resultTypes.size)[j]? = some r → Value.okWide P W' .any 0 t r) :
    s.post enc P f apart fresh handsOn again W args v W' := by
  have hb := hg.below
  have lt : ∀ p ∈ before, p.block < W.heap.size := fun p hp => hW.lt p hp
  have old : ∀ p ∈ before, (fun b => decide (b < W.heap.size)) p.block = true := fun p hp => decide_eq_true (lt p hp)
  have sub : ∀ p, p ∈ ([] ++ pa) ++ pv → p ∈ before := fun p hp => by rw [hps]; simpa using hp
  refine ⟨ds, gs, before, [], pa, pv, hW, hres _ _ _, hargs _ old, hvars _ old, World.keptBut_mono (fun p hp => ⟨hp, .inr (by rw [← List.mem_append, ← hps]; exact hp)⟩) (hb.frame (· ∈ before)), fun _ => ⟨hok, ?_⟩⟩
  obtain ⟨_, _, _, _, _, hz, hn⟩ := hW
  refine ⟨_, _, ([] ++ pa) ++ pv, ⟨[] ++ pa, pv, trodAll_append (hargs _ fun _ _ => rfl) (hres _ _ _), hvars _ fun _ _ => rfl, rfl, fun b off hp => ?_, fun ha => ?_⟩, fun p hp _ => sub p hp⟩
  · rw [hb.frozen (lt _ (sub _ hp))]
    exact hz b off (sub _ hp)
  · have h := hn ha
    rw [hps] at h
    simpa using h
end
theorem laidOut : laidOutB Tryd.prog = true := by kernel_rfl
theorem wf64 {n : Int} (h : (Lit.int .i64 n).wf = true) : -9223372036854775808 ≤ n ∧ n ≤ 9223372036854775807 := by
  have h1 : IntKind.i64.min = -9223372036854775808 := rfl
  have h2 : IntKind.i64.max = 9223372036854775807 := rfl
  simp only [Lit.wf, Bool.and_eq_true, decide_eq_true_eq] at h
  omega
set_option maxRecDepth 100000 in
theorem has_of_ok {W : World} {base : Nat} {a : Addr} {n c : Nat} (hok : Value.okWide Tryd.prog W .any base 22 (.slice (some a) n c)) : a.spot = none ∧ a.block < W.heap.size := by
  simp only [Value.okWide, Tryd.underlying22, Cell.okWide, Cell.ok] at hok
  obtain ⟨_, _, _, h2, row, cells, h3, _⟩ := hok
  refine ⟨h2, ?_⟩
  unfold World.shape? at h3
  cases hh : W.heap[a.block]? with
  | none => simp [hh] at h3
  | some o => exact (Array.getElem?_eq_some_iff.1 hh).1
set_option maxRecDepth 100000 in
/-- The list of numbers that came in, as the walk wants it. -/
theorem rd_of_trod {H : Type} {enc : TypeId × Value → H} {W : World} {base : Nat} {v : Value} {d : DataW H} {p : List MemPlace} (hok : Value.okWide Tryd.prog W .any base 22 v) (h : DataW.Trod enc Tryd.prog W 0 (fun _ => true) true 22 v d p) :
    ∃ (a : Option Addr) (n c : Nat) (zs : List Int), v = .slice a n c ∧ Rd W 1 (.slice a n c) n (zs.map (Value.int .i64)) ∧ ∀ z ∈ zs, -9223372036854775808 ≤ z ∧ z ≤ 9223372036854775807 := by
  obtain ⟨a0, len, cap, rfl⟩ := okWide_slice Tryd.underlying22 hok
  obtain ⟨fuel, hf⟩ := h
  rcases open_ints Tryd.underlying22 Tryd.underlying3 c1 hf with ⟨hcs, _⟩ | ⟨a, len', cap', zs, hcs, _, hl, hm, hz, _, hcell, hw⟩
  · have hcs' : [Value.slice a0 len cap] = [Value.slice none 0 0] := hcs
    injection hcs' with e _
    injection e with e1 e2 e3
    subst e1; subst e2; subst e3
    exact ⟨none, 0, 0, [], rfl, ⟨none, 0, rfl, Nat.le_refl _, Nat.zero_le _, rfl, fun _ => ⟨rfl, rfl⟩, fun b hb => by cases hb⟩, fun z hz => by cases hz⟩
  · have hcs' : [Value.slice a0 len cap] = [Value.slice (some a) len' cap'] := hcs
    injection hcs' with e _
    injection e with e1 e2 e3
    subst e1; subst e2; subst e3
    simp only [if_true] at hz
    obtain ⟨s1, s2⟩ := has_of_ok hok
    refine ⟨some a, len, cap, zs.take len, rfl, ⟨some a, cap, rfl, hl, hm, by simp; omega, (fun e => by cases e), fun b hb => ?_⟩, fun z hz' => wf64 (hw z (List.mem_of_mem_take hz'))⟩
    obtain rfl := Option.some.inj hb
    refine ⟨s1, s2, fun j u hj => ?_⟩
    rw [List.getElem?_map] at hj
    obtain ⟨z, hz1, rfl⟩ := Option.map_eq_some_iff.1 hj
    have hjl := (List.getElem?_eq_some_iff.1 hz1).1
    simp at hjl
    have hc := hcell j (by omega)
    have hz2 : zs[j]? = some z := by rw [← hz1, List.getElem?_take, if_pos (by omega)]
    rw [List.getD, hz2] at hc
    have ha : a.add j = ⟨a.block, a.off + j, none⟩ := by
      obtain ⟨ab, ao, asp⟩ := a
      dsimp only at s1
      subst s1
      exact add_at ab ao j
    rw [ha] at hc
    exact hc
end Go.Proofs.YtlnoafkepfgooaaDoor
