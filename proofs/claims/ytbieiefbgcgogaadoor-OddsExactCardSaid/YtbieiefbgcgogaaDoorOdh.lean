/- Odds: Most, for any bookings. -/
import Derived.Test.YtbieiefbgcgogaaDoorOdg
namespace Go.Proofs.YtbieiefbgcgogaaDoor
open Go.RowKit Go.Shelf

/-- The greatest k, up to the given one, that is none of these; 0 if there is none. -/
def mostK (p : Nat → Bool) : Nat → Nat
  | 0 => 0
  | k + 1 => if p (k + 1) = true then mostK p k else k + 1
def grB (x r : Fr) : Bool := decide (r.1.toNat * x.2.toNat < x.1.toNat * r.2.toNat)
def ovG (l : List Bo) (u : Int) (r : Fr) (k : Nat) : Bool := grB (ovF (l.take k) u) r
def riB (r : Fr) : Bool := inB r.2 1 1000000 && inB r.1 0 r.2
def moE (l : List Bo) (u : Int) (r : Fr) : Int := if cuE l u = 0 then (if riB r = false then 1 else 0) else cuE l u
def moN (l : List Bo) (u : Int) (r : Fr) : Int := if moE l u r = 0 then (mostK (ovG l u r) l.length : Nat) else 0
theorem grB_c (x r : Fr) (w : World) (x1 : 0 ≤ x.1) (x2 : x.1 ≤ 1000000000000000000) (x3 : 0 ≤ x.2) (x4 : x.2 ≤ 1000000000000000000) (r1 : 0 ≤ r.1) (r2 : r.1 ≤ 1000000) (r3 : 0 ≤ r.2) (r4 : r.2 ≤ 1000000) :
    Calls Tryd.prog 66 #[.agg (frV x), .agg (frV r)] w fun e w' => e = .returned (.bool (grB x r)) ∧ G w w' none := by
  obtain ⟨a, b⟩ := x
  obtain ⟨c, d⟩ := r
  simp only at x1 x2 x3 x4 r1 r2 r3 r4
  obtain ⟨a', rfl⟩ := Int.eq_ofNat_of_zero_le x1
  obtain ⟨b', rfl⟩ := Int.eq_ofNat_of_zero_le x3
  obtain ⟨c', rfl⟩ := Int.eq_ofNat_of_zero_le r1
  obtain ⟨d', rfl⟩ := Int.eq_ofNat_of_zero_le r3
  exact isGreater_c a' b' c' d' (by omega) (by omega) (by omega) (by omega) w
theorem lowF_bnd (n d : Int) (n0 : 0 ≤ n) (hn : n ≤ 1000000000000000000) (d0 : 0 < d) (hd : d ≤ 1000000000000000000) :
    0 ≤ (lowF n d).1 ∧ (lowF n d).1 ≤ 1000000000000000000 ∧ 0 ≤ (lowF n d).2 ∧ (lowF n d).2 ≤ 1000000000000000000 := by
  have h1 := Nat.div_le_self n.toNat (Nat.gcd d.toNat n.toNat)
  have h2 := Nat.div_le_self d.toNat (Nat.gcd d.toNat n.toNat)
  refine ⟨Int.natCast_nonneg _, ?_, Int.natCast_nonneg _, ?_⟩
  · have h3 : ((n.toNat / Nat.gcd d.toNat n.toNat : Nat) : Int) ≤ (n.toNat : Nat) := Int.ofNat_le.2 h1
    exact Int.le_trans h3 (by omega)
  · have h3 : ((d.toNat / Nat.gcd d.toNat n.toNat : Nat) : Int) ≤ (d.toNat : Nat) := Int.ofNat_le.2 h2
    exact Int.le_trans h3 (by omega)
theorem ovF_bnd (l : List Bo) (u : Int) (hp : PcOk l) (h9 : l.length ≤ 9) :
    0 ≤ (ovF l u).1 ∧ (ovF l u).1 ≤ 1000000000000000000 ∧ 0 ≤ (ovF l u).2 ∧ (ovF l u).2 ≤ 1000000000000000000 := by
  obtain ⟨cl, cn, cs⟩ := cas_ok (pcs l) hp
  have hpl : (pcs l).length = l.length := by unfold pcs; rw [List.length_map]
  rw [hpl] at cl cs
  obtain ⟨b0, b1⟩ := ovS_bnd cn u (l.length + 1) (by omega)
  have b2 := take_le cn (l.length + 1)
  have hH1 := pow_le l.length h9
  exact lowF_bnd _ _ b0 (by omega) (pow_pos100 l.length) hH1
theorem PcOk.take {l : List Bo} (h : PcOk l) (k : Nat) : PcOk (l.take k) := fun p hp => by
  unfold pcs at hp
  rw [List.map_take] at hp
  exact h p (List.mem_of_mem_take hp)
theorem ov_zero (l : List Bo) (u : Int) (r : Fr) (hu : 0 ≤ u) : ovG l u r 0 = false := by
  have h1 : ovF [] u = (0, 1) := by
    show lowF (ovS [1] u 1) 1 = (0, 1)
    have h2 : ovS [1] u 1 = 0 := by
      show (if u < ((0 : Nat) : Int) then _ else _) = _
      rw [if_neg (by omega)]
      rfl
    rw [h2]
    rfl
  show grB (ovF [] u) r = false
  rw [h1]
  unfold grB
  rw [decide_eq_false_iff_not]
  show ¬ _ < (0 : Int).toNat * _
  simp
def MoRel (w : World) (l : List Bo) (u : Int) (r : Fr) (s9 : Value) (wr : World) : Prop :=
  ∃ k : Nat, k ≤ l.length ∧ s9 = .int .i64 k ∧ mostK (ovG l u r) l.length = mostK (ovG l u r) k ∧ Bk wr w.heap.size 35 (frC r.1 r.2) ∧ G w wr none
set_option maxRecDepth 100000 in
set_option maxHeartbeats 4000000 in
theorem most_c (v : Value) (l : List Bo) (u : Int) (r : Fr) (w : World) (hr : RdR w 6 boC v l) (hl : BoOk l) (hn : l.length ≤ 1000) :
    Calls Tryd.prog 14 #[v, .int .i64 u, .agg (frV r)] w fun e w' => e = .returned (.tuple #[.int .i64 (moN l u r), .int .i64 (moE l u r)]) ∧ G w w' none := by
  have hG1 := (G.refl w none).alloc (.cells (frC r.1 r.2) 35)
  have HR := Lib.hid (hr.quiet hG1)
  have hB1 := Bk.new w 35 (frC r.1 r.2)
  have hr0 := Lib.hid hr
  obtain ⟨r1, r2⟩ := r
  simp only [frV, frC] at hG1 hB1 HR ⊢
  go_enter Tryd.func14, Tryd.ntmps14
  go_wp2_with fail
  refine (checkUnits_c v l u _ HR.out hl hn).mono ?_; rintro e w2 ⟨rfl, hG2⟩
  have hB2 := hB1.quiet hG2
  have hG02 := hG1.trans hG2
  by_cases h0 : cuE l u = 0
  · have hok := cuE_ok h0
    have hu0 : Hid (0 ≤ u) := Lib.hid (by have h := hok.2.2; simp only [inB, Bool.and_eq_true, decide_eq_true_eq] at h; exact h.1)
    have HE : Hid (moE l u (r1, r2) = if riB (r1, r2) = false then 1 else 0) := Lib.hid (if_pos h0)
    rw [h0]
    clear h0 hB1 hG1 HR hG2
    have n0 : w2.cell? ⟨w.heap.size, 0, none⟩ = some (.int .i64 r1) := hB2.cell 0
    have n1 : w2.cell? ⟨w.heap.size, 1, none⟩ = some (.int .i64 r2) := hB2.cell 1
    go_wp2_with fail
    refine (within_c _ _ _ _).mono ?_; rintro e w' ⟨rfl, rfl⟩
    cases hu : inB r2 1 1000000 with
    | false =>
      have HF : Hid (moE l u (r1, r2) = 1) := Lib.hid (by rw [HE.out, if_pos (by simp [riB, hu])])
      have HN : Hid (moN l u (r1, r2) = 0) := Lib.hid (by rw [moN, if_neg (by rw [HF.out]; decide)])
      go_wp2_with fail
      go_ret2
      exact ⟨by rw [HF.out, HN.out]; rfl, hG02⟩
    | true =>
      go_wp2_with fail
      refine (within_c _ _ _ _).mono ?_; rintro e w' ⟨rfl, rfl⟩
      cases hv : inB r1 0 r2 with
      | false =>
        have HF : Hid (moE l u (r1, r2) = 1) := Lib.hid (by rw [HE.out, if_pos (by simp [riB, hu, hv])])
        have HN : Hid (moN l u (r1, r2) = 0) := Lib.hid (by rw [moN, if_neg (by rw [HF.out]; decide)])
        go_wp2_with fail
        go_ret2
        exact ⟨by rw [HF.out, HN.out]; rfl, hG02⟩
      | true =>
        have HF : Hid (moE l u (r1, r2) = 0) := Lib.hid (by rw [HE.out, if_neg (by simp [riB, hu, hv])])
        have HN : Hid (moN l u (r1, r2) = (mostK (ovG l u (r1, r2)) l.length : Nat)) := Lib.hid (by rw [moN, if_pos HF.out])
        have HRB : Hid (0 ≤ r1 ∧ r1 ≤ 1000000 ∧ 0 ≤ r2 ∧ r2 ≤ 1000000) := Lib.hid (by simp only [inB, Bool.and_eq_true, decide_eq_true_eq] at hu hv; omega)
        obtain ⟨ad, cap, rfl, hcap, hm⟩ := RdR.form hr
        clear hr
        go_wp2_with fail
        go_loopw [9] (MoRel w l u (r1, r2)) (fun i _ => (intOf i).toNat)
        case atStart => exact ⟨l.length, Nat.le_refl _, rfl, rfl, hB2, hG02⟩
        case round =>
          clear hB2 hG02 n0 n1
          obtain ⟨k, hk, rfl, hmk, hB, hG⟩ := hrel
          go_wp2_with fail
          have hBd := hB.quiet ((G.refl wr none).drew)
          have hGd := hG.drew
          have HPre := Lib.hid ((RdR.prefix_ boC_sz hr0.out k hk).quiet hGd)
          have HPk := Lib.hid (And.intro (hok.1.take k) (show (l.take k).length ≤ 9 by rw [List.length_take]; omega))
          have HOB := Lib.hid (ovF_bnd (l.take k) u HPk.out.1 HPk.out.2)
          have hkc : (k : Int) ≤ cap := by omega
          have hkc' : k ≤ cap := by omega
          clear hB hG
          refine wp_region_held_drew (S := (fun w' => w'.cell? ⟨w.heap.size, 0, none⟩ = some (.int .i64 r1) ∧ w'.cell? ⟨w.heap.size, 1, none⟩ = some (.int .i64 r2))) (by kernel_rfl) ?_ (fun hHeld => ?_)
          · exact ⟨hBd.cell 0, hBd.cell 1⟩
          refine wpAnyH_take (i := 0) (oi := { dst := some 30, op := Op.move (Operand.tmp 0), type := 26, pos := "odds.go:47", after := #[], guard := none }) (v := ?_) rfl (by kernel_rfl) (by kernel_rfl) (by kernel_rfl) (fun _ _ _ h => h) (Or.inl ⟨by rfl, ?_⟩) (by assumption) ?_
          rotate_left
          · (intro w hSw; obtain ⟨s0, s1⟩ := hSw; (go_simp <;> with_reducible rfl))
          try simp only [Act.put, List.setIfInBounds_toArray, List.set_cons_zero, List.set_cons_succ]
          refine wpAnyH_take (i := 1) (oi := { dst := some 31, op := Op.move (Operand.tmp 9), type := 3, pos := "odds.go:47", after := #[], guard := none }) (v := ?_) rfl (by kernel_rfl) (by kernel_rfl) (by kernel_rfl) (fun _ _ _ h => h) (Or.inl ⟨by rfl, ?_⟩) (by assumption) ?_
          rotate_left
          · (intro w hSw; obtain ⟨s0, s1⟩ := hSw; (go_simp <;> with_reducible rfl))
          try simp only [Act.put, List.setIfInBounds_toArray, List.set_cons_zero, List.set_cons_succ]
          refine wpAnyH_take (i := 2) (oi := { dst := some 32, op := Op.slice 26 (Operand.tmp 30) none (some (Operand.tmp 31)) none, type := 26, pos := "odds.go:47", after := #[{ on := 0, ground := Ground.data }, { on := 1, ground := Ground.data }], guard := none }) (v := ?_) rfl (by kernel_rfl) (by kernel_rfl) (by kernel_rfl) (fun _ _ _ h => h) (Or.inl ⟨by rfl, ?_⟩) (by assumption) ?_
          rotate_left
          · (intro w hSw; obtain ⟨s0, s1⟩ := hSw; (go_simp <;> with_reducible rfl))
          try simp only [Act.put, List.setIfInBounds_toArray, List.set_cons_zero, List.set_cons_succ]
          refine wpAnyH_take (i := 3) (oi := { dst := some 33, op := Op.move (Operand.tmp 1), type := 3, pos := "odds.go:47", after := #[], guard := none }) (v := ?_) rfl (by kernel_rfl) (by kernel_rfl) (by kernel_rfl) (fun _ _ _ h => h) (Or.inl ⟨by rfl, ?_⟩) (by assumption) ?_
          rotate_left
          · (intro w hSw; obtain ⟨s0, s1⟩ := hSw; (go_simp <;> with_reducible rfl))
          try simp only [Act.put, List.setIfInBounds_toArray, List.set_cons_zero, List.set_cons_succ]
          refine wpAnyH_take (i := 5) (oi := { dst := some 35, op := Op.load 35 (Operand.tmp 5), type := 35, pos := "odds.go:47", after := #[], guard := none }) (v := ?_) rfl (by kernel_rfl) (by kernel_rfl) (by kernel_rfl) (fun _ _ _ h => h) (Or.inl ⟨by rfl, ?_⟩) (by assumption) ?_
          rotate_left
          · (intro w hSw; obtain ⟨s0, s1⟩ := hSw; (go_simp <;> with_reducible rfl))
          try simp only [Act.put, List.setIfInBounds_toArray, List.set_cons_zero, List.set_cons_succ]
          refine wpAnyH_ready (rs := [4]) (by kernel_rfl) (by simp) ?_
          refine AllReadyH.cons (o := { dst := some 34, op := Op.call { callee := Callee.value (Operand.func 64), args := #[Operand.tmp 32, Operand.tmp 33], argTypes := #[26, 3] }, type := 35, pos := "odds.go:47", after := #[{ on := 2, ground := Ground.data }, { on := 3, ground := Ground.data }], guard := none }) rfl (fun K hK => ?_) AllReadyH.nil
          go_simp
          refine (over_c _ (l.take k) u _ HPre.out HPk.out.1 HPk.out.2).mono ?_
          rintro e y1 ⟨rfl, hH⟩
          have hB1 := hBd.quiet hH
          have hG1 := hGd.trans hH
          clear hH
          refine hK.out _ _ ?_ (fun hHeld => ?_)
          · exact ⟨hB1.cell 0, hB1.cell 1⟩
          clear hK K
          try simp only [Act.put, List.setIfInBounds_toArray, List.set_cons_zero, List.set_cons_succ]
          refine wpAnyH_ready (rs := [6]) (by kernel_rfl) (by simp) ?_
          refine AllReadyH.cons (o := { dst := some 36, op := Op.call { callee := Callee.value (Operand.func 66), args := #[Operand.tmp 34, Operand.tmp 35], argTypes := #[35, 35] }, type := 4, pos := "odds.go:47", after := #[{ on := 4, ground := Ground.data }, { on := 5, ground := Ground.data }, { on := 4, ground := Ground.chain }], guard := none }) rfl (fun K hK => ?_) AllReadyH.nil
          go_simp
          refine (grB_c (ovF (l.take k) u) (r1, r2) _ HOB.out.1 HOB.out.2.1 HOB.out.2.2.1 HOB.out.2.2.2 HRB.out.1 HRB.out.2.1 HRB.out.2.2.1 HRB.out.2.2.2).mono ?_
          rintro e y2 ⟨rfl, hH⟩
          have hB3 := hB1.quiet hH
          have hG3 := hG1.trans hH
          clear hH
          refine hK.out _ _ ?_ (fun hHeld => ?_)
          · exact ⟨hB3.cell 0, hB3.cell 1⟩
          clear hK K
          try simp only [Act.put, List.setIfInBounds_toArray, List.set_cons_zero, List.set_cons_succ]
          refine wpAnyH_done (by kernel_rfl) ?_ _
          obtain ⟨F, hFF⟩ : ∃ F, ovF (l.take k) u = F := ⟨_, rfl⟩
          rw [hFF]
          clear hBd hGd hB1 hG1 HOB HPk HPre
          cases hg : grB F (r1, r2) with
          | true =>
            have hp : ovG l u (r1, r2) k = true := by unfold ovG; rw [hFF]; exact hg
            obtain ⟨k', rfl⟩ : ∃ k', k = k' + 1 := by
              cases k with
              | zero => rw [ov_zero l u (r1, r2) hu0.out] at hp; cases hp
              | succ k' => exact ⟨k', rfl⟩
            have hmk' : mostK (ovG l u (r1, r2)) l.length = mostK (ovG l u (r1, r2)) k' := hmk.trans (if_pos hp)
            clear hmk hp hg hFF
            go_wp2_with fail
            go_roundw
            case rel => exact ⟨k', by omega, by go_num, hmk', hB3, hG3⟩
            case measure => simp [intOf]
          | false =>
            have hp : ovG l u (r1, r2) k = false := by unfold ovG; rw [hFF]; exact hg
            have hmk' : mostK (ovG l u (r1, r2)) l.length = k := hmk.trans (by
              cases k with
              | zero => rfl
              | succ k' => exact if_neg (by rw [hp]; decide))
            have HFIN : Hid (Ending.returned (.tuple #[.int .i64 (k : Int), .int .i64 0]) = .returned (.tuple #[.int .i64 (moN l u (r1, r2)), .int .i64 (moE l u (r1, r2))])) := Lib.hid (by rw [HN.out, HF.out, hmk'])
            clear hmk hmk' hp hg hFF HN HF
            go_wp2_with fail
            go_ret2
            exact ⟨HFIN.out, hG3⟩
  · have h0' : (cuE l u != 0) = true := by rw [bne_iff_ne]; exact h0
    have HE : Hid (moE l u (r1, r2) = cuE l u) := Lib.hid (if_neg h0)
    have HN : Hid (moN l u (r1, r2) = 0) := Lib.hid (by rw [moN, if_neg (by rw [HE.out]; exact h0)])
    obtain ⟨E, hE⟩ : ∃ E, cuE l u = E := ⟨_, rfl⟩
    rw [hE] at h0' HE ⊢
    clear h0 hB1 hG1 HR hG2 hE
    go_wp2_with fail
    go_ret2
    exact ⟨by rw [HE.out, HN.out]; rfl, hG02⟩
end Go.Proofs.YtbieiefbgcgogaaDoor
