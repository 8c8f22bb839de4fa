/- Odf, Odg, Odh, Ods, Odt, Odi, Odu, Odv, Odx, Odj, Odl, Odw, Ows, GenK, Tim, Hir, Hik, Hif, His, Reg, Stp. -/
import Derived.Test.YtbddcbbjmgepnaaDoorZo2
import Derived.Test.YtbddcbbjmgepnaaDoorShelf2
import Derived.Test.YtbddcbbjmgepnaaDoorZo1
import Derived.Laws.StructEq
import Derived.Deep.CutRange
import Derived.Deep.RegionHeld3
import Derived.RegionTactic
import Derived.OrdersHeld
/- Odds: over, checkUnits, Over, for any bookings. -/
namespace Go.Proofs.YtbddcbbjmgepnaaDoor
open Go.RowKit

/-- The sum of the numbers behind the first u, of the first k. -/
def ovS (c : List Int) (u : Int) : Nat → Int
  | 0 => 0
  | k + 1 => if u < (k : Int) then ovS c u k + c.getD k 0 else ovS c u k
theorem ovS_bnd {c : List Int} (h : NN c) (u : Int) (k : Nat) (hk : k ≤ c.length) : 0 ≤ ovS c u k ∧ ovS c u k ≤ (c.take k).sum := by
  induction k with
  | zero => exact ⟨Int.le_refl 0, by simp [ovS]⟩
  | succ k ih =>
    obtain ⟨h1, h2⟩ := ih (by omega)
    have h3 := h.getD k
    have h4 := take_sum c k (by omega)
    unfold ovS
    split <;> omega
def ovF (l : List Bo) (u : Int) : Fr := lowF (ovS (cas (pcs l)) u (l.length + 1)) (100 ^ l.length)
def OvRel (w : World) (c : List Int) (u : Int) (n g : Nat) (s7 s17 : Value) (wr : World) : Prop :=
  ∃ k : Nat, k ≤ n ∧ s17 = .int .i64 k ∧ s7 = .int .i64 (ovS c u k) ∧ Bk wr g 3 (ic c) ∧ Bk wr w.heap.size 61 (frC 0 0) ∧ G w wr none
set_option maxRecDepth 100000 in
set_option maxHeartbeats 4000000 in
theorem over_c (v : Value) (l : List Bo) (u : Int) (w : World) (hr : RdR w 6 boC v l) (hp : PcOk l) (h9 : l.length ≤ 9) :
    Calls Tryd.prog 51 #[v, .int .i64 u] w fun e w' => e = .returned (.agg (frV (ovF l u))) ∧ G w w' none := by
  have hG0 := (G.refl w none).alloc (.cells (frC 0 0) 61)
  have HR := Lib.hid (hr.quiet hG0)
  have hB0 := Bk.new w 61 (frC 0 0)
  obtain ⟨ad, cap, rfl, hcap, hm⟩ := RdR.form hr
  clear hr
  obtain ⟨cl, cn, cs⟩ := cas_ok (pcs l) hp
  have hpl : (pcs l).length = l.length := by unfold pcs; rw [List.length_map]
  rw [hpl] at cl cs
  have hH1 := pow_le l.length h9
  have hH0 := pow_pos100 l.length
  clear hpl
  go_enter Tryd.func51, Tryd.ntmps51
  go_wp2_with fail
  refine (casesOf_c _ l _ HR.out h9 hp).mono ?_; rintro e w2 ⟨g, rfl, hB2, hgw, hG2⟩
  have hG02 := hG0.trans hG2
  have hF2 := hB0.quiet hG2
  clear hG0 hG2 hB0 hp hgw
  have HFIN : Hid (frV (ovF l u) = frV (lowF (ovS (cas (pcs l)) u (l.length + 1)) (100 ^ l.length))) := Lib.hid rfl
  obtain ⟨c, hc⟩ : ∃ c, cas (pcs l) = c := ⟨_, rfl⟩
  obtain ⟨H, hH⟩ : ∃ H : Int, (100 : Int) ^ l.length = H := ⟨_, rfl⟩
  rw [hc, hH] at HFIN
  rw [hc] at cl cn cs hB2
  rw [hH] at cs hH1 hH0 ⊢
  clear hc hH
  go_wp2_with fail
  go_loopw [7, 17] (OvRel w c u (l.length + 1) g) (fun _ i _ => l.length + 1 - (intOf i).toNat)
  case atStart => exact ⟨0, by omega, rfl, rfl, hB2, hF2, hG02⟩
  case round =>
    clear hB2 hF2 hG02
    obtain ⟨k, hkc, rfl, rfl, hB, hF, hG⟩ := hrel
    by_cases hlt : k < l.length + 1
    · have hcell : wr.cell? ⟨g, k, none⟩ = some (.int .i64 (c.getD k 0)) := (hB.cell k).trans (ic_at c k (by omega))
      have hki : (k : Int) < (l.length : Int) + 1 := by omega
      obtain ⟨b0, b1⟩ := ovS_bnd cn u k (by omega)
      obtain ⟨d0, d1⟩ := ovS_bnd cn u (k + 1) (by omega)
      have b2 := take_le cn k
      have e0 := cn.getD k
      have e1 := take_sum c k (by omega)
      have e2 := take_le cn (k + 1)
      rcases (show u < (k : Int) ∨ (k : Int) ≤ u by omega) with hu | hu
      · have HS : Hid (ovS c u (k + 1) = ovS c u k + c.getD k 0) := Lib.hid (by show (if u < (k : Int) then _ else _) = _; rw [if_pos hu])
        have hb : 0 ≤ ovS c u k + c.getD k 0 ∧ ovS c u k + c.getD k 0 ≤ 1000000000000000000 := by omega
        obtain ⟨hb1, hb2⟩ := hb
        obtain ⟨A, hA⟩ : ∃ A, ovS c u k = A := ⟨_, rfl⟩
        obtain ⟨x, hx⟩ : ∃ x, c.getD k 0 = x := ⟨_, rfl⟩
        rw [hA, hx] at HS hb1 hb2
        rw [hx] at hcell
        rw [hA]
        clear hA hx b0 b1 d0 d1 b2 e0 e1 e2
        go_wp2_with fail
        go_roundw
        case rel => exact ⟨k + 1, by omega, by go_num, by rw [HS.out], hB, hF, hG⟩
        case measure => simp [intOf]; omega
      · have HS : Hid (ovS c u (k + 1) = ovS c u k) := Lib.hid (by show (if u < (k : Int) then _ else _) = _; rw [if_neg (by omega)])
        have hnu : ¬ u < (k : Int) := by omega
        obtain ⟨A, hA⟩ : ∃ A, ovS c u k = A := ⟨_, rfl⟩
        rw [hA] at HS
        rw [hA]
        clear hA b0 b1 d0 d1 b2 e0 e1 e2
        go_wp2_with fail
        go_roundw
        case rel => exact ⟨k + 1, by omega, by go_num, by rw [HS.out], hB, hF, hG⟩
        case measure => simp [intOf]; omega
    · obtain rfl : k = l.length + 1 := by omega
      have hnk : ¬ ((l.length : Int) + 1 < (l.length : Int) + 1) := by omega
      obtain ⟨b0, b1⟩ := ovS_bnd cn u (l.length + 1) (by omega)
      have b2 := take_le cn (l.length + 1)
      obtain ⟨A, hA⟩ : ∃ A, ovS c u (l.length + 1) = A := ⟨_, rfl⟩
      rw [hA] at HFIN b0 b1
      rw [hA]
      clear hA
      go_wp2_with fail
      refine (lowest_i A H _ b0 (by omega) hH0 hH1).mono ?_; rintro e w3 ⟨rfl, hG3⟩
      obtain ⟨F, hFF⟩ : ∃ F, lowF A H = F := ⟨_, rfl⟩
      rw [hFF] at HFIN ⊢
      clear hFF
      have hF3 := hF.quiet hG3
      have hG03 := hG.trans hG3
      go_wp2_with (refine wpList_store_row rfl 61 _ _ rfl w.heap.size (frC F.1 F.2) rfl rfl 61 _ hF3 (fr_info F.1 F.2) rfl (fr_one F.1 F.2) ?_)
      refine bodyPost_ret (results_cell_row rfl _ _ w.heap.size 61 (frC F.1 F.2) (0, 0) _ rfl (hF3.setRow _) Tryd.underlying61 rfl (fr_info F.1 F.2)) rfl ?_
      exact ⟨by rw [HFIN.out]; rfl, hG03.setRow (.inl (Nat.le_refl _)) _⟩
def cuE (l : List Bo) (u : Int) : Int := if coE l = 0 then (if inB u 0 500 = false then 1 else 0) else coE l
set_option maxRecDepth 100000 in
set_option maxHeartbeats 2000000 in
theorem checkUnits_c (v : Value) (l : List Bo) (u : Int) (w : World) (hr : RdR w 6 boC v l) (hl : BoOk l) (hn : l.length ≤ 1000) :
    Calls Tryd.prog 50 #[v, .int .i64 u] w fun e w' => e = .returned (.int .i64 (cuE l u)) ∧ G w w' none := by
  have HC : Hid (cuE l u = if coE l = 0 then (if inB u 0 500 = false then 1 else 0) else coE l) := Lib.hid rfl
  go_enter Tryd.func50, Tryd.ntmps50
  go_wp2_with fail
  refine (checkOdds_c v l _ hr hl hn).mono ?_; rintro e w1 ⟨rfl, hG1⟩
  by_cases h0 : coE l = 0
  · have HC1 : Hid (cuE l u = if inB u 0 500 = false then 1 else 0) := Lib.hid (by rw [HC.out, if_pos h0])
    rw [h0]
    clear h0 HC
    go_wp2_with fail
    refine (within_c _ _ _ _).mono ?_; rintro e w' ⟨rfl, rfl⟩
    cases hu : inB u 0 500 with
    | false =>
      have HF : Hid (cuE l u = 1) := Lib.hid (by rw [HC1.out, if_pos hu])
      go_wp2_with fail
      go_ret
      exact ⟨by rw [HF.out]; rfl, hG1⟩
    | true =>
      have HF : Hid (cuE l u = 0) := Lib.hid (by rw [HC1.out, if_neg (by simp [hu])])
      go_wp2_with fail
      go_ret
      exact ⟨by rw [HF.out]; rfl, hG1⟩
  · have HF : Hid (cuE l u = coE l) := Lib.hid (by rw [HC.out, if_neg h0])
    have h0' : (coE l != 0) = true := by rw [bne_iff_ne]; exact h0
    obtain ⟨E, hE⟩ : ∃ E, coE l = E := ⟨_, rfl⟩
    rw [hE] at HF h0' ⊢
    clear h0 hE HC
    go_wp2_with fail
    go_ret
    exact ⟨by rw [HF.out]; rfl, hG1⟩
end Go.Proofs.YtbddcbbjmgepnaaDoor

/- Odds: isGreater; the public Over, for any bookings. -/
namespace Go.Proofs.YtbddcbbjmgepnaaDoor
open Go.RowKit Go.Shelf

/-- Two results, the first a struct that lies in memory. -/
theorem results_cell_fr {P : Program} {fn : Func} {p u : Tmp} {ty : TypeId} (h : fn.results = #[.cell p ty, .tmp u]) (tmps : Array Value) (w : World) (g : Nat) (t : TypeId) (cs : Array Value) (fr : Nat × Nat) (d : TypeDesc)
    (hp : tmps.getD p undef = .pointer (some ⟨g, 0, none⟩)) (hg : w.heap[g]? = some (.cells cs t fr))
    (hu : P.underlying ty = some d) (hd : (match d with | .struct _ | .array _ _ => true | _ => false) = true) (hi : (P.info? ty).map (·.size) = some cs.size) :
    (results fn tmps).run P w = .ok (.tuple #[.agg cs, tmps.getD u undef]) w := by
  have hp' : tmps[p]?.getD undef = .pointer (some ⟨g, 0, none⟩) := by simpa using hp
  simp [results, h, hp', asAddr, run_loadVar_row w g t ty cs fr d hg hu hd hi]
def ovP (l : List Bo) (u : Int) : Fr := if cuE l u = 0 then ovF l u else (0, 0)
theorem cuE_ok {l : List Bo} {u : Int} (h : cuE l u = 0) : PcOk l ∧ l.length ≤ 9 ∧ inB u 0 500 = true := by
  unfold cuE at h
  by_cases h0 : coE l = 0
  · rw [if_pos h0] at h
    cases hu : inB u 0 500 with
    | false => rw [hu] at h; exact absurd h (by decide)
    | true => exact ⟨(coE_ok h0).1, (coE_ok h0).2, rfl⟩
  · rw [if_neg h0] at h
    exact absurd h h0
set_option maxRecDepth 100000 in
set_option maxHeartbeats 2000000 in
theorem overP_c (v : Value) (l : List Bo) (u : Int) (w : World) (hr : RdR w 6 boC v l) (hl : BoOk l) (hn : l.length ≤ 1000) :
    Calls Tryd.prog 27 #[v, .int .i64 u] w fun e w' => e = .returned (.tuple #[.agg (frV (ovP l u)), .int .i64 (cuE l u)]) ∧ G w w' none := by
  have hG1 := (G.refl w none).alloc (.cells (frC 0 0) 61)
  have HR := Lib.hid (hr.quiet hG1)
  have hB1 := Bk.new w 61 (frC 0 0)
  go_enter Tryd.func27, Tryd.ntmps27
  go_wp2_with fail
  refine (checkUnits_c v l u _ HR.out hl hn).mono ?_; rintro e w2 ⟨rfl, hG2⟩
  have hB2 := hB1.quiet hG2
  have hG02 := hG1.trans hG2
  have HR2 := Lib.hid (HR.out.quiet hG2)
  by_cases h0 : cuE l u = 0
  · have hok := cuE_ok h0
    have HP := Lib.hid (show ovP l u = ovF l u from if_pos h0)
    have HFIN : Hid (Ending.returned (.tuple #[.agg (frV (ovF l u)), .int .i64 0]) = .returned (.tuple #[.agg (frV (ovP l u)), .int .i64 (cuE l u)])) := Lib.hid (by rw [HP.out, h0])
    rw [h0]
    clear h0 hB1 hG1 HR hG2 HP
    go_wp2_with fail
    refine (over_c v l u _ HR2.out hok.1 hok.2.1).mono ?_; rintro e w3 ⟨rfl, hG3⟩
    have hB3 := hB2.quiet hG3
    have hG03 := hG02.trans hG3
    obtain ⟨F, hFF⟩ : ∃ F, ovF l u = F := ⟨_, rfl⟩
    rw [hFF] at HFIN ⊢
    clear hFF
    go_wp2_with (refine wpList_store_row rfl 61 _ _ rfl w.heap.size (frC F.1 F.2) rfl rfl 61 _ hB3 (fr_info F.1 F.2) rfl (fr_one F.1 F.2) ?_)
    refine bodyPost_ret (results_cell_fr rfl _ _ w.heap.size 61 (frC F.1 F.2) (0, 0) _ rfl (hB3.setRow _) Tryd.underlying61 rfl (fr_info F.1 F.2)) rfl ?_
    exact ⟨HFIN.out, hG03.setRow (.inl (Nat.le_refl _)) _⟩
  · have h0' : (cuE l u != 0) = true := by rw [bne_iff_ne]; exact h0
    have HP := Lib.hid (show ovP l u = (0, 0) from if_neg h0)
    obtain ⟨E, hE⟩ : ∃ E, cuE l u = E := ⟨_, rfl⟩
    have HFIN : Hid (Ending.returned (.tuple #[.agg (frC 0 0), .int .i64 E]) = .returned (.tuple #[.agg (frV (ovP l u)), .int .i64 (cuE l u)])) := Lib.hid (by rw [HP.out, hE]; rfl)
    rw [hE] at h0' ⊢
    clear h0 hB1 hG1 HR hG2 HP hE
    go_wp2_with (refine wpList_store_row rfl 61 _ _ rfl w.heap.size (frC 0 0) rfl rfl 61 _ hB2 (fr_info 0 0) rfl (fr_one 0 0) ?_)
    refine bodyPost_ret (results_cell_fr rfl _ _ w.heap.size 61 (frC 0 0) (0, 0) _ rfl (hB2.setRow _) Tryd.underlying61 rfl (fr_info 0 0)) rfl ?_
    exact ⟨HFIN.out, hG02.setRow (.inl (Nat.le_refl _)) _⟩
end Go.Proofs.YtbddcbbjmgepnaaDoor

/- Odds: Most, for any bookings. -/
namespace Go.Proofs.YtbddcbbjmgepnaaDoor
open Go.RowKit Go.Shelf

/-- The greatest k, up to the given one, that is none of these; 0 if there is none. -/
def mostK (p : Nat → Bool) : Nat → Nat
  | 0 => 0
  | k + 1 => if p (k + 1) = true then mostK p k else k + 1
def grB (x r : Fr) : Bool := decide (r.1.toNat * x.2.toNat < x.1.toNat * r.2.toNat)
def ovG (l : List Bo) (u : Int) (r : Fr) (k : Nat) : Bool := grB (ovF (l.take k) u) r
def riB (r : Fr) : Bool := inB r.2 1 1000000 && inB r.1 0 r.2
def moE (l : List Bo) (u : Int) (r : Fr) : Int := if cuE l u = 0 then (if riB r = false then 1 else 0) else cuE l u
def moN (l : List Bo) (u : Int) (r : Fr) : Int := if moE l u r = 0 then (mostK (ovG l u r) l.length : Nat) else 0
theorem lowF_bnd (n d : Int) (n0 : 0 ≤ n) (hn : n ≤ 1000000000000000000) (d0 : 0 < d) (hd : d ≤ 1000000000000000000) :
    0 ≤ (lowF n d).1 ∧ (lowF n d).1 ≤ 1000000000000000000 ∧ 0 ≤ (lowF n d).2 ∧ (lowF n d).2 ≤ 1000000000000000000 := by
  have h1 := Nat.div_le_self n.toNat (Nat.gcd d.toNat n.toNat)
  have h2 := Nat.div_le_self d.toNat (Nat.gcd d.toNat n.toNat)
  refine ⟨Int.natCast_nonneg _, ?_, Int.natCast_nonneg _, ?_⟩
  · have h3 : ((n.toNat / Nat.gcd d.toNat n.toNat : Nat) : Int) ≤ (n.toNat : Nat) := Int.ofNat_le.2 h1
    exact Int.le_trans h3 (by omega)
  · have h3 : ((d.toNat / Nat.gcd d.toNat n.toNat : Nat) : Int) ≤ (d.toNat : Nat) := Int.ofNat_le.2 h2
    exact Int.le_trans h3 (by omega)
theorem ovF_bnd (l : List Bo) (u : Int) (hp : PcOk l) (h9 : l.length ≤ 9) :
    0 ≤ (ovF l u).1 ∧ (ovF l u).1 ≤ 1000000000000000000 ∧ 0 ≤ (ovF l u).2 ∧ (ovF l u).2 ≤ 1000000000000000000 := by
  obtain ⟨cl, cn, cs⟩ := cas_ok (pcs l) hp
  have hpl : (pcs l).length = l.length := by unfold pcs; rw [List.length_map]
  rw [hpl] at cl cs
  obtain ⟨b0, b1⟩ := ovS_bnd cn u (l.length + 1) (by omega)
  have b2 := take_le cn (l.length + 1)
  have hH1 := pow_le l.length h9
  exact lowF_bnd _ _ b0 (by omega) (pow_pos100 l.length) hH1
theorem PcOk.take {l : List Bo} (h : PcOk l) (k : Nat) : PcOk (l.take k) := fun p hp => by
  unfold pcs at hp
  rw [List.map_take] at hp
  exact h p (List.mem_of_mem_take hp)
theorem ov_zero (l : List Bo) (u : Int) (r : Fr) (hu : 0 ≤ u) : ovG l u r 0 = false := by
  have h1 : ovF [] u = (0, 1) := by
    show lowF (ovS [1] u 1) 1 = (0, 1)
    have h2 : ovS [1] u 1 = 0 := by
      show (if u < ((0 : Nat) : Int) then _ else _) = _
      rw [if_neg (by omega)]
      rfl
    rw [h2]
    rfl
  show grB (ovF [] u) r = false
  rw [h1]
  unfold grB
  rw [decide_eq_false_iff_not]
  show ¬ _ < (0 : Int).toNat * _
  simp
def MoRel (w : World) (l : List Bo) (u : Int) (r : Fr) (s9 : Value) (wr : World) : Prop :=
  ∃ k : Nat, k ≤ l.length ∧ s9 = .int .i64 k ∧ mostK (ovG l u r) l.length = mostK (ovG l u r) k ∧ Bk wr w.heap.size 61 (frC r.1 r.2) ∧ G w wr none
end Go.Proofs.YtbddcbbjmgepnaaDoor

/- Odds: the sum over the sets of bookings is the product's coefficients. No program. -/
namespace Go.Proofs.YtbddcbbjmgepnaaDoor

theorem getD_set_at (l : List Int) (i : Nat) (v : Int) (h : i < l.length) : (l.set i v).getD i 0 = v := by
  simp [List.getD_eq_getElem?_getD, List.getElem?_set_self h]
theorem nx_at (c : List Int) (p : Int) : ∀ (k : Nat), k ≤ c.length → ∀ j, (nx c p k).getD j 0 = if j ≤ k then (if j < k then (100 - p) * c.getD j 0 else 0) + (if j = 0 then 0 else p * c.getD (j - 1) 0) else 0
  | 0, _, j => by
    have h0 : (nx c p 0).getD j 0 = 0 := by
      simp only [nx, List.getD_eq_getElem?_getD, List.getElem?_replicate]
      split <;> rfl
    rw [h0]
    by_cases hj : j = 0
    · subst hj; simp
    · rw [if_neg (by omega)]
  | k + 1, h, j => by
    have IH := nx_at c p k (by omega)
    have hl := nx_len c p k
    have e1 : (nx c p k).getD (k + 1) 0 = 0 := by rw [IH, if_neg (by omega)]
    simp only [nx]
    by_cases j1 : j = k + 1
    · subst j1
      rw [getD_set_at _ _ _ (by rw [List.length_set, hl]; omega), e1, if_pos (Nat.le_refl _), if_neg (Nat.lt_irrefl _), if_neg (Nat.succ_ne_zero k), Nat.add_sub_cancel, Int.mul_comm p]
    · rw [gdset_ne _ _ _ _ (fun e => j1 e.symm)]
      by_cases j2 : j = k
      · subst j2
        rw [getD_set_at _ _ _ (by rw [hl]; omega), IH, if_pos (Nat.le_refl _), if_neg (Nat.lt_irrefl _), if_pos (show j ≤ j + 1 by omega), if_pos (show j < j + 1 by omega), Int.mul_comm (100 - p)]
        omega
      · rw [gdset_ne _ _ _ _ (fun e => j2 e.symm), IH]
        by_cases j3 : j < k
        · rw [if_pos (show j ≤ k by omega), if_pos j3, if_pos (show j ≤ k + 1 by omega), if_pos (show j < k + 1 by omega)]
        · rw [if_neg (show ¬ j ≤ k by omega), if_neg (show ¬ j ≤ k + 1 by omega)]
def bitK (s i : Nat) : Bool := s / 2 ^ i % 2 == 1
def prK (ps : List Int) (s : Nat) : Nat → Int
  | 0 => 1
  | k + 1 => prK ps s k * (if bitK s k = true then ps.getD k 0 else 100 - ps.getD k 0)
def cnK (s : Nat) : Nat → Nat
  | 0 => 0
  | k + 1 => cnK s k + (if bitK s k = true then 1 else 0)
/-- The part of the first N sets in the j-th count. -/
def smK (ps : List Int) (k j : Nat) : Nat → Int
  | 0 => 0
  | N + 1 => smK ps k j N + (if cnK N k = j then prK ps N k else 0)
theorem bit_low {s k : Nat} (h : s < 2 ^ k) : bitK s k = false := by
  unfold bitK
  rw [Nat.div_eq_of_lt h]
  rfl
theorem bit_top {t k : Nat} (h : t < 2 ^ k) : bitK (2 ^ k + t) k = true := by
  unfold bitK
  rw [Nat.add_div_left _ (Nat.two_pow_pos k), Nat.div_eq_of_lt h]
  rfl
theorem bit_add {t k i : Nat} (h : i < k) : bitK (2 ^ k + t) i = bitK t i := by
  unfold bitK
  obtain ⟨m, rfl⟩ : ∃ m, k = i + 1 + m := ⟨k - (i + 1), by omega⟩
  have e : 2 ^ (i + 1 + m) = 2 ^ i * (2 * 2 ^ m) := by rw [Nat.pow_add, Nat.pow_succ, Nat.mul_assoc]
  rw [e, Nat.mul_add_div (Nat.two_pow_pos i)]
  congr 1
  omega
theorem pr_add (ps : List Int) (t k : Nat) : ∀ i, i ≤ k → prK ps (2 ^ k + t) i = prK ps t i ∧ cnK (2 ^ k + t) i = cnK t i
  | 0, _ => ⟨rfl, rfl⟩
  | i + 1, h => by
    obtain ⟨h1, h2⟩ := pr_add ps t k i (by omega)
    simp only [prK, cnK, h1, h2, bit_add (show i < k by omega)]
    exact ⟨trivial, trivial⟩
theorem sm_low (ps : List Int) (k j : Nat) : ∀ N, N ≤ 2 ^ k → smK ps (k + 1) j N = (100 - ps.getD k 0) * smK ps k j N
  | 0, _ => by simp [smK]
  | N + 1, h => by
    have hb := bit_low (show N < 2 ^ k by omega)
    simp only [smK, sm_low ps k j N (by omega), cnK, prK, hb, Int.mul_add]
    simp only [Bool.false_eq_true, if_false, Nat.add_zero]
    split
    · rw [Int.mul_comm (prK ps N k)]
    · simp
theorem sm_top (ps : List Int) (k j : Nat) : ∀ M, M ≤ 2 ^ k → smK ps (k + 1) j (2 ^ k + M) = (100 - ps.getD k 0) * smK ps k j (2 ^ k) + (if j = 0 then 0 else ps.getD k 0 * smK ps k (j - 1) M)
  | 0, _ => by
    show smK ps (k + 1) j (2 ^ k) = _
    rw [sm_low ps k j _ (Nat.le_refl _)]
    simp [smK]
  | M + 1, h => by
    have hb := bit_top (show M < 2 ^ k by omega)
    have h1 := pr_add ps M k k (Nat.le_refl _)
    rw [← Nat.add_assoc]
    simp only [smK, sm_top ps k j M (by omega), cnK, prK, hb, h1.1, h1.2]
    simp only [if_true]
    cases j with
    | zero => simp
    | succ j =>
      simp only [Nat.add_right_cancel_iff, Nat.succ_ne_zero, if_false, Nat.add_sub_cancel, Int.mul_add]
      split
      · rw [Int.mul_comm (prK ps M k)]; omega
      · simp
theorem take_next (ps : List Int) (k : Nat) (h : k < ps.length) : ps.take (k + 1) = ps.take k ++ [ps.getD k 0] := by
  rw [List.take_succ_eq_append_getElem h]
  simp [List.getD_eq_getElem?_getD, List.getElem?_eq_getElem h]
theorem cas_len (ps : List Int) : ∀ k, k ≤ ps.length → (cas (ps.take k)).length = k + 1
  | 0, _ => rfl
  | k + 1, h => by rw [take_next ps k (by omega), cas_snoc, nx_len, cas_len ps k (by omega)]
theorem sm_cas (ps : List Int) : ∀ k, k ≤ ps.length → ∀ j, smK ps k j (2 ^ k) = (cas (ps.take k)).getD j 0
  | 0, _, j => by
    simp [smK, cnK, prK, cas]
    cases j <;> simp
  | k + 1, h, j => by
    rw [Nat.pow_succ, Nat.mul_two, sm_top ps k j _ (Nat.le_refl _), sm_cas ps k (by omega) j, take_next ps k (by omega), cas_snoc, nx_at _ _ _ (Nat.le_refl _)]
    have hl : (cas (ps.take k)).length = k + 1 := cas_len ps k (by omega)
    have h1 := sm_cas ps k (by omega) (j - 1)
    rw [h1, hl]
    have out : ∀ i, k + 1 ≤ i → (cas (ps.take k)).getD i 0 = 0 := fun i hi => by
      rw [List.getD_eq_getElem?_getD, List.getElem?_eq_none (by omega)]
      rfl
    by_cases j1 : j ≤ k + 1
    · rw [if_pos j1]
      by_cases j2 : j < k + 1
      · rw [if_pos j2]
      · rw [if_neg j2, out j (by omega), Int.mul_zero]
    · rw [if_neg j1, out j (by omega), if_neg (by omega), out (j - 1) (by omega), Int.mul_zero, Int.mul_zero]
      rfl
end Go.Proofs.YtbddcbbjmgepnaaDoor

/- Odds: the reference's SpreadOf: the counts as a list, and their bounds. No program. -/
namespace Go.Proofs.YtbddcbbjmgepnaaDoor

def cntL (ps : List Int) (L N : Nat) : List Int := (List.range (L + 1)).map fun j => smK ps L j N
theorem cntL_len (ps : List Int) (L N : Nat) : (cntL ps L N).length = L + 1 := by simp [cntL]
theorem cntL_at (ps : List Int) (L N j : Nat) (h : j < L + 1) : (cntL ps L N).getD j 0 = smK ps L j N := by
  simp [cntL, List.getD_eq_getElem?_getD, List.getElem?_range h]
theorem cntL_zero (ps : List Int) (L : Nat) : cntL ps L 0 = List.replicate (L + 1) 0 := by
  apply List.ext_getElem
  · simp [cntL]
  · intro i h1 h2
    simp [cntL, smK]
theorem cn_le (s : Nat) : ∀ k, cnK s k ≤ k
  | 0 => Nat.le_refl 0
  | k + 1 => by
    have := cn_le s k
    unfold cnK
    split <;> omega
theorem cntL_next (ps : List Int) (L N : Nat) : cntL ps L (N + 1) = (cntL ps L N).set (cnK N L) ((cntL ps L N).getD (cnK N L) 0 + prK ps N L) := by
  have hc := cn_le N L
  rw [cntL_at ps L N _ (by omega)]
  apply List.ext_getElem
  · simp [cntL]
  · intro i h1 h2
    rw [List.getElem_set]
    split
    · rename_i h; subst h; simp [cntL, smK]
    · rename_i h
      simp [cntL, smK, h]
theorem cntL_cas (ps : List Int) (L : Nat) (h : L ≤ ps.length) : cntL ps L (2 ^ L) = cas (ps.take L) := by
  have hl := cas_len ps L h
  apply List.ext_getElem
  · rw [cntL_len, hl]
  · intro i h1 h2
    have := sm_cas ps L h i
    rw [← cntL_at ps L _ i (by rw [cntL_len] at h1; exact h1)] at this
    simpa [List.getD_eq_getElem?_getD, List.getElem?_eq_getElem h1, List.getElem?_eq_getElem h2] using this
theorem pr_bnd (ps : List Int) (hp : ∀ p ∈ ps, 0 ≤ p ∧ p ≤ 100) (s : Nat) : ∀ k, k ≤ ps.length → 0 ≤ prK ps s k ∧ prK ps s k ≤ 100 ^ k
  | 0, _ => ⟨by simp [prK], by simp [prK]⟩
  | k + 1, h => by
    obtain ⟨h1, h2⟩ := pr_bnd ps hp s k (by omega)
    have hk : ps.getD k 0 ∈ ps := by
      rw [List.getD_eq_getElem?_getD, List.getElem?_eq_getElem (show k < ps.length by omega)]
      exact List.getElem_mem _
    obtain ⟨p0, p1⟩ := hp _ hk
    unfold prK
    have hq : 0 ≤ (if bitK s k = true then ps.getD k 0 else 100 - ps.getD k 0) ∧ (if bitK s k = true then ps.getD k 0 else 100 - ps.getD k 0) ≤ 100 := by split <;> omega
    refine ⟨Int.mul_nonneg h1 hq.1, ?_⟩
    rw [Int.pow_succ]
    exact Int.mul_le_mul h2 hq.2 hq.1 (Int.le_trans h1 h2)
theorem sm_mono (ps : List Int) (hp : ∀ p ∈ ps, 0 ≤ p ∧ p ≤ 100) (k j : Nat) (hk : k ≤ ps.length) (N : Nat) : ∀ M, 0 ≤ smK ps k j N ∧ smK ps k j N ≤ smK ps k j (N + M) := by
  have h0 : ∀ N, 0 ≤ smK ps k j N := fun N => by
    induction N with
    | zero => simp [smK]
    | succ N ih =>
      have := (pr_bnd ps hp N k hk).1
      unfold smK
      split <;> omega
  intro M
  refine ⟨h0 N, ?_⟩
  induction M with
  | zero => exact Int.le_refl _
  | succ M ih =>
    have := (pr_bnd ps hp (N + M) k hk).1
    rw [← Nat.add_assoc]
    have e : smK ps k j (N + M + 1) = smK ps k j (N + M) + (if cnK (N + M) k = j then prK ps (N + M) k else 0) := rfl
    rw [e]
    split <;> omega
theorem sm_bnd (ps : List Int) (hp : ∀ p ∈ ps, 0 ≤ p ∧ p ≤ 100) (k j : Nat) (hk : k ≤ ps.length) (N : Nat) (hN : N ≤ 2 ^ k) : 0 ≤ smK ps k j N ∧ smK ps k j N ≤ 100 ^ k := by
  obtain ⟨M, hM⟩ : ∃ M, 2 ^ k = N + M := ⟨2 ^ k - N, by omega⟩
  obtain ⟨h1, h2⟩ := sm_mono ps hp k j hk N M
  refine ⟨h1, Int.le_trans h2 ?_⟩
  rw [← hM, sm_cas ps k hk j]
  obtain ⟨_, cn, cs⟩ := cas_ok (ps.take k) (fun p h => hp p (List.mem_of_mem_take h))
  have h3 := cn.le_sum j
  rw [cs, List.length_take, Nat.min_eq_left hk] at h3
  exact h3
end Go.Proofs.YtbddcbbjmgepnaaDoor

/- Odds: the reference's Lowest and hundred. -/
namespace Go.Proofs.YtbddcbbjmgepnaaDoor
open Go.RowKit

def LowRel2 (n d : Nat) (s5 s6 : Value) (w wr : World) : Prop :=
  ∃ a b : Nat, s5 = .int .i64 a ∧ s6 = .int .i64 b ∧ Nat.gcd a b = Nat.gcd d n ∧ a ≤ 1000000000000000000 ∧ b ≤ 1000000000000000000 ∧ 0 < a + b ∧ Bk wr w.heap.size 61 (frC 0 0) ∧ G w wr none
def HuRel (w : World) (n : Nat) (s3 s5 : Value) (wr : World) : Prop :=
  ∃ k : Nat, k ≤ n ∧ s5 = .int .i64 k ∧ s3 = .int .i64 (100 ^ k) ∧ w = wr
end Go.Proofs.YtbddcbbjmgepnaaDoor

/- Odds: the reference's SpreadOf, for any bookings. -/
namespace Go.Proofs.YtbddcbbjmgepnaaDoor
open Go.RowKit

theorem and_one (n : Int) : bits .and .i64 n 1 = n % 2 := by
  have h1 : (BitVec.ofInt 64 1).toNat = 2 ^ 1 - 1 := by decide
  have key : (BitVec.ofInt 64 n &&& BitVec.ofInt 64 1).toNat = (n % ((2 ^ 64 : Nat) : Int)).toNat % 2 ^ 1 := by
    rw [BitVec.toNat_and, BitVec.toNat_ofInt, h1, Nat.and_two_pow_sub_one_eq_mod]
  show IntKind.i64.wrap ((BitVec.ofInt 64 n &&& BitVec.ofInt 64 1).toNat : Nat) = n % 2
  rw [key, IntKind.wrap_i64]
  omega
theorem bit_and (N k : Nat) : (bits .and .i64 ((N : Int) / 2 ^ k) 1 == 1) = bitK N k := by
  rw [and_one, show ((2 : Int) ^ k) = ((2 ^ k : Nat) : Int) from (Int.natCast_pow 2 k).symm, ← Int.natCast_ediv]
  unfold bitK
  rw [Bool.eq_iff_iff, beq_iff_eq, beq_iff_eq]
  omega
def SoRelO (w : World) (l : List Bo) (g : Nat) (s19 : Value) (wr : World) : Prop :=
  ∃ N : Nat, N ≤ 2 ^ l.length ∧ s19 = .int .i64 N ∧ Bk wr g 3 (ic (cntL (pcs l) l.length N)) ∧ G w wr none
def SoRelI (w : World) (l : List Bo) (g N : Nat) (s5 s6 s24 : Value) (wr : World) : Prop :=
  ∃ k : Nat, k ≤ l.length ∧ s24 = .int .i64 k ∧ s5 = .int .i64 (prK (pcs l) N k) ∧ s6 = .int .i64 (cnK N k) ∧ Bk wr g 3 (ic (cntL (pcs l) l.length N)) ∧ G w wr none
end Go.Proofs.YtbddcbbjmgepnaaDoor

/- Odds: the reference's overOf and OverOf, for any bookings. -/
namespace Go.Proofs.YtbddcbbjmgepnaaDoor
open Go.RowKit

theorem low_mul (x h : Nat) (hh : 0 < h) : x / Nat.gcd h x * (h / (h / Nat.gcd h x)) = x := by
  rw [Nat.div_div_self (Nat.gcd_dvd_left h x) (by omega)]
  exact Nat.div_mul_cancel (Nat.gcd_dvd_right h x)
theorem low_den (x h : Nat) (hh : 0 < h) : h / Nat.gcd h x ≠ 0 := by
  have := Nat.div_pos (Nat.le_of_dvd hh (Nat.gcd_dvd_left h x)) (Nat.gcd_pos_of_pos_left x hh)
  omega
def OoRel (w : World) (c : List Int) (u : Int) (s5 s11 : Value) (wr : World) : Prop :=
  ∃ k : Nat, k ≤ c.length ∧ s11 = .int .i64 k ∧ s5 = .int .i64 (ovS c u k) ∧ G w wr none
end Go.Proofs.YtbddcbbjmgepnaaDoor

/- Odds: tails of the numbers of cases; fractions in lowest terms compared (mathematics). -/
namespace Go.Proofs.YtbddcbbjmgepnaaDoor
open Go.RowKit

theorem getD_set_eq (l : List Int) (i : Nat) (v : Int) (h : i < l.length) : (l.set i v).getD i 0 = v := by
  simp [List.getD, h]
theorem ovS_set (l : List Int) (u : Int) (i : Nat) (v : Int) (h : i < l.length) : ∀ n, ovS (l.set i v) u n = ovS l u n + (if u < (i : Int) ∧ i < n then v - l.getD i 0 else 0)
  | 0 => by simp [ovS]
  | n + 1 => by
    have ih := ovS_set l u i v h n
    show (if u < (n : Int) then ovS (l.set i v) u n + (l.set i v).getD n 0 else ovS (l.set i v) u n) = (if u < (n : Int) then ovS l u n + l.getD n 0 else ovS l u n) + _
    rw [ih]
    by_cases hin : i = n
    · subst hin
      rw [getD_set_eq l i v h]
      by_cases hu : u < (i : Int)
      · rw [if_pos hu, if_pos hu, if_neg (by omega), if_pos (by omega)]; omega
      · rw [if_neg hu, if_neg hu, if_neg (by omega), if_neg (by omega)]
    · rw [gdset_ne l i n v hin]
      by_cases hu : u < (n : Int)
      · rw [if_pos hu, if_pos hu]
        by_cases hi : u < (i : Int) ∧ i < n
        · rw [if_pos hi, if_pos (by omega)]; omega
        · rw [if_neg hi, if_neg (by omega)]; omega
      · rw [if_neg hu, if_neg hu]
        by_cases hi : u < (i : Int) ∧ i < n
        · omega
        · rw [if_neg hi, if_neg (by omega)]
theorem ovS_zero (n : Nat) (u : Int) : ∀ k, ovS (List.replicate n 0) u k = 0
  | 0 => rfl
  | k + 1 => by
    show (if u < (k : Int) then ovS (List.replicate n 0) u k + (List.replicate n (0 : Int)).getD k 0 else ovS (List.replicate n 0) u k) = 0
    rw [ovS_zero n u k]
    have : (List.replicate n (0 : Int)).getD k 0 = 0 := by
      simp only [List.getD, List.getElem?_replicate]
      split <;> rfl
    rw [this]
    split <;> rfl
theorem nx_tail (c : List Int) (p u : Int) (j : Nat) (h : j ≤ c.length) : ovS (nx c p j) u (c.length + 1) = (100 - p) * ovS c u j + p * ovS c (u - 1) j := by
  induction j with
  | zero => simp [nx, ovS_zero, ovS]
  | succ j ih =>
    have hl := nx_len c p j
    unfold nx
    rw [ovS_set _ _ _ _ (by rw [List.length_set, hl]; omega), ovS_set _ _ _ _ (by rw [hl]; omega), gdset_ne _ _ _ _ (by omega), ih (by omega)]
    show _ = (100 - p) * (if u < (j : Int) then ovS c u j + c.getD j 0 else ovS c u j) + p * (if u - 1 < (j : Int) then ovS c (u - 1) j + c.getD j 0 else ovS c (u - 1) j)
    have e1 : (100 - p) * (ovS c u j + c.getD j 0) = (100 - p) * ovS c u j + c.getD j 0 * (100 - p) := by rw [Int.mul_add, Int.mul_comm (100 - p) (c.getD j 0)]
    have e2 : p * (ovS c (u - 1) j + c.getD j 0) = p * ovS c (u - 1) j + c.getD j 0 * p := by rw [Int.mul_add, Int.mul_comm p (c.getD j 0)]
    by_cases h1 : u < (j : Int)
    · rw [if_pos h1, if_pos (show u - 1 < (j : Int) by omega), if_pos (by omega), if_pos (by omega), e1, e2]; omega
    · rw [if_neg h1, if_neg (show ¬ (u < (j : Int) ∧ j < c.length + 1) by omega)]
      by_cases h2 : u - 1 < (j : Int)
      · rw [if_pos h2, if_pos (by omega), e2]; omega
      · rw [if_neg h2, if_neg (by omega)]; omega
theorem ovS_mono {c : List Int} (h : NN c) (u v : Int) (huv : u ≤ v) : ∀ k, ovS c v k ≤ ovS c u k
  | 0 => Int.le_refl 0
  | k + 1 => by
    have ih := ovS_mono h u v huv k
    have h3 := h.getD k
    show (if v < (k : Int) then ovS c v k + c.getD k 0 else ovS c v k) ≤ (if u < (k : Int) then ovS c u k + c.getD k 0 else ovS c u k)
    split
    · rw [if_pos (by omega)]; omega
    · split <;> omega
/-- How many cases have more than u that come. -/
def tlO (ps : List Int) (u : Int) : Int := ovS (cas ps) u (ps.length + 1)
def Pct (ps : List Int) : Prop := ∀ p ∈ ps, 0 ≤ p ∧ p ≤ 100
theorem tlO_snoc (ps : List Int) (p u : Int) (h : Pct (ps ++ [p])) : 100 * tlO ps u ≤ tlO (ps ++ [p]) u := by
  obtain ⟨p0, p1⟩ := h p (by simp)
  obtain ⟨cl, cn, -⟩ := cas_ok ps (fun q hq => h q (by simp [hq]))
  unfold tlO
  rw [cas_snoc, List.length_append, List.length_singleton, show ps.length + 1 + 1 = (cas ps).length + 1 by rw [cl], nx_tail _ _ _ _ (Nat.le_refl _), cl]
  have h1 := ovS_mono cn (u - 1) u (by omega) (ps.length + 1)
  have h2 := Int.mul_le_mul_of_nonneg_left h1 p0
  have h3 : (100 - p) * ovS (cas ps) u (ps.length + 1) + p * ovS (cas ps) u (ps.length + 1) = 100 * ovS (cas ps) u (ps.length + 1) := by rw [← Int.add_mul]; rw [show (100 - p + p : Int) = 100 by omega]
  omega
theorem tlO_app (ps : List Int) (u : Int) : ∀ (n : Nat) (qs : List Int), qs.length = n → Pct (ps ++ qs) → 100 ^ qs.length * tlO ps u ≤ tlO (ps ++ qs) u := by
  intro n
  induction n with
  | zero =>
    intro qs hn _
    obtain rfl := List.eq_nil_of_length_eq_zero hn
    simp
  | succ n ih =>
    intro qs hn h
    obtain ⟨rs, q, rfl⟩ : ∃ rs q, qs = rs ++ [q] := ⟨qs.dropLast, qs.getLast (by intro e; rw [e] at hn; simp at hn), (List.dropLast_concat_getLast _).symm⟩
    simp at hn
    rw [← List.append_assoc] at h ⊢
    have h1 := ih rs hn (fun p hp => h p (by simp at hp ⊢; rcases hp with hp | hp <;> simp [hp]))
    have h2 := tlO_snoc (ps ++ rs) q u h
    rw [List.length_append, List.length_singleton, Int.pow_succ, Int.mul_comm (100 ^ rs.length) 100, Int.mul_assoc]
    omega
theorem tlO_nn (ps : List Int) (u : Int) (h : Pct ps) : 0 ≤ tlO ps u ∧ tlO ps u ≤ 100 ^ ps.length := by
  obtain ⟨cl, cn, cs⟩ := cas_ok ps h
  obtain ⟨h1, h2⟩ := ovS_bnd cn u (ps.length + 1) (by omega)
  unfold tlO
  rw [← cl, List.take_length, cs] at h2
  rw [← cl] at h1 ⊢
  exact ⟨h1, h2⟩
/-- One fraction is not less than another one, said of the numbers that they come from. -/
theorem low_le (n1 h1 n2 h2 : Nat) (p1 : 0 < h1) (p2 : 0 < h2) (h : n2 * h1 ≤ n1 * h2) :
    n2 / Nat.gcd h2 n2 * (h1 / Nat.gcd h1 n1) ≤ n1 / Nat.gcd h1 n1 * (h2 / Nat.gcd h2 n2) := by
  have g1 := Nat.gcd_pos_of_pos_left n1 p1
  have g2 := Nat.gcd_pos_of_pos_left n2 p2
  have a1 := Nat.div_mul_cancel (Nat.gcd_dvd_right h1 n1)
  have a2 := Nat.div_mul_cancel (Nat.gcd_dvd_left h1 n1)
  have b1 := Nat.div_mul_cancel (Nat.gcd_dvd_right h2 n2)
  have b2 := Nat.div_mul_cancel (Nat.gcd_dvd_left h2 n2)
  generalize Nat.gcd h1 n1 = g at *
  generalize Nat.gcd h2 n2 = k at *
  generalize n1 / g = x1 at *
  generalize h1 / g = y1 at *
  generalize n2 / k = x2 at *
  generalize h2 / k = y2 at *
  subst a1 a2 b1 b2
  refine Nat.le_of_mul_le_mul_right (c := g * k) ?_ (Nat.mul_pos g1 g2)
  have e1 : x2 * y1 * (g * k) = x2 * k * (y1 * g) := by rw [Nat.mul_comm g k]; exact Nat.mul_mul_mul_comm x2 y1 k g
  have e2 : x1 * y2 * (g * k) = x1 * g * (y2 * k) := Nat.mul_mul_mul_comm x1 y2 g k
  rw [e1, e2]
  exact h
/-- Less, of fractions that come from numbers of cases. -/
def ltB (x y : Fr) : Bool := decide (x.1.toNat * y.2.toNat < y.1.toNat * x.2.toNat)
theorem lowF_not_lt (n1 h1 n2 h2 : Int) (a1 : 0 ≤ n1) (a2 : 0 ≤ n2) (p1 : 0 < h1) (p2 : 0 < h2) (h : n2 * h1 ≤ n1 * h2) : ltB (lowF n1 h1) (lowF n2 h2) = false := by
  obtain ⟨n1, rfl⟩ := Int.eq_ofNat_of_zero_le a1
  obtain ⟨n2, rfl⟩ := Int.eq_ofNat_of_zero_le a2
  obtain ⟨h1, rfl⟩ := Int.eq_ofNat_of_zero_le (show 0 ≤ h1 by omega)
  obtain ⟨h2, rfl⟩ := Int.eq_ofNat_of_zero_le (show 0 ≤ h2 by omega)
  have := low_le n1 h1 n2 h2 (by omega) (by omega) (by exact_mod_cast h)
  unfold ltB lowF
  simp only [Int.toNat_natCast]
  exact decide_eq_false (by omega)
theorem ovF_tl (l : List Bo) (u : Int) : ovF l u = lowF (tlO (pcs l) u) (100 ^ l.length) := by
  unfold ovF tlO
  rw [show (pcs l).length = l.length by simp [pcs]]
theorem over_less_units (l : List Bo) (u : Int) (hp : PcOk l) : ltB (ovF l u) (ovF l (u + 1)) = false := by
  rw [ovF_tl, ovF_tl]
  obtain ⟨cl, cn, -⟩ := cas_ok (pcs l) hp
  have h1 := tlO_nn (pcs l) u hp
  have h2 := tlO_nn (pcs l) (u + 1) hp
  have h3 : tlO (pcs l) (u + 1) ≤ tlO (pcs l) u := ovS_mono cn u (u + 1) (by omega) _
  exact lowF_not_lt _ _ _ _ h1.1 h2.1 (pow_pos100 _) (pow_pos100 _) (Int.mul_le_mul_of_nonneg_right h3 (Int.le_of_lt (pow_pos100 _)))
theorem over_less_take (l : List Bo) (u : Int) (k : Nat) (hp : PcOk l) (hk : k ≤ l.length) : ltB (ovF l u) (ovF (l.take k) u) = false := by
  rw [ovF_tl, ovF_tl]
  have hsp : pcs l = pcs (l.take k) ++ pcs (l.drop k) := by unfold pcs; rw [← List.map_append, List.take_append_drop]
  have hpp : Pct (pcs l) := hp
  have h1 := tlO_nn (pcs l) u hp
  have h2 := tlO_nn (pcs (l.take k)) u (PcOk.take hp k)
  have h3 := tlO_app (pcs (l.take k)) u _ (pcs (l.drop k)) rfl (by rw [← hsp]; exact hpp)
  rw [← hsp, show (pcs (l.drop k)).length = l.length - k by simp [pcs]] at h3
  refine lowF_not_lt _ _ _ _ h1.1 h2.1 (pow_pos100 _) (pow_pos100 _) ?_
  have h4 : (l.take k).length = k := by rw [List.length_take]; omega
  rw [h4]
  have h5 : (100 : Int) ^ l.length = 100 ^ (l.length - k) * 100 ^ k := by rw [← Int.pow_add]; congr 1; omega
  rw [h5, ← Int.mul_assoc, Int.mul_comm (tlO (pcs (l.take k)) u)]
  exact Int.mul_le_mul_of_nonneg_right h3 (Int.le_of_lt (pow_pos100 _))
/-- What the law reckons of each fraction of the odds. -/
theorem low_back (n : Int) (L : Nat) (hn : 0 ≤ n) : 0 < (lowF n (100 ^ L)).2 ∧ (100 : Int) ^ L % (lowF n (100 ^ L)).2 = 0 ∧ (lowF n (100 ^ L)).1 * (100 ^ L / (lowF n (100 ^ L)).2) = n := by
  obtain ⟨n, rfl⟩ := Int.eq_ofNat_of_zero_le hn
  have hp : 0 < 100 ^ L := Nat.pow_pos (by omega)
  have e : ((100 : Int) ^ L) = ((100 ^ L : Nat) : Int) := by simp
  rw [e]
  unfold lowF
  simp only [Int.toNat_natCast]
  have h1 := low_den n (100 ^ L) hp
  have h2 := low_mul n (100 ^ L) hp
  have h3 : 100 ^ L % (100 ^ L / Nat.gcd (100 ^ L) n) = 0 := Nat.mod_eq_zero_of_dvd (Nat.div_dvd_of_dvd (Nat.gcd_dvd_left _ _))
  exact ⟨Int.natCast_pos.2 (Nat.pos_of_ne_zero h1), by exact_mod_cast h3, by exact_mod_cast h2⟩
end Go.Proofs.YtbddcbbjmgepnaaDoor

/- Odds: the reference's atMost. -/
namespace Go.Proofs.YtbddcbbjmgepnaaDoor
open Go.RowKit

theorem cross (M p X q Y : Nat) (hX : X < M) (hY : Y < M) : (M * p + X ≤ M * q + Y) ↔ if p = q then X ≤ Y else p < q := by
  split
  · rename_i h; subst h; omega
  · rename_i h
    rcases Nat.lt_or_gt_of_ne h with h1 | h1
    · have := Nat.mul_le_mul_left M (show p + 1 ≤ q from h1)
      rw [Nat.mul_add] at this
      omega
    · have := Nat.mul_le_mul_left M (show q + 1 ≤ p from h1)
      rw [Nat.mul_add] at this
      omega
theorem le_cross (a b c d : Nat) (hb : 0 < b) (hd : 0 < d) : (a * d ≤ c * b) ↔ if a / b = c / d then a % b * d ≤ c % d * b else a / b < c / d := by
  have e1 := Nat.div_add_mod a b
  have e2 := Nat.div_add_mod c d
  have l1 := Nat.mod_lt a hb
  have l2 := Nat.mod_lt c hd
  have hX : a % b * d < b * d := (Nat.mul_lt_mul_right hd).2 l1
  have hY : c % d * b < b * d := by rw [Nat.mul_comm b d]; exact (Nat.mul_lt_mul_right hb).2 l2
  rw [← cross (b * d) (a / b) _ (c / d) _ hX hY]
  have f1 : a * d = b * d * (a / b) + a % b * d := by
    conv => lhs; rw [← e1]
    rw [Nat.add_mul, Nat.mul_right_comm]
  have f2 : c * b = b * d * (c / d) + c % d * b := by
    conv => lhs; rw [← e2]
    rw [Nat.add_mul, Nat.mul_right_comm d _ b, Nat.mul_comm d b]
  rw [f1, f2]
def denAt (w : World) (g : Nat) : Nat := match w.cell? ⟨g, 1, none⟩ with
  | some (.int _ n) => n.toNat
  | _ => 0
theorem denAt_of {w : World} {g : Nat} {n d : Int} (h : Bk w g 61 (frC n d)) : denAt w g = d.toNat := by
  unfold denAt
  rw [show w.cell? ⟨g, 1, none⟩ = some (.int .i64 d) from h.cell 1]
def AmRel (w : World) (R : Bool) (_s : Value) (wr : World) : Prop :=
  ∃ a b c d : Nat, 0 < b ∧ 0 < d ∧ a ≤ 1000000000000000000 ∧ b ≤ 1000000000000000000 ∧ c ≤ 1000000000000000000 ∧ d ≤ 1000000000000000000 ∧ decide (a * d ≤ c * b) = R ∧
    Bk wr w.heap.size 61 (frC a b) ∧ Bk wr (w.heap.size + 1) 61 (frC c d) ∧ G w wr none
end Go.Proofs.YtbddcbbjmgepnaaDoor

/- Odds: the law's own less. -/
namespace Go.Proofs.YtbddcbbjmgepnaaDoor
open Go.RowKit

theorem lt_cross (a b c d : Nat) (hb : 0 < b) (hd : 0 < d) : (a * d < c * b) ↔ if a / b = c / d then a % b * d < c % d * b else a / b < c / d := by
  have h := le_cross c d a b hd hb
  constructor
  · intro h1
    have h2 : ¬ (c * b ≤ a * d) := by omega
    rw [h] at h2
    split
    · rename_i e; rw [if_pos e.symm] at h2; omega
    · rename_i e; rw [if_neg (fun x => e x.symm)] at h2; omega
  · intro h1
    have h2 : ¬ (c * b ≤ a * d) := by
      rw [h]
      split
      · rename_i e; rw [if_pos e.symm] at h1; omega
      · rename_i e; rw [if_neg (fun x => e x.symm)] at h1; omega
    omega
def LeRel (w : World) (R : Bool) (_s : Value) (wr : World) : Prop :=
  ∃ a b c d : Nat, 0 < b ∧ 0 < d ∧ a ≤ 1000000000000000000 ∧ b ≤ 1000000000000000000 ∧ c ≤ 1000000000000000000 ∧ d ≤ 1000000000000000000 ∧ decide (a * d < c * b) = R ∧
    Bk wr w.heap.size 61 (frC a b) ∧ Bk wr (w.heap.size + 1) 61 (frC c d) ∧ G w wr none
set_option maxRecDepth 100000 in
set_option maxHeartbeats 4000000 in
theorem less_c (a b c d : Nat) (hb0 : 0 < b) (hd0 : 0 < d) (ha : a ≤ 1000000000000000000) (hb : b ≤ 1000000000000000000) (hc : c ≤ 1000000000000000000) (hd : d ≤ 1000000000000000000) (w : World) :
    Calls Tryd.prog 28 #[.agg (frC a b), .agg (frC c d)] w fun e w' => e = .returned (.bool (decide (a * d < c * b))) ∧ G w w' none := by
  have hG2 := ((G.refl w none).alloc (.cells (frC a b) 61)).alloc (.cells (frC c d) 61)
  have hA := (Bk.new w 61 (frC a b)).alloc (.cells (frC c d) 61)
  have hB : Bk ((w.alloc (.cells (frC a b) 61)).alloc (.cells (frC c d) 61)) (w.heap.size + 1) 61 (frC c d) := Bk.newAt (w := w.alloc (.cells (frC a b) 61)) (b := w.heap.size + 1) (by simp) 61 (frC c d)
  obtain ⟨R, hR⟩ : ∃ R, decide (a * d < c * b) = R := ⟨_, rfl⟩
  rw [hR]
  go_enter Tryd.func28, Tryd.ntmps28
  go_wp2_with fail
  go_loopw [5] (LeRel w R) (fun _ wr => denAt wr w.heap.size + denAt wr (w.heap.size + 1))
  case atStart => exact ⟨a, b, c, d, hb0, hd0, ha, hb, hc, hd, hR, hA, hB, hG2⟩
  case round =>
    clear hG2 hA hB hR hb0 hd0 ha hb hc hd
    obtain ⟨A1, hA1⟩ : ∃ x, frC (a : Int) b = x := ⟨_, rfl⟩
    obtain ⟨B1, hB1⟩ : ∃ x, frC (c : Int) d = x := ⟨_, rfl⟩
    rw [hA1, hB1]
    clear hA1 hB1 a b c d
    obtain ⟨a, b, c, d, hb0, hd0, ha, hb, hc, hd, hR, hA, hB, hG⟩ := hrel
    have LC := Lib.hid (lt_cross a b c d hb0 hd0)
    have HM := Lib.hid (And.intro (denAt_of hA) (denAt_of hB))
    have c0 : wr.cell? ⟨w.heap.size, 0, none⟩ = some (.int .i64 a) := hA.cell 0
    have c1 : wr.cell? ⟨w.heap.size, 1, none⟩ = some (.int .i64 b) := hA.cell 1
    have c2 : wr.cell? ⟨w.heap.size + 1, 0, none⟩ = some (.int .i64 c) := hB.cell 0
    have c3 : wr.cell? ⟨w.heap.size + 1, 1, none⟩ = some (.int .i64 d) := hB.cell 1
    obtain ⟨p, hp⟩ : ∃ p, a / b = p := ⟨_, rfl⟩
    obtain ⟨q, hq⟩ : ∃ p, c / d = p := ⟨_, rfl⟩
    have hw1 := quo_wrap a b p ha hp
    have hw2 := quo_wrap c d q hc hq
    have hbn : ¬ b = 0 := by omega
    have hdn : ¬ d = 0 := by omega
    have HPQ := Lib.hid (And.intro hp hq)
    clear hp hq
    go_wp2_with fail
    go_quiet (fail)
    have hGq := hG.drewN nq
    have hAq := hA.drewN nq
    have hBq := hB.drewN nq
    clear hG hA hB c0 c1 c2 c3 hw1 hw2
    generalize wr.drewN nq = w3 at hGq hAq hBq ⊢
    by_cases hpq : p = q
    · subst hpq
      have c0 : w3.cell? ⟨w.heap.size, 0, none⟩ = some (.int .i64 a) := hAq.cell 0
      have c1 : w3.cell? ⟨w.heap.size, 1, none⟩ = some (.int .i64 b) := hAq.cell 1
      have c2 : w3.cell? ⟨w.heap.size + 1, 0, none⟩ = some (.int .i64 c) := hBq.cell 0
      have c3 : w3.cell? ⟨w.heap.size + 1, 1, none⟩ = some (.int .i64 d) := hBq.cell 1
      obtain ⟨x, hx⟩ : ∃ x, a % b = x := ⟨_, rfl⟩
      obtain ⟨y, hy⟩ : ∃ y, c % d = y := ⟨_, rfl⟩
      have HR : Hid (R = decide (x * d < y * b)) := Lib.hid (by rw [← hR, ← hx, ← hy]; exact decide_eq_decide.2 (LC.out.trans (by rw [HPQ.out.1, HPQ.out.2, if_pos rfl])))
      have hxl : x < b := by rw [← hx]; exact Nat.mod_lt _ hb0
      have hyl : y < d := by rw [← hy]; exact Nat.mod_lt _ hd0
      have t1 : (a : Int).tmod (b : Int) = (x : Int) := by rw [← hx, Int.tmod_eq_emod_of_nonneg (by omega)]; rfl
      have t2 : (c : Int).tmod (d : Int) = (y : Int) := by rw [← hy, Int.tmod_eq_emod_of_nonneg (by omega)]; rfl
      have v1 : IntKind.i64.wrap (x : Int) = (x : Int) := by rw [IntKind.wrap_i64]; omega
      have v2 : IntKind.i64.wrap (y : Int) = (y : Int) := by rw [IntKind.wrap_i64]; omega
      have HL := Lib.hid (And.intro hxl hyl)
      clear hR LC HPQ hx hy hxl hyl
      go_wp2_with fail
      go_quiet (fail)
      have hGr := hGq.drewN nq
      have hAr := hAq.drewN nq
      have hBr := hBq.drewN nq
      clear hGq hAq hBq c0 c1 c2 c3 t1 t2 v1 v2
      generalize w3.drewN nq = w4 at hGr hAr hBr ⊢
      by_cases hy0 : y = 0
      · subst hy0
        have HF : Hid (R = false) := Lib.hid (by rw [HR.out]; simp)
        clear HR
        by_cases hx0 : x = 0
        · subst hx0
          go_wp2_with fail
          go_ret
          exact ⟨by rw [HF.out]; rfl, hGr⟩
        · have hxb : ((x : Int) == 0) = false := by rw [beq_eq_false_iff_ne]; omega
          clear hx0
          go_wp2_with fail
          go_ret
          exact ⟨by rw [HF.out]; rfl, hGr⟩
      · have hyb : ((y : Int) == 0) = false := by rw [beq_eq_false_iff_ne]; omega
        have hyp : (0 : Int) < (y : Int) := by omega
        by_cases hx0 : x = 0
        · have hxb : ((x : Int) == 0) = true := by rw [hx0]; rfl
          have HF : Hid (R = decide (0 < y)) := Lib.hid (by
            rw [HR.out, hx0, Nat.zero_mul]
            exact decide_eq_decide.2 ⟨fun _ => by omega, fun _ => Nat.mul_pos (by omega) hb0⟩)
          clear HR
          go_wp2_with fail
          go_ret
          exact ⟨by rw [HF.out]; rfl, hGr⟩
        · have hxb : ((x : Int) == 0) = false := by rw [beq_eq_false_iff_ne]; omega
          have c1 : w4.cell? ⟨w.heap.size, 1, none⟩ = some (.int .i64 b) := hAr.cell 1
          have c3 : w4.cell? ⟨w.heap.size + 1, 1, none⟩ = some (.int .i64 d) := hBr.cell 1
          have hA5 : Bk ((w4.setRow w.heap.size (frC d y)).setRow (w.heap.size + 1) (frC b x)) w.heap.size 61 (frC d y) := (hAr.setRow _).farRow (by omega) _
          have hB4 : Bk (w4.setRow w.heap.size (frC d y)) (w.heap.size + 1) 61 (frC c d) := hBr.farRow (by omega) _
          have hB5 := hB4.setRow (frC b x)
          have hG5 : G w ((w4.setRow w.heap.size (frC d y)).setRow (w.heap.size + 1) (frC b x)) none := (hGr.setRow (.inl (Nat.le_refl _)) _).setRow (.inl (by omega)) _
          go_wp2_with (first | refine wpList_store_row rfl 61 _ _ rfl w.heap.size (frC d y) rfl rfl 61 _ hAr (fr_info d y) rfl (fr_one d y) ?_ | refine wpList_store_row rfl 61 _ _ rfl (w.heap.size + 1) (frC b x) rfl rfl 61 _ hB4 (fr_info b x) rfl (fr_one b x) ?_)
          simp only [Act.put]
          go_roundw
          case rel => exact ⟨d, y, b, x, by omega, by omega, hd, by have := HL.out; omega, hb, by have := HL.out; omega, by rw [HR.out, Nat.mul_comm d x, Nat.mul_comm b y], hA5, hB5, hG5⟩
          case measure =>
            show denAt _ _ + denAt _ _ < denAt _ _ + denAt _ _
            rw [denAt_of hA5, denAt_of hB5, HM.out.1, HM.out.2]
            have := HL.out
            omega
    · have HF : Hid (R = decide (p < q)) := Lib.hid (by rw [← hR]; exact decide_eq_decide.2 (LC.out.trans (by rw [HPQ.out.1, HPQ.out.2, if_neg hpq])))
      have hne : ((p : Int) != (q : Int)) = true := by rw [bne_iff_ne]; omega
      clear hR LC HPQ
      go_wp2_with fail
      go_ret
      exact ⟨by rw [HF.out]; rfl, hGq⟩
end Go.Proofs.YtbddcbbjmgepnaaDoor

/- Odds: the reference's OverOf and MostOf, for any bookings. -/
namespace Go.Proofs.YtbddcbbjmgepnaaDoor
open Go.RowKit

theorem lowF_pos (n d : Int) (d0 : 0 < d) : 0 < (lowF n d).2 := by
  have h1 := low_den n.toNat d.toNat (by omega)
  show (0 : Int) < ((d.toNat / Nat.gcd d.toNat n.toNat : Nat) : Int)
  exact Int.natCast_pos.2 (Nat.pos_of_ne_zero h1)
def bestK (p : Nat → Bool) : Nat → Nat
  | 0 => 0
  | k + 1 => if p k = true then bestK p k else k
theorem best_most (p : Nat → Bool) : ∀ k, bestK p (k + 1) = mostK p k
  | 0 => by simp [bestK, mostK]
  | k + 1 => by
    have h := best_most p k
    show (if p (k + 1) = true then bestK p (k + 1) else k + 1) = if p (k + 1) = true then mostK p k else k + 1
    rw [h]
def MfRel (w : World) (l : List Bo) (u : Int) (r : Fr) (s7 s12 : Value) (wr : World) : Prop :=
  ∃ k : Nat, k ≤ l.length + 1 ∧ s12 = .int .i64 k ∧ s7 = .int .i64 (bestK (ovG l u r) k : Nat) ∧ Bk wr w.heap.size 61 (frC r.1 r.2) ∧ G w wr none
end Go.Proofs.YtbddcbbjmgepnaaDoor

/- Rows of structs that a call owns, of whatever make; prefixes of lists of strings. No program. -/
namespace Go.Proofs.YtbddcbbjmgepnaaDoor
open Go.RowKit

abbrev OwnX {α : Type} (T : TypeId) (z : Nat) (c : α → Array Value) (w : World) (base : Nat) (v : Value) (l : List α) : Prop := w.ownsRow base T z v l.length (rowL c l)
structure RowOk {α : Type} (P : Program) (T TS : TypeId) (z bytes : Nat) (zv : Value) (c : α → Array Value) : Prop where
  row : (P.info? T).map (fun i => (i.zero, i.size, i.bytes)) = some (some zv, z, bytes)
  slice : P.underlying TS = some (.slice T)
  one : ∀ r, ∀ u ∈ (c r).toList, u.oneCell' = true
  sz : ∀ p, (c p).size = z
  zv : zv.cells.size = z
  pos : 0 < z
  few : bytes ≤ 100000
section
variable {α : Type} {T : TypeId} {z : Nat} {c : α → Array Value}
theorem bk_at {w : World} {g : Nat} {cs : Array Value} (h : Bk w g T cs) : ∀ j u, cs.toList[j]? = some u → w.cell? ((⟨g, 0, none⟩ : Addr).add j) = some u := fun j u hu => by
  rw [add_at, Nat.zero_add, h.cell]
  simpa using hu
theorem wp_append_x {P : Program} {TS : TypeId} {bytes : Nat} {zv : Value} (hk : RowOk P T TS z bytes zv c) {w : World} {o : Oper} {a : Act} {K : Act → World → Prop} {Q : Exit → Act → World → Prop} (s x : Operand)
    (ho : o.op = .call { callee := .builtin .append, args := #[s, x], argTypes := #[TS, TS] }) (base : Nat) (v : Value) (l : List α) (hs : a.eval s = v) (hown : OwnX T z c w base v l)
    (g : Nat) (r : α) (hx : a.eval x = .slice (some ⟨g, 0, none⟩) 1 1) (hb : Bk w g T (c r)) (hl : l.length ≤ 1000) (hbase : base ≤ w.heap.size)
    (hK : ∀ v' w', OwnX T z c w' base v' (l ++ [r]) → w.grownBy w' v.ownBlock → K (a.put o.dst v') w') : o.wp P a w K Q := by
  obtain ⟨i0, hi, hz0, hz1, hz2⟩ := info_parts hk.row
  have hm : (l.length + 1) * bytes ≤ 1001 * 100000 := Nat.mul_le_mul (by omega) hk.few
  refine wp_append_own w s x TS ho base T i0 zv z bytes hk.slice hi hz0 hz1 hz2 hk.zv hk.pos v l.length (rowL c l) hs hown ⟨g, 0, none⟩ 1 1 (c r).toList hx (by rw [Array.length_toList, hk.sz, Nat.one_mul]) (bk_at hb) (hk.one r) (by unfold maxLen; omega) (by omega) hbase ?_
  intro v' w' h1 h2 _
  refine hK v' w' ?_ h2
  unfold OwnX
  rw [List.length_append, rowL_snoc]
  exact h1
theorem OwnX.alloc {w : World} {base : Nat} {v : Value} {l : List α} (h : OwnX T z c w base v l) (o : Obj) : OwnX T z c (w.alloc o) base v l := World.ownsRow.alloc h o
theorem OwnX.kept {w w' : World} {base : Nat} {v : Value} {l : List α} {s : Nat} (h : OwnX T z c w base v l) (hg : G w w' (some s)) (hs : s < base) : OwnX T z c w' base v l := by
  refine World.ownsRow.kept h hg (.inr fun e => ?_)
  have := (World.ownsRow.lt h s e).1
  omega
theorem OwnX.quiet {w w' : World} {base : Nat} {v : Value} {l : List α} (h : OwnX T z c w base v l) (hg : G w w' none) : OwnX T z c w' base v l := World.ownsRow.kept h hg (Classical.em _)
theorem OwnX.drew {w : World} {base : Nat} {v : Value} {l : List α} (h : OwnX T z c w base v l) : OwnX T z c w.drew base v l := h.quiet ((G.refl w none).drew)
theorem OwnX.ne {w : World} {base : Nat} {v : Value} {l : List α} (h : OwnX T z c w base v l) {r : Nat} (hr : r < base ∨ w.heap.size ≤ r) : some r ≠ v.ownBlock := fun e => by
  have := World.ownsRow.lt h r e.symm
  omega
theorem OwnX.far {w : World} {base : Nat} {v : Value} {l : List α} (h : OwnX T z c w base v l) {p : Addr} (hp : some p.block ≠ v.ownBlock) (u : Value) : OwnX T z c (w.setCell p u) base v l := World.ownsRow.kept h (grownBy_setCell_row w p u) (.inr hp.symm)
theorem OwnX.low {w : World} {base : Nat} {v : Value} {l : List α} (h : OwnX T z c w base v l) : ∀ r, v.ownBlock = some r → base ≤ r := fun r e => (World.ownsRow.lt h r e).1
theorem OwnX.down {w : World} {base b : Nat} {v : Value} {l : List α} (h : OwnX T z c w base v l) (hb : b ≤ base) : OwnX T z c w b v l := by
  obtain ⟨h1, h2⟩ := h
  rcases h2 with ⟨rfl, h3⟩ | ⟨g, cap, cur, rfl, h3, h4, h5, h6, h7, h8⟩
  · exact ⟨h1, .inl ⟨rfl, h3⟩⟩
  · exact ⟨h1, .inr ⟨g, cap, cur, rfl, Nat.le_trans hb h3, h4, h5, h6, h7, h8⟩⟩
theorem OwnX.set (hz : ∀ p, (c p).size = z) {w : World} {base g n cap : Nat} {l : List α} {k : Nat} {p q : α} (h : w.ownsRow base T z (.slice (some ⟨g, 0, none⟩) n cap) n (rowL c l)) (hp : l[k]? = some p) (j : Nat) (u : Value) (hj : j < z) (hq : (c q).toList = (c p).toList.set j u) :
    (w.setCell ⟨g, k * z + j, none⟩ u).ownsRow base T z (.slice (some ⟨g, 0, none⟩) n cap) n (rowL c (l.set k q)) := by
  rw [← rowL_set hz l k p q hp j u hj hq]
  exact ownsRow_set h _ _
end
/-- The first of a list of strings. -/
theorem rdS_prefix {w : World} {a : Option Addr} {n cap : Nat} {l : List ByteArray} (h : Rd w 1 (.slice a n cap) l.length (l.map Value.string)) (m : Nat) (hm : m ≤ l.length) : Rd w 1 (.slice a m cap) (l.take m).length ((l.take m).map Value.string) := by
  obtain ⟨a', c', e, h1, h2, h3, h4, h5⟩ := h
  obtain ⟨rfl, rfl, rfl⟩ : a = a' ∧ n = l.length ∧ cap = c' := by cases e; exact ⟨rfl, rfl, rfl⟩
  have hlt : (l.take m).length = m := by rw [List.length_take]; omega
  refine ⟨a, cap, by rw [hlt], by omega, h2, by simp, fun e => ⟨by have := (h4 e).1; omega, (h4 e).2⟩, fun b hb => ?_⟩
  obtain ⟨q1, q2, q3⟩ := h5 b hb
  refine ⟨q1, q2, fun j u hj => q3 j u ?_⟩
  rw [List.map_take] at hj
  rw [← hj, List.getElem?_take]
  have hjl := (List.getElem?_eq_some_iff.1 hj).1
  simp at hjl
  rw [if_pos (by omega)]
end Go.Proofs.YtbddcbbjmgepnaaDoor

/- Generator: Bookings. -/
namespace Go.Proofs.YtbddcbbjmgepnaaDoor
open Go.RowKit

theorem bo_oneL (r : Bo) : ∀ u ∈ (boC r).toList, u.oneCell' = true := by
  intro u hu
  simp [boC] at hu
  rcases hu with rfl | rfl | rfl | rfl | rfl | rfl <;> rfl
theorem bo_rowOk : RowOk Tryd.prog 96 53 6 64 (.agg (boC (⟨#[]⟩, ⟨#[]⟩, 0, 0, 0, 0))) boC := ⟨by kernel_rfl, Tryd.underlying53, bo_oneL, boC_sz, rfl, by omega, by omega⟩
abbrev OwnBo (w : World) (base : Nat) (v : Value) (l : List Bo) : Prop := OwnX 96 6 boC w base v l
theorem BoOk.snoc {l : List Bo} {r : Bo} (h : BoOk l) (hr : boB r) : BoOk (l ++ [r]) := fun p hp => by
  rcases List.mem_append.1 hp with hp | hp
  · exact h p hp
  · obtain rfl := List.mem_singleton.1 hp
    exact hr
theorem BoOk.set {l : List Bo} (h : BoOk l) {r : Bo} (hr : boB r) (k : Nat) : BoOk (l.set k r) := fun p hp => by
  rcases List.mem_or_eq_of_mem_set hp with hp | rfl
  · exact h p hp
  · exact hr
theorem min2k (x y : Int) (w : World) : (Builtin.min_ #[3, 3] 3 #[.int .i64 x, .int .i64 y]).run Tryd.prog w = .ok (.int .i64 (min x y)) w := by
  have e : (if y < x then y else x) = min x y := by
    rw [Int.min_def]
    split <;> split <;> omega
  simp [Builtin.min_, Builtin.min2, e]
def boKeys : Array Value := #[.string ⟨#[98, 97]⟩, .string ⟨#[98, 98]⟩, .string ⟨#[98, 99]⟩, .string ⟨#[98, 100]⟩, .string ⟨#[98, 101]⟩, .string ⟨#[98, 102]⟩, .string ⟨#[98, 103]⟩, .string ⟨#[98, 104]⟩, .string ⟨#[98, 105]⟩]
theorem boKeys_at (k : Nat) (hk : k < 9) : ∃ a : ByteArray, Small a ∧ boKeys[k]? = some (.string a) := by
  match k, hk with
  | 0, _ => exact ⟨_, small_of (s := ⟨#[98, 97]⟩) (by decide), rfl⟩
  | 1, _ => exact ⟨_, small_of (s := ⟨#[98, 98]⟩) (by decide), rfl⟩
  | 2, _ => exact ⟨_, small_of (s := ⟨#[98, 99]⟩) (by decide), rfl⟩
  | 3, _ => exact ⟨_, small_of (s := ⟨#[98, 100]⟩) (by decide), rfl⟩
  | 4, _ => exact ⟨_, small_of (s := ⟨#[98, 101]⟩) (by decide), rfl⟩
  | 5, _ => exact ⟨_, small_of (s := ⟨#[98, 102]⟩) (by decide), rfl⟩
  | 6, _ => exact ⟨_, small_of (s := ⟨#[98, 103]⟩) (by decide), rfl⟩
  | 7, _ => exact ⟨_, small_of (s := ⟨#[98, 104]⟩) (by decide), rfl⟩
  | 8, _ => exact ⟨_, small_of (s := ⟨#[98, 105]⟩) (by decide), rfl⟩
def BookingsPost (s K m : Nat) (w : World) (e : Ending) (w' : World) : Prop :=
  ∃ (v : Value) (l : List Bo), e = .returned v ∧ OwnBo w' (w.heap.size + 1) v l ∧ BoOk l ∧ l.length ≤ m ∧ SB w' s (K + 60) ∧ G w w' (some s)
theorem bookings_fin {w w' : World} {s K m : Nat} {v : Value} {l : List Bo} (hown : OwnBo w' (w.heap.size + 1) v l) (hl : BoOk l) (hn : l.length ≤ m) (hSB : SB w' s (K + 60)) (hG : G w w' (some s)) : BookingsPost s K m w (.returned v) w' :=
  ⟨v, l, rfl, hown, hl, hn, hSB, hG⟩
def BgRel (w : World) (s K m : Nat) (s5 s15 : Value) (wr : World) : Prop :=
  ∃ (k : Nat) (l : List Bo), k ≤ m ∧ l.length ≤ k ∧ s15 = .int .i64 k ∧ OwnBo wr (w.heap.size + 1) s5 l ∧ BoOk l ∧ SB wr s (K + 5 * k) ∧ G w wr (some s) ∧ Bk wr w.heap.size 9 boKeys
set_option maxRecDepth 100000 in
set_option maxHeartbeats 8000000 in
theorem bookings_c (w : World) (s : Nat) (K n : Nat) (hs : SB w s K) (hk : K ≤ 900000000000) (hn : n ≤ 1000) :
    Calls Tryd.prog 22 #[.pointer (some ⟨s, 0, none⟩), .int .i64 n] w (BookingsPost s K (min n 9) w) := by
  have hsw := hs.lt
  have hsb : s < w.heap.size + 1 := Nat.lt_succ_of_lt hsw
  obtain ⟨m, hm⟩ : ∃ m, min n 9 = m := ⟨_, rfl⟩
  have hm9 : m ≤ 9 := by omega
  have hmi : (m : Int) ≤ 9 := by omega
  have hmin : ∀ w : World, (Builtin.min_ #[3, 3] 3 #[.int .i64 n, .int .i64 9]).run Tryd.prog w = .ok (.int .i64 m) w := fun w => by rw [min2k, ← hm]; congr 2; omega
  rw [hm]
  clear hm
  go_enter Tryd.func22, Tryd.ntmps22
  go_wp2_with fail
  go_loopw [5, 15] (BgRel w s K m) (fun _ i _ => m - (intOf i).toNat)
  case atStart => exact ⟨0, [], by omega, by simp, rfl, World.ownsRow_nil _ _ _ _, fun p hp => (by cases hp), hs.alloc _, (G.refl _ _).alloc _, Bk.new w _ _⟩
  case round =>
    obtain ⟨k, l, hkm, hlk, rfl, hown, hl, hSB, hG, hB⟩ := hrel
    have HL := Lib.hid hl
    clear hl hs hmin
    by_cases hk2 : k < m
    · obtain ⟨key, hkey, hpa⟩ := boKeys_at k (by omega)
      have hrow : wr.cell? ⟨w.heap.size, k, none⟩ = some (.string key) := by rw [hB.cell]; exact hpa
      have hBl := hB.lt
      have hki : (k : Int) < (m : Int) := by omega
      clear hpa
      go_wp2_with fail
      refine (pick_c _ _ _ [0, 10, 10, 20, 25, 30, 100] _ _ _ (hSB.alloc _) (by omega) (by decide) (by decide) (Rd.newAt _ rfl rfl (by decide)) (hSB.newAt _ _ _ (Nat.le_refl _))).mono ?_; rintro e w3 ⟨f, rfl, hp, hSB3, hg⟩
      have hf0 : 0 ≤ f ∧ f ≤ 100 := by simp only [List.mem_cons, List.mem_nil_iff, or_false] at hp; omega
      obtain ⟨f0, f1⟩ := hf0
      have hown3 := OwnX.kept (OwnX.alloc hown (.cells _ 3)) hg hsb
      have hB3 := (hB.alloc (.cells _ 3)).grown hg (fun e => by have := Option.some.inj e; omega)
      have hG3 := (hG.alloc (.cells _ 3)).trans hg
      clear hown hB hG hSB hg hp
      clear hrow
      go_wp2_with fail
      refine (some_c _ _ _ [⟨#[109, 105, 110, 105]⟩, ⟨#[109, 105, 110, 105]⟩, ⟨#[109, 105, 100, 105]⟩, ⟨#[109, 97, 120, 105]⟩, ⟨#[98, 105, 103]⟩] _ _ _ (hSB3.alloc _) (by omega) (by decide) (by decide) (Rd.newAt _ rfl rfl (by decide)) (hSB3.newAt _ _ _ (Nat.le_refl _))).mono ?_; rintro e w4 ⟨cl, rfl, hp, hSB4, hg⟩
      have hcl := small_pick hp (by decide)
      have hown4 := OwnX.kept (OwnX.alloc hown3 (.cells _ 9)) hg hsb
      have hB4 := (hB3.alloc (.cells _ 9)).grown hg (fun e => by have := Option.some.inj e; omega)
      have hG4 := (hG3.alloc (.cells _ 9)).trans hg
      clear hown3 hB3 hG3 hSB3 hg hp
      go_wp2_with fail
      refine (pick_c _ _ _ [1, 5, 10, 10, 20, 100] _ _ _ (hSB4.alloc _) (by omega) (by decide) (by decide) (Rd.newAt _ rfl rfl (by decide)) (hSB4.newAt _ _ _ (Nat.le_refl _))).mono ?_; rintro e w5 ⟨t, rfl, hp, hSB5, hg⟩
      have ht0 : 0 ≤ t ∧ t ≤ 100 := by simp only [List.mem_cons, List.mem_nil_iff, or_false] at hp; omega
      obtain ⟨t0, t1⟩ := ht0
      have hown5 := OwnX.kept (OwnX.alloc hown4 (.cells _ 3)) hg hsb
      have hB5 := (hB4.alloc (.cells _ 3)).grown hg (fun e => by have := Option.some.inj e; omega)
      have hG5 := (hG4.alloc (.cells _ 3)).trans hg
      clear hown4 hB4 hG4 hSB4 hg hp
      obtain ⟨q, hq⟩ : ∃ q, min f 9 = q := ⟨_, rfl⟩
      have hmin2 : ∀ w : World, (Builtin.min_ #[3, 3] 3 #[.int .i64 f, .int .i64 9]).run Tryd.prog w = .ok (.int .i64 q) w := fun w => by rw [min2k, hq]
      have hq0 : 0 ≤ q ∧ q ≤ 9 := by omega
      obtain ⟨q0, q1⟩ := hq0
      clear hq
      go_wp2_with fail
      refine (range_c 0 q _ _ _ hSB5 (by omega) (by omega) (by omega) (by omega)).mono ?_; rintro e w6 ⟨d, rfl, d0, d1, hSB6, hg⟩
      have bd : Hid (bnd d) := Lib.hid (by unfold bnd; omega)
      have hown6 := OwnX.kept hown5 hg hsb
      have hB6 := hB5.grown hg (fun e => by have := Option.some.inj e; omega)
      have hG6 := hG5.trans hg
      clear hown5 hB5 hG5 hSB5 hg d0 d1 hmin2
      go_wp2_with fail
      refine (pick_c _ _ _ [0, 10, 50, 75, 90, 100] _ _ _ (hSB6.alloc _) (by omega) (by decide) (by decide) (Rd.newAt _ rfl rfl (by decide)) (hSB6.newAt _ _ _ (Nat.le_refl _))).mono ?_; rintro e w7 ⟨y, rfl, hp, hSB7, hg⟩
      have bm := Lib.hid (bnd_pick hp (by decide))
      have hown7 := OwnX.kept (OwnX.alloc hown6 (.cells _ 3)) hg hsb
      have hB7 := (hB6.alloc (.cells _ 3)).grown hg (fun e => by have := Option.some.inj e; omega)
      have hG7 := (hG6.alloc (.cells _ 3)).trans hg
      clear hown6 hB6 hG6 hSB6 hg hp
      have hsz := hG7.size
      have HRB : Hid (boB (key, cl, f, f + t, d, y)) := Lib.hid ⟨hkey, hcl, (by show bnd f; unfold bnd; omega), (by show bnd (f + t); unfold bnd; omega), bd.out, bm.out⟩
      have hownA := OwnX.alloc hown7 (.cells #[.string key, .string cl, .int .i64 f, .int .i64 (f + t), .int .i64 d, .int .i64 y] 96)
      go_wp2_with (at_builtin; refine wpList_plain rfl fun K' hK' => wp_append_x bo_rowOk _ _ rfl (w.heap.size + 1) u5 l rfl hownA w7.heap.size (key, cl, f, f + t, d, y) rfl (Bk.new w7 _ _) (by omega) (by have := hB7.lt; simp; omega) ?_; intro v8 w8 hown8 hgrow; refine hK' _ _ ?_)
      have hob := OwnX.low hown7
      go_roundw
      case rel => exact ⟨k + 1, l ++ [(key, cl, f, f + t, d, y)], by omega, by simp; omega, by go_num, hown8, HL.out.snoc HRB.out, ((hSB7.alloc _).own hgrow (fun r e => Nat.lt_of_lt_of_le hsb (hob r e))).le (by omega), (hG7.alloc _).other hgrow (fun r e => .inl (Nat.le_of_succ_le (hob r e))), (hB7.alloc _).grown hgrow (OwnX.ne hown7 (.inl (Nat.lt_succ_self _)))⟩
      case measure => simp [intOf]; omega
    · obtain rfl : k = m := by omega
      have hf := hown.2
      have hnk : ¬ ((k : Int) < (k : Int)) := by omega
      rcases hf with ⟨rfl, hn0⟩ | ⟨g, cap, cur, rfl, hbg, _, hnc, hmc, _, _⟩
      · clear hn0
        go_wp2_with fail
        go_ret
        exact bookings_fin hown HL.out hlk (hSB.le (by omega)) hG
      · by_cases h0 : l.length = 0
        · have h0i : ¬ ((0 : Int) < (l.length : Int)) := by omega
          clear h0
          go_wp2_with fail
          go_ret
          exact bookings_fin hown HL.out hlk (hSB.le (by omega)) hG
        · have h0i : ((0 : Int) < (l.length : Int)) := by omega
          have hsg : s < g := by omega
          have hgw : w.heap.size ≤ g := by omega
          clear h0
          go_wp2_with fail
          refine (flip_c _ _ _ _ hSB (by omega) (by omega)).mono ?_; rintro e w2 ⟨b, rfl, hSB2, hG2⟩
          have hown2 := OwnX.kept hown hG2 hsb
          have hG02 := hG.trans hG2
          clear hown hG hG2 hSB hB
          cases b with
          | false =>
            go_wp2_with fail
            go_ret
            exact bookings_fin hown2 HL.out hlk (hSB2.le (by omega)) hG02
          | true =>
            go_wp2_with fail
            refine (next_c _ _ _ _ hSB2 (by omega) (by omega)).mono ?_; rintro e w3 ⟨j, rfl, hj, hSB3, hG3⟩
            obtain ⟨j0, j1⟩ := hj
            obtain ⟨j, rfl⟩ := Int.eq_ofNat_of_zero_le j0
            have jl : j < l.length := by omega
            have jli : (j : Int) < (l.length : Int) := by omega
            clear j1
            have hown3 := OwnX.kept hown2 hG3 hsb
            have hG03 := hG02.trans hG3
            clear hown2 hG02 hG3 hSB2
            obtain ⟨p, hp⟩ : ∃ p, l[j]? = some p := ⟨_, List.getElem?_eq_getElem jl⟩
            have HP := Lib.hid hp
            have hpb := Lib.hid (HL.out p (List.mem_of_getElem? hp))
            clear hp
            go_wp2_with fail
            refine (next_c _ _ _ _ hSB3 (by omega) (by omega)).mono ?_; rintro e w4 ⟨t, rfl, ht, hSB4, hG4⟩
            have hown4 := OwnX.kept hown3 hG4 hsb
            have hG04 := hG03.trans hG4
            clear hown3 hG03 hG4 hSB3
            obtain ⟨t0, t1⟩ := ht
            rcases (show t = 0 ∨ t = 1 ∨ t = 2 ∨ t = 3 ∨ t = 4 by omega) with rfl | rfl | rfl | rfl | rfl
            · clear t0 t1
              go_wp2_with fail
              refine (some_c _ _ _ [⟨#[]⟩, ⟨#[65]⟩, ⟨#[98, 97]⟩, ⟨#[122, 122]⟩] _ _ _ (hSB4.alloc _) (by omega) (by decide) (by decide) (Rd.newAt _ rfl rfl (by decide)) (hSB4.newAt _ _ _ (Nat.le_refl _))).mono ?_; rintro e w5 ⟨r, rfl, hr, hSB5, hG5⟩
              have hrs := small_pick hr (by decide)
              have hown5 := OwnX.kept (OwnX.alloc hown4 _) hG5 hsb
              have hG05 := (hG04.alloc _).trans hG5
              clear hr hown4 hSB4 hG04 hG5
              have c0 := RdR.cell boC_sz (Rd.of_owns hown5) (G.refl _ _) HP.out 0 (.string p.1) rfl
              have f0 := ownsRow_free hown5 (j * 6 + 0)
              have hown6 := OwnX.set boC_sz hown5 HP.out (q := (r, p.2)) 0 (.string r) (by omega) rfl
              simp only [Nat.zero_add, Nat.add_zero] at c0 f0 hown6
              go_wp2_with fail
              go_ret
              exact bookings_fin (l := l.set j (r, p.2)) (by unfold OwnBo OwnX; rw [List.length_set]; exact hown6) (HL.out.set (r := (r, p.2)) ⟨hrs, hpb.out.2⟩ j) (by rw [List.length_set]; exact hlk) ((hSB5.setCell (p := ⟨g, j * 6, none⟩) hsg _).le (by omega)) (hG05.setCell (p := ⟨g, j * 6, none⟩) (.inl hgw) _)
            · clear t0 t1
              go_wp2_with fail
              refine (some_c _ _ _ [⟨#[110, 111, 110, 101]⟩, ⟨#[]⟩, ⟨#[65]⟩] _ _ _ (hSB4.alloc _) (by omega) (by decide) (by decide) (Rd.newAt _ rfl rfl (by decide)) (hSB4.newAt _ _ _ (Nat.le_refl _))).mono ?_; rintro e w5 ⟨r, rfl, hr, hSB5, hG5⟩
              have hrs := small_pick hr (by decide)
              have hown5 := OwnX.kept (OwnX.alloc hown4 _) hG5 hsb
              have hG05 := (hG04.alloc _).trans hG5
              clear hr hown4 hSB4 hG04 hG5
              have c0 := RdR.cell boC_sz (Rd.of_owns hown5) (G.refl _ _) HP.out 1 (.string p.2.1) rfl
              have f0 := ownsRow_free hown5 (j * 6 + 1)
              have hown6 := OwnX.set boC_sz hown5 HP.out (q := (p.1, r, p.2.2)) 1 (.string r) (by omega) rfl
              simp only [Nat.zero_add, Nat.add_zero] at c0 f0 hown6
              go_wp2_with fail
              go_ret
              exact bookings_fin (l := l.set j (p.1, r, p.2.2)) (by unfold OwnBo OwnX; rw [List.length_set]; exact hown6) (HL.out.set (r := (p.1, r, p.2.2)) ⟨hpb.out.1, hrs, hpb.out.2.2⟩ j) (by rw [List.length_set]; exact hlk) ((hSB5.setCell (p := ⟨g, j * 6 + 1, none⟩) hsg _).le (by omega)) (hG05.setCell (p := ⟨g, j * 6 + 1, none⟩) (.inl hgw) _)
            · clear t0 t1
              go_wp2_with fail
              refine (odd_c _ _ _ _ _ hSB4 (by omega) (by omega) (by omega) (by omega) (by omega)).mono ?_; rintro e w5 ⟨y1, rfl, y10, y11, hSB5, hG5⟩
              have hown5 := OwnX.kept hown4 hG5 hsb
              have hG05 := hG04.trans hG5
              clear hown4 hSB4 hG04 hG5
              go_wp2_with fail
              refine (odd_c _ _ _ _ _ hSB5 (by omega) (by omega) (by omega) (by omega) (by omega)).mono ?_; rintro e w6 ⟨y2, rfl, y20, y21, hSB6, hG6⟩
              have hown6 := OwnX.kept hown5 hG6 hsb
              have hG06 := hG05.trans hG6
              clear hown5 hSB5 hG05 hG6
              have c2 := RdR.cell boC_sz (Rd.of_owns hown6) (G.refl _ _) HP.out 2 (.int .i64 p.2.2.1) rfl
              have c3 := RdR.cell boC_sz (Rd.of_owns hown6) (G.refl _ _) HP.out 3 (.int .i64 p.2.2.2.1) rfl
              have f2 := ownsRow_free hown6 (j * 6 + 2)
              have f3 := ownsRow_free hown6 (j * 6 + 3)
              have hown7 := OwnX.set boC_sz hown6 HP.out (q := (p.1, p.2.1, y1, p.2.2.2)) 2 (.int .i64 y1) (by omega) rfl
              have hown8 := OwnX.set boC_sz hown7 (show (l.set j (p.1, p.2.1, y1, p.2.2.2))[j]? = some (p.1, p.2.1, y1, p.2.2.2) by rw [List.getElem?_set_self jl]) (q := (p.1, p.2.1, y1, y2, p.2.2.2.2)) 3 (.int .i64 y2) (by omega) rfl
              rw [List.set_set] at hown8
              simp only [Nat.zero_add] at c2 c3
              clear hown7
              go_wp2_with fail
              go_ret
              exact bookings_fin (l := l.set j (p.1, p.2.1, y1, y2, p.2.2.2.2)) (by unfold OwnBo OwnX; rw [List.length_set]; exact hown8) (HL.out.set (r := (p.1, p.2.1, y1, y2, p.2.2.2.2)) ⟨hpb.out.1, hpb.out.2.1, ⟨y10, y11⟩, ⟨y20, y21⟩, hpb.out.2.2.2.2⟩ j) (by rw [List.length_set]; exact hlk) (((hSB6.setCell (p := ⟨g, j * 6 + 2, none⟩) hsg _).setCell (p := ⟨g, j * 6 + 3, none⟩) hsg _).le (by omega)) ((hG06.setCell (p := ⟨g, j * 6 + 2, none⟩) (.inl hgw) _).setCell (p := ⟨g, j * 6 + 3, none⟩) (.inl hgw) _)
            · clear t0 t1
              go_wp2_with fail
              refine (odd_c _ _ _ _ _ hSB4 (by omega) (by omega) (by omega) (by omega) (by omega)).mono ?_; rintro e w5 ⟨y1, rfl, y10, y11, hSB5, hG5⟩
              have hown5 := OwnX.kept hown4 hG5 hsb
              have hG05 := hG04.trans hG5
              clear hown4 hSB4 hG04 hG5
              have c0 := RdR.cell boC_sz (Rd.of_owns hown5) (G.refl _ _) HP.out 4 (.int .i64 p.2.2.2.2.1) rfl
              have f0 := ownsRow_free hown5 (j * 6 + 4)
              have hown6 := OwnX.set boC_sz hown5 HP.out (q := (p.1, p.2.1, p.2.2.1, p.2.2.2.1, y1, p.2.2.2.2.2)) 4 (.int .i64 y1) (by omega) rfl
              simp only [Nat.zero_add] at c0
              go_wp2_with fail
              go_ret
              exact bookings_fin (l := l.set j (p.1, p.2.1, p.2.2.1, p.2.2.2.1, y1, p.2.2.2.2.2)) (by unfold OwnBo OwnX; rw [List.length_set]; exact hown6) (HL.out.set (r := (p.1, p.2.1, p.2.2.1, p.2.2.2.1, y1, p.2.2.2.2.2)) ⟨hpb.out.1, hpb.out.2.1, hpb.out.2.2.1, hpb.out.2.2.2.1, ⟨y10, y11⟩, hpb.out.2.2.2.2.2⟩ j) (by rw [List.length_set]; exact hlk) ((hSB5.setCell (p := ⟨g, j * 6 + 4, none⟩) hsg _).le (by omega)) (hG05.setCell (p := ⟨g, j * 6 + 4, none⟩) (.inl hgw) _)
            · clear t0 t1
              go_wp2_with fail
              refine (odd_c _ _ _ _ _ hSB4 (by omega) (by omega) (by omega) (by omega) (by omega)).mono ?_; rintro e w5 ⟨y1, rfl, y10, y11, hSB5, hG5⟩
              have hown5 := OwnX.kept hown4 hG5 hsb
              have hG05 := hG04.trans hG5
              clear hown4 hSB4 hG04 hG5
              have c0 := RdR.cell boC_sz (Rd.of_owns hown5) (G.refl _ _) HP.out 5 (.int .i64 p.2.2.2.2.2) rfl
              have f0 := ownsRow_free hown5 (j * 6 + 5)
              have hown6 := OwnX.set boC_sz hown5 HP.out (q := (p.1, p.2.1, p.2.2.1, p.2.2.2.1, p.2.2.2.2.1, y1)) 5 (.int .i64 y1) (by omega) rfl
              simp only [Nat.zero_add] at c0
              go_wp2_with fail
              go_ret
              exact bookings_fin (l := l.set j (p.1, p.2.1, p.2.2.1, p.2.2.2.1, p.2.2.2.2.1, y1)) (by unfold OwnBo OwnX; rw [List.length_set]; exact hown6) (HL.out.set (r := (p.1, p.2.1, p.2.2.1, p.2.2.2.1, p.2.2.2.2.1, y1)) ⟨hpb.out.1, hpb.out.2.1, hpb.out.2.2.1, hpb.out.2.2.2.1, hpb.out.2.2.2.2.1, ⟨y10, y11⟩⟩ j) (by rw [List.length_set]; exact hlk) ((hSB5.setCell (p := ⟨g, j * 6 + 5, none⟩) hsg _).le (by omega)) (hG05.setCell (p := ⟨g, j * 6 + 5, none⟩) (.inl hgw) _)
end Go.Proofs.YtbddcbbjmgepnaaDoor

/- The time of a hire: Days, begun, TimeFault, DaysOf. -/
namespace Go.Proofs.YtbddcbbjmgepnaaDoor
open Go.RowKit

def tE (a z : Int) : Int := if 0 ≤ a ∧ a < z ∧ z ≤ 5761439 then (if 172800 < z - a then 2 else 0) else 1
def tN (a z : Int) : Int := if tE a z = 0 then (z - a + 1439) / 1440 else 0
set_option maxRecDepth 100000 in
theorem begun_c (m : Int) (w : World) (h0 : 0 ≤ m) (h1 : m ≤ 5761439) : Calls Tryd.prog 60 #[.int .i64 m, .int .i64 1440] w fun e w' => e = .returned (.int .i64 ((m + 1439) / 1440)) ∧ w = w' := by
  have HF : Hid ((m + 1440 - 1) / 1440 = (m + 1439) / 1440) := Lib.hid (by omega)
  go_enter Tryd.func60, Tryd.ntmps60
  go_wp2_with fail
  go_ret
  exact ⟨ret_int HF.out, rfl⟩
set_option maxRecDepth 100000 in
set_option maxHeartbeats 2000000 in
theorem days_c (a z : Int) (w : World) (ha : bnd a) (hz : bnd z) : Calls Tryd.prog 45 #[.agg #[.int .i64 a, .int .i64 z]] w fun e w' => e = .returned (.tuple #[.int .i64 (tN a z), .int .i64 (tE a z)]) ∧ G w w' none := by
  unfold bnd at ha hz
  have hG : G w (w.alloc (.cells #[.int .i64 a, .int .i64 z] 27)) none := (G.refl w none).alloc _
  have hB := Bk.new w 27 #[.int .i64 a, .int .i64 z]
  by_cases h0 : 0 ≤ a ∧ a < z ∧ z < 5761440
  · obtain ⟨h1, h2, h3⟩ := h0
    have HI := Lib.hid (timB_yes ⟨h1, h2, h3⟩)
    have HT : Hid (tE a z = if 172800 < z - a then 2 else 0) := Lib.hid (by rw [tE, if_pos ⟨h1, h2, by omega⟩])
    have HD : Hid (tE a z = 0 → tN a z = (z - a + 1439) / 1440) := Lib.hid fun h => by rw [tN, if_pos h]
    have HD2 : Hid (tE a z ≠ 0 → tN a z = 0) := Lib.hid fun h => by rw [tN, if_neg h]
    go_enter Tryd.func45, Tryd.ntmps45
    go_wp2_with (refine wpList_load_row rfl 27 _ rfl w.heap.size rfl 27 #[.int .i64 a, .int .i64 z] (0, 0) _ hB Tryd.underlying27 rfl (wi_info a z) ?_)
    refine (isTime_c a z _).mono ?_; rintro e w1 ⟨rfl, hG1⟩
    rw [HI.out]
    have hB1 := hB.quiet hG1
    have hG01 := hG.trans hG1
    have c0 : w1.cell? ⟨w.heap.size, 0, none⟩ = some (.int .i64 a) := hB1.cell 0
    have c1 : w1.cell? ⟨w.heap.size, 1, none⟩ = some (.int .i64 z) := hB1.cell 1
    clear hB hG hG1
    rcases (show 172800 < z - a ∨ z - a ≤ 172800 by omega) with h4 | h4
    · have HE : Hid (tE a z = 2) := Lib.hid (by rw [HT.out, if_pos h4])
      have HN : Hid (tN a z = 0) := Lib.hid (HD2.out (by rw [HE.out]; decide))
      have h5 : 120 < (z - a + 1439) / 1440 := by omega
      go_wp2_with fail
      refine (begun_c _ _ (by omega) (by omega)).mono ?_; rintro e w' ⟨rfl, rfl⟩
      generalize (z - a + 1439) / 1440 = N at h5 ⊢
      go_wp2_with fail
      go_ret2
      exact ⟨by rw [HE.out, HN.out]; rfl, hG01⟩
    · have HE : Hid (tE a z = 0) := Lib.hid (by rw [HT.out, if_neg (by omega)])
      have HN : Hid (tN a z = (z - a + 1439) / 1440) := Lib.hid (HD.out HE.out)
      have h5 : (z - a + 1439) / 1440 ≤ 120 := by omega
      go_wp2_with fail
      refine (begun_c _ _ (by omega) (by omega)).mono ?_; rintro e w' ⟨rfl, rfl⟩
      generalize (z - a + 1439) / 1440 = N at h5 HN ⊢
      go_wp2_with fail
      go_ret2
      exact ⟨by rw [HE.out, HN.out]; rfl, hG01⟩
  · have HE : Hid (tE a z = 1) := Lib.hid (by rw [tE, if_neg (by omega)])
    have HN : Hid (tN a z = 0) := Lib.hid (by rw [tN, if_neg (by rw [HE.out]; decide)])
    have HI := Lib.hid (timB_no h0)
    clear h0
    go_enter Tryd.func45, Tryd.ntmps45
    go_wp2_with (refine wpList_load_row rfl 27 _ rfl w.heap.size rfl 27 #[.int .i64 a, .int .i64 z] (0, 0) _ hB Tryd.underlying27 rfl (wi_info a z) ?_)
    refine (isTime_c a z _).mono ?_; rintro e w1 ⟨rfl, hG1⟩
    rw [HI.out]
    go_wp2_with fail
    go_ret2
    exact ⟨by rw [HE.out, HN.out]; rfl, hG.trans hG1⟩
theorem tE_zero {a z : Int} (h : tE a z = 0) : 0 ≤ a ∧ a < z ∧ z ≤ 5761439 ∧ z - a ≤ 172800 := by
  unfold tE at h
  split at h
  · split at h
    · omega
    · omega
  · omega
def DofRel (w : World) (a z : Int) (s3 s4 : Value) (wr : World) : Prop :=
  ∃ j : Nat, s3 = .int .i64 j ∧ s4 = .int .i64 (a + 1440 * j) ∧ (j : Int) ≤ (z - a + 1439) / 1440 ∧ Bk wr w.heap.size 27 #[.int .i64 a, .int .i64 z] ∧ G w wr none
end Go.Proofs.YtbddcbbjmgepnaaDoor

/- Hires: readings, legs; checkReading, checkBegin, isOut, checkEnd. -/
namespace Go.Proofs.YtbddcbbjmgepnaaDoor
open Go.RowKit

/-- A reading: at, station, meter, fuel. -/
abbrev Rg := Int × ByteArray × Int × Int
def rgC (x : Rg) : Array Value := #[.int .i64 x.1, .string x.2.1, .int .i64 x.2.2.1, .int .i64 x.2.2.2]
theorem rg_info (x : Rg) : (Tryd.prog.info? 105).map (·.size) = some (rgC x).size := (by kernel_rfl : (Tryd.prog.info? 105).map (·.size) = some 4)
def rgE (x : Rg) : Int := if momB x.1 = false then 1 else if keyB x.2.1 = false then 5 else if inB x.2.2.1 0 999999 = false then 1 else if inB x.2.2.2 0 8 = false then 1 else 0
/-- A leg: vehicle, out, in. -/
abbrev Lg := ByteArray × Rg × Rg
def lgC (x : Lg) : Array Value := #[.string x.1, .int .i64 x.2.1.1, .string x.2.1.2.1, .int .i64 x.2.1.2.2.1, .int .i64 x.2.1.2.2.2, .int .i64 x.2.2.1, .string x.2.2.2.1, .int .i64 x.2.2.2.2.1, .int .i64 x.2.2.2.2.2]
theorem lgC_sz (x : Lg) : (lgC x).size = 9 := rfl
theorem lg_info (x : Lg) : (Tryd.prog.info? 118).map (·.size) = some (lgC x).size := (by kernel_rfl : (Tryd.prog.info? 118).map (·.size) = some 9)
def lgB (x : Lg) : Prop := Small x.1 ∧ Small x.2.1.2.1 ∧ Small x.2.2.2.1
def LgOk (l : List Lg) : Prop := ∀ x ∈ l, lgB x
/-- A hire's head: key, driver, from, to; the cells of a hire. -/
abbrev Hh := ByteArray × ByteArray × Int × Int
def hiC (h : Hh) (v : Value) : Array Value := #[.string h.1, .string h.2.1, .int .i64 h.2.2.1, .int .i64 h.2.2.2, v]
theorem hi_info (h : Hh) (v : Value) : (Tryd.prog.info? 101).map (·.size) = some (hiC h v).size := (by kernel_rfl : (Tryd.prog.info? 101).map (·.size) = some 5)
def noIn : Rg := (-1, ⟨#[]⟩, 0, 0)
def beE (f : Int) (b : Option Lg) (x : Lg) : Int := match b with
  | none => if x.2.1.1 = f then 0 else 7
  | some y => if x.2.1.1 = y.2.2.1 then (if x.1 = y.1 then 16 else if x.2.1.2.1 = y.2.2.2.1 then 0 else 8) else 7
def enE (last : Bool) (x : Lg) : Int := if x.2.2.1 = -1 then (if x.2.2 = noIn then (if last = true then 0 else 11) else 3) else if rgE x.2.2 = 0 then (if x.2.2.1 ≤ x.2.1.1 then 7 else 0) else rgE x.2.2
def lgE (f : Int) (b : Option Lg) (last : Bool) (x : Lg) : Int := if keyB x.1 = false then 5 else if rgE x.2.1 = 0 then (if beE f b x = 0 then enE last x else beE f b x) else rgE x.2.1
def lsE (f : Int) : Option Lg → List Lg → Int
  | _, [] => 0
  | b, x :: r => if lgE f b r.isEmpty x = 0 then lsE f (some x) r else lgE f b r.isEmpty x
def hiE (h : Hh) (l : List Lg) : Int := if keyB h.1 = false then 5 else if keyB h.2.1 = false then 5 else if tE h.2.2.1 h.2.2.2 = 0 then (if l.length = 0 then 3 else if 20 < l.length then 2 else lsE h.2.2.1 none l) else tE h.2.2.1 h.2.2.2
theorem Bk.part {w : World} {g : Nat} {T : TypeId} {cs : Array Value} (h : Bk w g T cs) (k : Nat) (ds : Array Value) (hd : ∀ j u, ds.toList[j]? = some u → cs[k + j]? = some u) : ∀ j u, ds.toList[j]? = some u → w.cell? ((⟨g, k, none⟩ : Addr).add j) = some u := fun j u hu => by
  rw [add_at, h.cell]
  exact hd j u hu
theorem lg_out (x : Lg) : ∀ j u, (#[.int .i64 x.2.1.1, .string x.2.1.2.1, .int .i64 x.2.1.2.2.1, .int .i64 x.2.1.2.2.2] : Array Value).toList[j]? = some u → (lgC x)[1 + j]? = some u := fun j u hu => by
  match j, hu with
  | 0, hu => exact hu
  | 1, hu => exact hu
  | 2, hu => exact hu
  | 3, hu => exact hu
  | n + 4, hu => simp at hu
theorem lg_in (x : Lg) : ∀ j u, (#[.int .i64 x.2.2.1, .string x.2.2.2.1, .int .i64 x.2.2.2.2.1, .int .i64 x.2.2.2.2.2] : Array Value).toList[j]? = some u → (lgC x)[5 + j]? = some u := fun j u hu => by
  match j, hu with
  | 0, hu => exact hu
  | 1, hu => exact hu
  | 2, hu => exact hu
  | 3, hu => exact hu
  | n + 4, hu => simp at hu
theorem lgRow {W w : World} {bb bo n cap : Nat} {l : List Lg} (h : RdR W 9 lgC (.slice (some ⟨bb, bo, none⟩) n cap) l) (hG : G W w none) {k : Nat} {p : Lg} (hp : l[k]? = some p) :
    ∀ j v, (lgC p).toList[j]? = some v → w.cell? ((⟨bb, bo + k * 9, none⟩ : Addr).add j) = some v := fun j v hv => by
  rw [add_at]
  exact RdR.cell lgC_sz h hG hp j v hv
theorem drop_empty {α : Type} (l : List α) (k : Nat) : (l.drop k).isEmpty = decide (l.length ≤ k) := by
  by_cases h : l.length ≤ k
  · rw [List.drop_eq_nil_of_le h, decide_eq_true h]; rfl
  · rw [decide_eq_false h]
    cases hd : l.drop k with
    | nil => have := List.drop_eq_nil_iff.1 hd; omega
    | cons _ _ => rfl
theorem toList_ext {a b : ByteArray} (h : a.toList = b.toList) : a = b := by
  rw [ByteArray.toList_eq, ByteArray.toList_eq] at h
  exact ByteArray.ext (Array.toList_inj.1 h)
theorem rg_neq (x y : Rg) (w : World) : (binOp .neq 105 (.agg #[.int .i64 x.1, .string x.2.1, .int .i64 x.2.2.1, .int .i64 x.2.2.2]) (.agg #[.int .i64 y.1, .string y.2.1, .int .i64 y.2.2.1, .int .i64 y.2.2.2])).run Tryd.prog w = .ok (.bool (!(decide (x = y)))) w := by
  obtain ⟨a, b, c, d⟩ := x
  obtain ⟨e, f, g, h⟩ := y
  have ht : Tryd.prog.underlying 105 = some (.struct (Tryd.prog.fieldsOf 105)) := by kernel_rfl
  have hp : Tryd.prog.stoodInHeld 105 = false := by kernel_rfl
  rw [run_neq_struct, run_equalIn_agg w 9999 105 _ _ ht hp]
  simp [Tryd.underlying105, Tryd.underlying3, Tryd.underlying9, go_sem]
  by_cases h1 : a = e
  · by_cases h2 : b = f
    · subst h2
      by_cases h3 : c = g <;> by_cases h4 : d = h <;> simp [h1, h3, h4]
    · have h2' : ¬ b.toList = f.toList := fun e => h2 (toList_ext e)
      simp [h1, h2, h2']
  · simp [h1]
set_option maxRecDepth 100000 in
set_option maxHeartbeats 2000000 in
theorem checkReading_c (x : Rg) (w : World) (hs : Small x.2.1) :
    Calls Tryd.prog 96 #[.agg (rgC x)] w fun e w' => e = .returned (.int .i64 (rgE x)) ∧ G w w' none := by
  have hG1 := (G.refl w none).alloc (.cells (rgC x) 105)
  unfold Small at hs
  obtain ⟨t, s, m, f⟩ := x
  simp only [rgC] at hG1 hs ⊢
  have HE : Hid (rgE (t, s, m, f) = if momB t = false then 1 else if keyB s = false then 5 else if inB m 0 999999 = false then 1 else if inB f 0 8 = false then 1 else 0) := Lib.hid rfl
  generalize rgE (t, s, m, f) = R at HE ⊢
  go_enter Tryd.func96, Tryd.ntmps96
  go_wp2_with fail
  refine (isMoment_c t _).mono ?_; rintro e w1 ⟨rfl, rfl⟩
  cases k1 : momB t with
  | false =>
    have HF : Hid (R = 1) := Lib.hid (by rw [HE.out, if_pos k1])
    clear k1
    go_wp2_with fail
    go_ret
    exact ⟨ret_int HF.out.symm, hG1⟩
  | true =>
    have HE : Hid (R = if keyB s = false then 5 else if inB m 0 999999 = false then 1 else if inB f 0 8 = false then 1 else 0) := Lib.hid (by rw [HE.out, if_neg (by simp [k1])])
    clear k1
    go_wp2_with fail
    refine (isKey_c s _ hs).mono ?_; rintro e w1 ⟨rfl, rfl⟩
    cases k2 : keyB s with
    | false =>
      have HF : Hid (R = 5) := Lib.hid (by rw [HE.out, if_pos k2])
      clear k2
      go_wp2_with fail
      go_ret
      exact ⟨ret_int HF.out.symm, hG1⟩
    | true =>
      have HE : Hid (R = if inB m 0 999999 = false then 1 else if inB f 0 8 = false then 1 else 0) := Lib.hid (by rw [HE.out, if_neg (by simp [k2])])
      clear k2
      go_wp2_with fail
      refine (within_c m 0 999999 _).mono ?_; rintro e w1 ⟨rfl, rfl⟩
      cases k3 : inB m 0 999999 with
      | false =>
        have HF : Hid (R = 1) := Lib.hid (by rw [HE.out, if_pos k3])
        clear k3
        go_wp2_with fail
        go_ret
        exact ⟨ret_int HF.out.symm, hG1⟩
      | true =>
        have HE : Hid (R = if inB f 0 8 = false then 1 else 0) := Lib.hid (by rw [HE.out, if_neg (by simp [k3])])
        clear k3
        go_wp2_with fail
        refine (within_c f 0 8 _).mono ?_; rintro e w1 ⟨rfl, rfl⟩
        cases k4 : inB f 0 8 with
        | false =>
          have HF : Hid (R = 1) := Lib.hid (by rw [HE.out, if_pos k4])
          clear k4
          go_wp2_with fail
          go_ret
          exact ⟨ret_int HF.out.symm, hG1⟩
        | true =>
          have HF : Hid (R = 0) := Lib.hid (by rw [HE.out, if_neg (by simp [k4])])
          clear k4
          go_wp2_with fail
          go_ret
          exact ⟨ret_int HF.out.symm, hG1⟩
set_option maxRecDepth 100000 in
theorem isOut_c (p : Lg) (w : World) : Calls Tryd.prog 113 #[.agg (lgC p)] w fun e w' => e = .returned (.bool (p.2.2.1 == -1)) ∧ G w w' none := by
  have hG1 := (G.refl w none).alloc (.cells (lgC p) 118)
  obtain ⟨p1, ⟨o1, o2, o3, o4⟩, i1, i2, i3, i4⟩ := p
  simp only [lgC] at hG1 ⊢
  go_enter Tryd.func113, Tryd.ntmps113
  go_wp2_with fail
  go_ret
  exact ⟨rfl, hG1⟩
set_option maxRecDepth 100000 in
set_option maxHeartbeats 4000000 in
theorem checkBegin_c (h : Hh) (v : Value) (l : List Lg) (k : Nat) (p : Lg) (w : World) (hr : RdR w 9 lgC v l) (hp : l[k]? = some p) (hn : l.length ≤ 1000) :
    Calls Tryd.prog 97 #[.agg (hiC h v), .int .i64 k] w fun e w' => e = .returned (.int .i64 (beE h.2.2.1 (prevAt l k) p)) ∧ G w w' none := by
  have hH := Bk.new w 101 (hiC h v)
  have hGH := (G.refl w none).alloc (.cells (hiC h v) 101)
  have HR := Lib.hid (hr.quiet hGH)
  obtain ⟨a, cap, rfl, hcap, hm⟩ := RdR.form hr
  clear hr
  have hk : k < l.length := (List.getElem?_eq_some_iff.1 hp).1
  obtain ⟨bb, bo, rfl, -, -⟩ := RdR.elem lgC_sz HR.out (G.refl _ none) hp
  have HW := Lib.hid (lgRow HR.out (G.refl _ none) hp)
  have HP := Lib.hid hp
  clear hp
  simp only [hiC] at hH hGH HR HW ⊢
  go_enter Tryd.func97, Tryd.ntmps97
  go_upto_if 13 with (refine wpList_load_at rfl 118 _ rfl ⟨bb, bo + k * 9, none⟩ rfl #[.string p.1, .int .i64 p.2.1.1, .string p.2.1.2.1, .int .i64 p.2.1.2.2.1, .int .i64 p.2.1.2.2.2, .int .i64 p.2.2.1, .string p.2.2.2.1, .int .i64 p.2.2.2.2.1, .int .i64 p.2.2.2.2.2] _ HW.out Tryd.underlying118 rfl (lg_info p) ?_)
  have hL : Bk ((w.alloc (.cells #[.string h.1, .string h.2.1, .int .i64 h.2.2.1, .int .i64 h.2.2.2, .slice (some ⟨bb, bo, none⟩) l.length cap] 101)).alloc (.cells #[.string p.1, .int .i64 p.2.1.1, .string p.2.1.2.1, .int .i64 p.2.1.2.2.1, .int .i64 p.2.1.2.2.2, .int .i64 p.2.2.1, .string p.2.2.2.1, .int .i64 p.2.2.2.2.1, .int .i64 p.2.2.2.2.2] 118)) (w.heap.size + 1) 118 (lgC p) := Bk.newAt (by simp) _ _
  have hG := hGH.alloc (.cells #[.string p.1, .int .i64 p.2.1.1, .string p.2.1.2.1, .int .i64 p.2.1.2.2.1, .int .i64 p.2.1.2.2.2, .int .i64 p.2.2.1, .string p.2.2.2.1, .int .i64 p.2.2.2.2.1, .int .i64 p.2.2.2.2.2] 118)
  have hH := hH.alloc (.cells #[.string p.1, .int .i64 p.2.1.1, .string p.2.1.2.1, .int .i64 p.2.1.2.2.1, .int .i64 p.2.1.2.2.2, .int .i64 p.2.2.1, .string p.2.2.2.1, .int .i64 p.2.2.2.2.1, .int .i64 p.2.2.2.2.2] 118)
  have HR := Lib.hid (HR.out.quiet ((G.refl _ none).alloc (.cells #[.string p.1, .int .i64 p.2.1.1, .string p.2.1.2.1, .int .i64 p.2.1.2.2.1, .int .i64 p.2.1.2.2.2, .int .i64 p.2.2.1, .string p.2.2.2.1, .int .i64 p.2.2.2.2.1, .int .i64 p.2.2.2.2.2] 118)))
  clear HW hGH
  generalize (w.alloc (.cells #[.string h.1, .string h.2.1, .int .i64 h.2.2.1, .int .i64 h.2.2.2, .slice (some ⟨bb, bo, none⟩) l.length cap] 101)).alloc (.cells #[.string p.1, .int .i64 p.2.1.1, .string p.2.1.2.1, .int .i64 p.2.1.2.2.1, .int .i64 p.2.1.2.2.2, .int .i64 p.2.2.1, .string p.2.2.2.1, .int .i64 p.2.2.2.2.1, .int .i64 p.2.2.2.2.2] 118) = w2 at hL hG hH HR ⊢
  have c1 : w2.cell? ⟨w.heap.size + 1, 1, none⟩ = some (.int .i64 p.2.1.1) := hL.cell 1
  have d2 : w2.cell? ⟨w.heap.size, 2, none⟩ = some (.int .i64 h.2.2.1) := hH.cell 2
  cases k with
  | zero =>
    by_cases hq : p.2.1.1 = h.2.2.1
    · have HF : Hid (beE h.2.2.1 (prevAt l 0) p = 0) := Lib.hid (if_pos hq)
      go_wp2_with fail
      go_ret
      exact ⟨ret_int HF.out.symm, hG⟩
    · have HF : Hid (beE h.2.2.1 (prevAt l 0) p = 7) := Lib.hid (if_neg hq)
      go_wp2_with fail
      go_ret
      exact ⟨ret_int HF.out.symm, hG⟩
  | succ m =>
    obtain ⟨q, hq2⟩ : ∃ q, l[m]? = some q := ⟨_, List.getElem?_eq_getElem (by omega)⟩
    have HA : Hid (beE h.2.2.1 (prevAt l (m + 1)) p = if p.2.1.1 = q.2.2.1 then (if p.1 = q.1 then 16 else if p.2.1.2.1 = q.2.2.2.1 then 0 else 8) else 7) := Lib.hid (by rw [prevAt_succ l m q hq2]; rfl)
    have hsub : IntKind.i64.wrap (((m + 1 : Nat) : Int) - 1) = (m : Int) := by rw [show ((m + 1 : Nat) : Int) - 1 = (m : Int) by omega]; rw [IntKind.wrap_i64]; omega
    have hsub2 : IntKind.i64.wrap (m : Int) = (m : Int) := by rw [IntKind.wrap_i64]; omega
    have hsub3 : IntKind.i64.wrap ((m : Int) + 1 - 1) = (m : Int) := by rw [IntKind.wrap_i64]; omega
    have hm0 : (0 : Int) ≤ (m : Int) := Int.natCast_nonneg m
    have hml : (m : Int) < (l.length : Int) := by omega
    have hne : (((m + 1 : Nat) : Int) == 0) = false := by simp; omega
    have hne2 : ((m : Int) + 1 == 0) = false := by simp; omega
    have HW := Lib.hid (lgRow HR.out (G.refl _ none) hq2)
    have d4 : w2.cell? ⟨w.heap.size, 4, none⟩ = some (.slice (some ⟨bb, bo, none⟩) l.length cap) := hH.cell 4
    obtain ⟨B, hB⟩ : ∃ B, beE h.2.2.1 (prevAt l (m + 1)) p = B := ⟨_, rfl⟩
    rw [hB] at HA
    have HBB := Lib.hid hB
    clear hB hq2
    go_upto_region 7 with (refine wpList_load_at rfl 118 _ rfl ⟨bb, bo + m * 9, none⟩ rfl #[.string q.1, .int .i64 q.2.1.1, .string q.2.1.2.1, .int .i64 q.2.1.2.2.1, .int .i64 q.2.1.2.2.2, .int .i64 q.2.2.1, .string q.2.2.2.1, .int .i64 q.2.2.2.2.1, .int .i64 q.2.2.2.2.2] _ HW.out Tryd.underlying118 rfl (lg_info q) ?_)
    have hQ := Bk.new w2 118 (lgC q)
    have hG := hG.alloc (.cells (lgC q) 118)
    have hL := hL.alloc (.cells (lgC q) 118)
    rw [show #[.string q.1, .int .i64 q.2.1.1, .string q.2.1.2.1, .int .i64 q.2.1.2.2.1, .int .i64 q.2.1.2.2.2, .int .i64 q.2.2.1, .string q.2.2.2.1, .int .i64 q.2.2.2.2.1, .int .i64 q.2.2.2.2.2] = lgC q from rfl]
    generalize w2.alloc (.cells (lgC q) 118) = w3 at hQ hG hL ⊢
    generalize w2.heap.size = g at hQ ⊢
    have c0 : w3.cell? ⟨w.heap.size + 1, 0, none⟩ = some (.string p.1) := hL.cell 0
    have c1 : w3.cell? ⟨w.heap.size + 1, 1, none⟩ = some (.int .i64 p.2.1.1) := hL.cell 1
    have c2 : w3.cell? ⟨w.heap.size + 1, 2, none⟩ = some (.string p.2.1.2.1) := hL.cell 2
    have q0 : w3.cell? ⟨g, 0, none⟩ = some (.string q.1) := hQ.cell 0
    have q5 : w3.cell? ⟨g, 5, none⟩ = some (.int .i64 q.2.2.1) := hQ.cell 5
    have q6 : w3.cell? ⟨g, 6, none⟩ = some (.string q.2.2.2.1) := hQ.cell 6
    clear hL hQ hH HR d2 d4
    by_cases k1 : p.2.1.1 = q.2.2.1
    · have HA : Hid (B = if p.1 = q.1 then 16 else if p.2.1.2.1 = q.2.2.2.1 then 0 else 8) := Lib.hid (by rw [HA.out, if_pos k1])
      have k1' : (p.2.1.1 != q.2.2.1) = false := by simpa using k1
      clear k1
      by_cases k2 : p.1 = q.1
      · have HF : Hid (B = 16) := Lib.hid (by rw [HA.out, if_pos k2])
        have k2' : (p.1.toList == q.1.toList) = true := by rw [k2]; simp
        clear k2
        go_wp2_with fail
        go_ret
        exact ⟨ret_int (by rw [HBB.out, HF.out]), hG⟩
      · have HA : Hid (B = if p.2.1.2.1 = q.2.2.2.1 then 0 else 8) := Lib.hid (by rw [HA.out, if_neg k2])
        have k2' : (p.1.toList == q.1.toList) = false := by simpa using fun e => k2 (toList_ext e)
        clear k2
        by_cases k3 : p.2.1.2.1 = q.2.2.2.1
        · have HF : Hid (B = 0) := Lib.hid (by rw [HA.out, if_pos k3])
          have k3' : (p.2.1.2.1.toList == q.2.2.2.1.toList) = true := by rw [k3]; simp
          have k3n : (p.2.1.2.1.toList != q.2.2.2.1.toList) = false := by rw [k3]; simp
          clear k3
          go_wp2_with fail
          go_ret
          exact ⟨ret_int (by rw [HBB.out, HF.out]), hG⟩
        · have HF : Hid (B = 8) := Lib.hid (by rw [HA.out, if_neg k3])
          have k3' : (p.2.1.2.1.toList == q.2.2.2.1.toList) = false := by simpa using fun e => k3 (toList_ext e)
          have k3n : (p.2.1.2.1.toList != q.2.2.2.1.toList) = true := by simpa using fun e => k3 (toList_ext e)
          clear k3
          go_wp2_with fail
          go_ret
          exact ⟨ret_int (by rw [HBB.out, HF.out]), hG⟩
    · have HF : Hid (B = 7) := Lib.hid (by rw [HA.out, if_neg k1])
      have k1' : (p.2.1.1 != q.2.2.1) = true := by simpa using k1
      clear k1
      go_wp2_with fail
      go_ret
      exact ⟨ret_int (by rw [HBB.out, HF.out]), hG⟩
set_option maxRecDepth 100000 in
set_option maxHeartbeats 4000000 in
theorem checkEnd_c (h : Hh) (v : Value) (l : List Lg) (k : Nat) (p : Lg) (w : World) (hr : RdR w 9 lgC v l) (hp : l[k]? = some p) (hs : Small p.2.2.2.1) (hn : l.length ≤ 1000) :
    Calls Tryd.prog 98 #[.agg (hiC h v), .int .i64 k] w fun e w' => e = .returned (.int .i64 (enE (l.drop (k + 1)).isEmpty p)) ∧ G w w' none := by
  have hH := Bk.new w 101 (hiC h v)
  have hGH := (G.refl w none).alloc (.cells (hiC h v) 101)
  have HR := Lib.hid (hr.quiet hGH)
  obtain ⟨a, cap, rfl, hcap, hm⟩ := RdR.form hr
  clear hr
  have hk : k < l.length := (List.getElem?_eq_some_iff.1 hp).1
  have hki : (k : Int) < (l.length : Int) := by omega
  obtain ⟨bb, bo, rfl, -, -⟩ := RdR.elem lgC_sz HR.out (G.refl _ none) hp
  have HW := Lib.hid (lgRow HR.out (G.refl _ none) hp)
  clear hp
  have HLA : Hid ((l.drop (k + 1)).isEmpty = decide (l.length ≤ k + 1)) := Lib.hid (drop_empty l (k + 1))
  obtain ⟨E, hE⟩ : ∃ E, enE (l.drop (k + 1)).isEmpty p = E := ⟨_, rfl⟩
  have HE : Hid (E = if p.2.2.1 = -1 then (if p.2.2 = noIn then (if decide (l.length ≤ k + 1) = true then 0 else 11) else 3) else if rgE p.2.2 = 0 then (if p.2.2.1 ≤ p.2.1.1 then 7 else 0) else rgE p.2.2) := Lib.hid (by rw [← hE, HLA.out]; rfl)
  rw [hE]
  clear hE
  simp only [hiC] at hH hGH HR HW ⊢
  go_enter Tryd.func98, Tryd.ntmps98
  go_upto_region 2 with (refine wpList_load_at rfl 118 _ rfl ⟨bb, bo + k * 9, none⟩ rfl #[.string p.1, .int .i64 p.2.1.1, .string p.2.1.2.1, .int .i64 p.2.1.2.2.1, .int .i64 p.2.1.2.2.2, .int .i64 p.2.2.1, .string p.2.2.2.1, .int .i64 p.2.2.2.2.1, .int .i64 p.2.2.2.2.2] _ HW.out Tryd.underlying118 rfl (lg_info p) ?_)
  have hL : Bk ((w.alloc (.cells #[.string h.1, .string h.2.1, .int .i64 h.2.2.1, .int .i64 h.2.2.2, .slice (some ⟨bb, bo, none⟩) l.length cap] 101)).alloc (.cells #[.string p.1, .int .i64 p.2.1.1, .string p.2.1.2.1, .int .i64 p.2.1.2.2.1, .int .i64 p.2.1.2.2.2, .int .i64 p.2.2.1, .string p.2.2.2.1, .int .i64 p.2.2.2.2.1, .int .i64 p.2.2.2.2.2] 118)) (w.heap.size + 1) 118 (lgC p) := Bk.newAt (by simp) _ _
  have hG := hGH.alloc (.cells #[.string p.1, .int .i64 p.2.1.1, .string p.2.1.2.1, .int .i64 p.2.1.2.2.1, .int .i64 p.2.1.2.2.2, .int .i64 p.2.2.1, .string p.2.2.2.1, .int .i64 p.2.2.2.2.1, .int .i64 p.2.2.2.2.2] 118)
  have hH := hH.alloc (.cells #[.string p.1, .int .i64 p.2.1.1, .string p.2.1.2.1, .int .i64 p.2.1.2.2.1, .int .i64 p.2.1.2.2.2, .int .i64 p.2.2.1, .string p.2.2.2.1, .int .i64 p.2.2.2.2.1, .int .i64 p.2.2.2.2.2] 118)
  clear HW hGH HR
  generalize (w.alloc (.cells #[.string h.1, .string h.2.1, .int .i64 h.2.2.1, .int .i64 h.2.2.2, .slice (some ⟨bb, bo, none⟩) l.length cap] 101)).alloc (.cells #[.string p.1, .int .i64 p.2.1.1, .string p.2.1.2.1, .int .i64 p.2.1.2.2.1, .int .i64 p.2.1.2.2.2, .int .i64 p.2.2.1, .string p.2.2.2.1, .int .i64 p.2.2.2.2.1, .int .i64 p.2.2.2.2.2] 118) = w2 at hL hG hH ⊢
  go_wp2_with (refine wpList_load_row rfl 118 _ rfl (w.heap.size + 1) rfl 118 #[.string p.1, .int .i64 p.2.1.1, .string p.2.1.2.1, .int .i64 p.2.1.2.2.1, .int .i64 p.2.1.2.2.2, .int .i64 p.2.2.1, .string p.2.2.2.1, .int .i64 p.2.2.2.2.1, .int .i64 p.2.2.2.2.2] (0, 0) _ hL Tryd.underlying118 rfl (lg_info p) ?_)
  refine (isOut_c p _).mono ?_; rintro e w3 ⟨rfl, hG3⟩
  have hL := hL.quiet hG3
  have hH := hH.quiet hG3
  have hG := hG.trans hG3
  clear hG3
  have HP := Lib.hid (hL.part 5 #[.int .i64 p.2.2.1, .string p.2.2.2.1, .int .i64 p.2.2.2.2.1, .int .i64 p.2.2.2.2.2] (lg_in p))
  have c1 : w3.cell? ⟨w.heap.size + 1, 1, none⟩ = some (.int .i64 p.2.1.1) := hL.cell 1
  have c5 : w3.cell? ⟨w.heap.size + 1, 5, none⟩ = some (.int .i64 p.2.2.1) := hL.cell 5
  have d4 : w3.cell? ⟨w.heap.size, 4, none⟩ = some (.slice (some ⟨bb, bo, none⟩) l.length cap) := hH.cell 4
  clear hH
  by_cases k1 : p.2.2.1 = -1
  · have k1' : (p.2.2.1 == -1) = true := by simpa using k1
    rw [k1']
    have HN := fun w : World => rg_neq p.2.2 noIn w
    by_cases k2 : p.2.2 = noIn
    · have HNN : Hid (∀ w : World, (binOp .neq 105 (.agg #[.int .i64 p.2.2.1, .string p.2.2.2.1, .int .i64 p.2.2.2.2.1, .int .i64 p.2.2.2.2.2]) (.agg #[.int .i64 (-1), .string ⟨#[]⟩, .int .i64 0, .int .i64 0])).run Tryd.prog w = .ok (.bool false) w) := Lib.hid fun w => by
        have := HN w
        rw [decide_eq_true k2] at this
        exact this
      have hnn := HNN.out
      have HE : Hid (E = if decide (l.length ≤ k + 1) = true then 0 else 11) := Lib.hid (by rw [HE.out, if_pos k1, if_pos k2])
      have hl1 : IntKind.i64.wrap ((l.length : Int) - 1) = (l.length : Int) - 1 := by rw [IntKind.wrap_i64]; omega
      clear k1 k1' k2 HN HNN
      by_cases k3 : l.length ≤ k + 1
      · have HF : Hid (E = 0) := Lib.hid (by rw [HE.out, if_pos (decide_eq_true k3)])
        have k3' : ¬ ((k : Int) < (l.length : Int) - 1) := by omega
        clear k3
        go_wp2_with (refine wpList_load_at rfl 105 _ rfl ⟨w.heap.size + 1, 5, none⟩ rfl #[.int .i64 p.2.2.1, .string p.2.2.2.1, .int .i64 p.2.2.2.2.1, .int .i64 p.2.2.2.2.2] _ HP.out Tryd.underlying105 rfl (rg_info p.2.2) ?_)
        go_ret
        exact ⟨ret_int HF.out.symm, hG⟩
      · have HF : Hid (E = 11) := Lib.hid (by rw [HE.out, if_neg (by simpa using k3)])
        have k3' : (k : Int) < (l.length : Int) - 1 := by omega
        clear k3
        go_wp2_with (refine wpList_load_at rfl 105 _ rfl ⟨w.heap.size + 1, 5, none⟩ rfl #[.int .i64 p.2.2.1, .string p.2.2.2.1, .int .i64 p.2.2.2.2.1, .int .i64 p.2.2.2.2.2] _ HP.out Tryd.underlying105 rfl (rg_info p.2.2) ?_)
        go_ret
        exact ⟨ret_int HF.out.symm, hG⟩
    · have HNN : Hid (∀ w : World, (binOp .neq 105 (.agg #[.int .i64 p.2.2.1, .string p.2.2.2.1, .int .i64 p.2.2.2.2.1, .int .i64 p.2.2.2.2.2]) (.agg #[.int .i64 (-1), .string ⟨#[]⟩, .int .i64 0, .int .i64 0])).run Tryd.prog w = .ok (.bool true) w) := Lib.hid fun w => by
        have := HN w
        rw [decide_eq_false k2] at this
        exact this
      have hnn := HNN.out
      have HF : Hid (E = 3) := Lib.hid (by rw [HE.out, if_pos k1, if_neg k2])
      clear HE k1 k1' k2 HN HNN
      go_wp2_with (refine wpList_load_at rfl 105 _ rfl ⟨w.heap.size + 1, 5, none⟩ rfl #[.int .i64 p.2.2.1, .string p.2.2.2.1, .int .i64 p.2.2.2.2.1, .int .i64 p.2.2.2.2.2] _ HP.out Tryd.underlying105 rfl (rg_info p.2.2) ?_)
      go_ret
      exact ⟨ret_int HF.out.symm, hG⟩
  · have k1' : (p.2.2.1 == -1) = false := by simpa using k1
    rw [k1']
    have HE : Hid (E = if rgE p.2.2 = 0 then (if p.2.2.1 ≤ p.2.1.1 then 7 else 0) else rgE p.2.2) := Lib.hid (by rw [HE.out, if_neg k1])
    clear k1 k1'
    go_wp2_with (refine wpList_load_at rfl 105 _ rfl ⟨w.heap.size + 1, 5, none⟩ rfl #[.int .i64 p.2.2.1, .string p.2.2.2.1, .int .i64 p.2.2.2.2.1, .int .i64 p.2.2.2.2.2] _ HP.out Tryd.underlying105 rfl (rg_info p.2.2) ?_)
    refine (checkReading_c p.2.2 _ hs).mono ?_; rintro e w4 ⟨rfl, hG4⟩
    have hL := hL.quiet hG4
    have hG := hG.trans hG4
    clear hG4 c1 c5 d4 HP
    have c1 : w4.cell? ⟨w.heap.size + 1, 1, none⟩ = some (.int .i64 p.2.1.1) := hL.cell 1
    have c5 : w4.cell? ⟨w.heap.size + 1, 5, none⟩ = some (.int .i64 p.2.2.1) := hL.cell 5
    obtain ⟨R, hR⟩ : ∃ R, rgE p.2.2 = R := ⟨_, rfl⟩
    rw [hR] at HE ⊢
    clear hR
    by_cases k2 : R = 0
    · have HE5 : Hid (E = if p.2.2.1 ≤ p.2.1.1 then 7 else 0) := Lib.hid (by rw [HE.out, if_pos k2])
      subst k2
      by_cases k3 : p.2.2.1 ≤ p.2.1.1
      · have HF : Hid (E = 7) := Lib.hid (by rw [HE5.out, if_pos k3])
        go_wp2_with fail
        go_ret
        exact ⟨ret_int HF.out.symm, hG⟩
      · have HF : Hid (E = 0) := Lib.hid (by rw [HE5.out, if_neg k3])
        go_wp2_with fail
        go_ret
        exact ⟨ret_int HF.out.symm, hG⟩
    · have HF : Hid (E = R) := Lib.hid (by rw [HE.out, if_neg k2])
      have k2' : (R != 0) = true := by simpa using k2
      clear k2
      go_wp2_with fail
      go_ret
      exact ⟨ret_int HF.out.symm, hG⟩
end Go.Proofs.YtbddcbbjmgepnaaDoor

/- Hires: checkLeg, Check. -/
namespace Go.Proofs.YtbddcbbjmgepnaaDoor
open Go.RowKit

theorem hi_time (h : Hh) (v : Value) : ∀ j u, (#[Value.int .i64 h.2.2.1, .int .i64 h.2.2.2] : Array Value).toList[j]? = some u → (hiC h v)[2 + j]? = some u := fun j u hu => by
  match j, hu with
  | 0, hu => exact hu
  | 1, hu => exact hu
  | n + 2, hu => simp at hu
set_option maxRecDepth 100000 in
set_option maxHeartbeats 4000000 in
theorem checkLeg_c (h : Hh) (v : Value) (l : List Lg) (k : Nat) (p : Lg) (w : World) (hr : RdR w 9 lgC v l) (hp : l[k]? = some p) (hs : lgB p) (hn : l.length ≤ 1000) :
    Calls Tryd.prog 84 #[.agg (hiC h v), .int .i64 k] w fun e w' => e = .returned (.int .i64 (lgE h.2.2.1 (prevAt l k) (l.drop (k + 1)).isEmpty p)) ∧ G w w' none := by
  have hH := Bk.new w 101 (hiC h v)
  have hGH := (G.refl w none).alloc (.cells (hiC h v) 101)
  have hR := hr.quiet hGH
  obtain ⟨a, cap, rfl, hcap, hm⟩ := RdR.form hr
  clear hr
  have hk : k < l.length := (List.getElem?_eq_some_iff.1 hp).1
  have hki : (k : Int) < (l.length : Int) := by omega
  obtain ⟨bb, bo, rfl, -, -⟩ := RdR.elem lgC_sz hR (G.refl _ none) hp
  have HW := Lib.hid (lgRow hR (G.refl _ none) hp)
  have HP := Lib.hid hp
  obtain ⟨hs1, hs2, hs3⟩ := hs
  have hs1' := hs1
  unfold Small at hs1'
  clear hp
  obtain ⟨E, hE⟩ : ∃ E, lgE h.2.2.1 (prevAt l k) (l.drop (k + 1)).isEmpty p = E := ⟨_, rfl⟩
  have HE : Hid (E = if keyB p.1 = false then 5 else if rgE p.2.1 = 0 then (if beE h.2.2.1 (prevAt l k) p = 0 then enE (l.drop (k + 1)).isEmpty p else beE h.2.2.1 (prevAt l k) p) else rgE p.2.1) := Lib.hid hE.symm
  rw [hE]
  clear hE
  simp only [hiC] at hH hGH hR HW ⊢
  go_enter Tryd.func84, Tryd.ntmps84
  go_upto_region 2 with (refine wpList_load_at rfl 118 _ rfl ⟨bb, bo + k * 9, none⟩ rfl #[.string p.1, .int .i64 p.2.1.1, .string p.2.1.2.1, .int .i64 p.2.1.2.2.1, .int .i64 p.2.1.2.2.2, .int .i64 p.2.2.1, .string p.2.2.2.1, .int .i64 p.2.2.2.2.1, .int .i64 p.2.2.2.2.2] _ HW.out Tryd.underlying118 rfl (lg_info p) ?_)
  have hL : Bk ((w.alloc (.cells #[.string h.1, .string h.2.1, .int .i64 h.2.2.1, .int .i64 h.2.2.2, .slice (some ⟨bb, bo, none⟩) l.length cap] 101)).alloc (.cells #[.string p.1, .int .i64 p.2.1.1, .string p.2.1.2.1, .int .i64 p.2.1.2.2.1, .int .i64 p.2.1.2.2.2, .int .i64 p.2.2.1, .string p.2.2.2.1, .int .i64 p.2.2.2.2.1, .int .i64 p.2.2.2.2.2] 118)) (w.heap.size + 1) 118 (lgC p) := Bk.newAt (by simp) _ _
  have hG := hGH.alloc (.cells #[.string p.1, .int .i64 p.2.1.1, .string p.2.1.2.1, .int .i64 p.2.1.2.2.1, .int .i64 p.2.1.2.2.2, .int .i64 p.2.2.1, .string p.2.2.2.1, .int .i64 p.2.2.2.2.1, .int .i64 p.2.2.2.2.2] 118)
  have hH := hH.alloc (.cells #[.string p.1, .int .i64 p.2.1.1, .string p.2.1.2.1, .int .i64 p.2.1.2.2.1, .int .i64 p.2.1.2.2.2, .int .i64 p.2.2.1, .string p.2.2.2.1, .int .i64 p.2.2.2.2.1, .int .i64 p.2.2.2.2.2] 118)
  have hR := hR.quiet ((G.refl _ none).alloc (.cells #[.string p.1, .int .i64 p.2.1.1, .string p.2.1.2.1, .int .i64 p.2.1.2.2.1, .int .i64 p.2.1.2.2.2, .int .i64 p.2.2.1, .string p.2.2.2.1, .int .i64 p.2.2.2.2.1, .int .i64 p.2.2.2.2.2] 118))
  clear HW hGH
  generalize (w.alloc (.cells #[.string h.1, .string h.2.1, .int .i64 h.2.2.1, .int .i64 h.2.2.2, .slice (some ⟨bb, bo, none⟩) l.length cap] 101)).alloc (.cells #[.string p.1, .int .i64 p.2.1.1, .string p.2.1.2.1, .int .i64 p.2.1.2.2.1, .int .i64 p.2.1.2.2.2, .int .i64 p.2.2.1, .string p.2.2.2.1, .int .i64 p.2.2.2.2.1, .int .i64 p.2.2.2.2.2] 118) = w2 at hL hG hH hR ⊢
  have c0 : w2.cell? ⟨w.heap.size + 1, 0, none⟩ = some (.string p.1) := hL.cell 0
  have HO := Lib.hid (hL.part 1 #[.int .i64 p.2.1.1, .string p.2.1.2.1, .int .i64 p.2.1.2.2.1, .int .i64 p.2.1.2.2.2] (lg_out p))
  go_wp2_with fail
  refine (isKey_c _ _ hs1').mono ?_; rintro e w' ⟨rfl, rfl⟩
  cases k1 : keyB p.1 with
  | false =>
    have HF : Hid (E = 5) := Lib.hid (by rw [HE.out, if_pos k1])
    clear k1
    go_wp2_with fail
    go_ret
    exact ⟨ret_int HF.out.symm, hG⟩
  | true =>
    have HE1 : Hid (E = if rgE p.2.1 = 0 then (if beE h.2.2.1 (prevAt l k) p = 0 then enE (l.drop (k + 1)).isEmpty p else beE h.2.2.1 (prevAt l k) p) else rgE p.2.1) := Lib.hid (by rw [HE.out, if_neg (by simp [k1])])
    clear k1 HE
    go_wp2_with (refine wpList_load_at rfl 105 _ rfl ⟨w.heap.size + 1, 1, none⟩ rfl #[.int .i64 p.2.1.1, .string p.2.1.2.1, .int .i64 p.2.1.2.2.1, .int .i64 p.2.1.2.2.2] _ HO.out Tryd.underlying105 rfl (rg_info p.2.1) ?_)
    refine (checkReading_c p.2.1 _ hs2).mono ?_; rintro e w4 ⟨rfl, hG4⟩
    have hL := hL.quiet hG4
    have hH := hH.quiet hG4
    have hR := hR.quiet hG4
    have hG := hG.trans hG4
    clear hG4 c0 HO
    obtain ⟨R, hRR⟩ : ∃ R, rgE p.2.1 = R := ⟨_, rfl⟩
    rw [hRR] at HE1 ⊢
    clear hRR
    by_cases k2 : R = 0
    · have HE2 : Hid (E = if beE h.2.2.1 (prevAt l k) p = 0 then enE (l.drop (k + 1)).isEmpty p else beE h.2.2.1 (prevAt l k) p) := Lib.hid (by rw [HE1.out, if_pos k2])
      subst k2
      clear HE1
      go_wp2_with (refine wpList_load_row rfl 101 _ rfl w.heap.size rfl 101 #[.string h.1, .string h.2.1, .int .i64 h.2.2.1, .int .i64 h.2.2.2, .slice (some ⟨bb, bo, none⟩) l.length cap] (0, 0) _ hH Tryd.underlying101 rfl (hi_info h _) ?_)
      refine (checkBegin_c h _ l k p _ hR HP.out hn).mono ?_; rintro e w5 ⟨rfl, hG5⟩
      have hH := hH.quiet hG5
      have hR := hR.quiet hG5
      have hG := hG.trans hG5
      clear hG5
      obtain ⟨B, hB⟩ : ∃ B, beE h.2.2.1 (prevAt l k) p = B := ⟨_, rfl⟩
      rw [hB] at HE2 ⊢
      clear hB
      by_cases k3 : B = 0
      · have HF : Hid (E = enE (l.drop (k + 1)).isEmpty p) := Lib.hid (by rw [HE2.out, if_pos k3])
        subst k3
        clear HE2
        go_wp2_with (refine wpList_load_row rfl 101 _ rfl w.heap.size rfl 101 #[.string h.1, .string h.2.1, .int .i64 h.2.2.1, .int .i64 h.2.2.2, .slice (some ⟨bb, bo, none⟩) l.length cap] (0, 0) _ hH Tryd.underlying101 rfl (hi_info h _) ?_)
        refine (checkEnd_c h _ l k p _ hR HP.out hs3 hn).mono ?_; rintro e w6 ⟨rfl, hG6⟩
        have hG := hG.trans hG6
        rw [← HF.out]
        go_wp2_with fail
        go_ret
        exact ⟨rfl, hG⟩
      · have HF : Hid (E = B) := Lib.hid (by rw [HE2.out, if_neg k3])
        have k3' : (B != 0) = true := by simpa using k3
        clear k3 HE2
        go_wp2_with fail
        go_ret
        exact ⟨ret_int HF.out.symm, hG⟩
    · have HF : Hid (E = R) := Lib.hid (by rw [HE1.out, if_neg k2])
      have k2' : (R != 0) = true := by simpa using k2
      clear k2 HE1
      go_wp2_with fail
      go_ret
      exact ⟨ret_int HF.out.symm, hG⟩
def LsRel (w : World) (f : Int) (l : List Lg) (i : Value) (wr : World) : Prop :=
  ∃ k : Nat, k ≤ l.length ∧ i = .int .i64 k ∧ lsE f none l = lsE f (prevAt l k) (l.drop k) ∧ G w wr none
set_option maxRecDepth 100000 in
set_option maxHeartbeats 4000000 in
theorem check_c (h : Hh) (v : Value) (l : List Lg) (w : World) (hr : RdR w 9 lgC v l) (hl : LgOk l) (hs1 : Small h.1) (hs2 : Small h.2.1) (hb1 : bnd h.2.2.1) (hb2 : bnd h.2.2.2) (hn : l.length ≤ 1000) :
    Calls Tryd.prog 70 #[.agg (hiC h v)] w fun e w' => e = .returned (.int .i64 (hiE h l)) ∧ G w w' none := by
  have hH := Bk.new w 101 (hiC h v)
  have hG := (G.refl w none).alloc (.cells (hiC h v) 101)
  have hR := hr.quiet hG
  obtain ⟨a, cap, rfl, hcap, hm⟩ := RdR.form hr
  clear hr
  unfold Small at hs1 hs2
  obtain ⟨E, hE⟩ : ∃ E, hiE h l = E := ⟨_, rfl⟩
  have HE : Hid (E = if keyB h.1 = false then 5 else if keyB h.2.1 = false then 5 else if tE h.2.2.1 h.2.2.2 = 0 then (if l.length = 0 then 3 else if 20 < l.length then 2 else lsE h.2.2.1 none l) else tE h.2.2.1 h.2.2.2) := Lib.hid hE.symm
  rw [hE]
  clear hE
  simp only [hiC] at hH hG hR ⊢
  go_enter Tryd.func70, Tryd.ntmps70
  go_upto_region 1 with fail
  generalize w.alloc (.cells #[.string h.1, .string h.2.1, .int .i64 h.2.2.1, .int .i64 h.2.2.2, .slice a l.length cap] 101) = w2 at hG hH hR ⊢
  have hg := hH.lt
  generalize w.heap.size = g at hH hg ⊢
  have c0 : w2.cell? ⟨g, 0, none⟩ = some (.string h.1) := hH.cell 0
  have c1 : w2.cell? ⟨g, 1, none⟩ = some (.string h.2.1) := hH.cell 1
  go_wp2_with fail
  refine (isKey_c _ _ hs1).mono ?_; rintro e w' ⟨rfl, rfl⟩
  cases k1 : keyB h.1 with
  | false =>
    have HF : Hid (E = 5) := Lib.hid (by rw [HE.out, if_pos k1])
    clear k1
    go_wp2_with fail
    go_ret
    exact ⟨ret_int HF.out.symm, hG⟩
  | true =>
    have K1 := Lib.hid k1
    clear k1
    go_wp2_with fail
    refine (isKey_c _ _ hs2).mono ?_; rintro e w' ⟨rfl, rfl⟩
    cases k2 : keyB h.2.1 with
    | false =>
      have HF : Hid (E = 5) := Lib.hid (by rw [HE.out, if_neg (by simp [K1.out]), if_pos k2])
      clear k2
      go_wp2_with fail
      go_ret
      exact ⟨ret_int HF.out.symm, hG⟩
    | true =>
      have HE1 : Hid (E = if tE h.2.2.1 h.2.2.2 = 0 then (if l.length = 0 then 3 else if 20 < l.length then 2 else lsE h.2.2.1 none l) else tE h.2.2.1 h.2.2.2) := Lib.hid (by rw [HE.out, if_neg (by simp [K1.out]), if_neg (by simp [k2])])
      clear k2 HE
      have HT := Lib.hid (hH.part 2 #[.int .i64 h.2.2.1, .int .i64 h.2.2.2] (hi_time h _))
      go_wp2_with (refine wpList_load_at rfl 27 _ rfl ⟨g, 2, none⟩ rfl #[.int .i64 h.2.2.1, .int .i64 h.2.2.2] _ HT.out Tryd.underlying27 rfl (wi_info _ _) ?_)
      refine (days_c _ _ _ hb1 hb2).mono ?_; rintro e w3 ⟨rfl, hG3⟩
      have hH := hH.quiet hG3
      have hR := hR.quiet hG3
      have hG := hG.trans hG3
      clear hG3 c0 c1 HT
      obtain ⟨T, hT⟩ : ∃ T, tE h.2.2.1 h.2.2.2 = T := ⟨_, rfl⟩
      rw [hT] at HE1 ⊢
      clear hT
      generalize tN h.2.2.1 h.2.2.2 = N
      by_cases k3 : T = 0
      · have HE2 : Hid (E = if l.length = 0 then 3 else if 20 < l.length then 2 else lsE h.2.2.1 none l) := Lib.hid (by rw [HE1.out, if_pos k3])
        subst k3
        clear HE1
        have c4 : w3.cell? ⟨g, 4, none⟩ = some (.slice a l.length cap) := hH.cell 4
        by_cases k4 : l.length = 0
        · have HF : Hid (E = 3) := Lib.hid (by rw [HE2.out, if_pos k4])
          have k4' : ((l.length : Int) == 0) = true := by rw [k4]; rfl
          clear k4
          go_wp2_with fail
          go_ret
          exact ⟨ret_int HF.out.symm, hG⟩
        · have k4' : ((l.length : Int) == 0) = false := by rw [beq_eq_false_iff_ne]; omega
          by_cases k5 : 20 < l.length
          · have HF : Hid (E = 2) := Lib.hid (by rw [HE2.out, if_neg k4, if_pos k5])
            have k5' : (20 : Int) < (l.length : Int) := by omega
            clear k5 k4
            go_wp2_with fail
            go_ret
            exact ⟨ret_int HF.out.symm, hG⟩
          · have HE3 : Hid (E = lsE h.2.2.1 none l) := Lib.hid (by rw [HE2.out, if_neg k4, if_neg k5])
            have k5' : ¬ (20 : Int) < (l.length : Int) := by omega
            clear k5 k4 HE2
            have HHH := Lib.hid hH
            have HRR := Lib.hid hR
            clear hH hR
            go_wp2_with fail
            go_loopw [37] (LsRel w3 h.2.2.1 l) (fun i _ => l.length - (intOf i).toNat)
            case atStart => exact ⟨0, by omega, rfl, rfl, G.refl _ _⟩
            case round =>
              obtain ⟨k, hkl, rfl, heq, hGr⟩ := hrel
              have HEq := Lib.hid heq
              clear heq c4
              have hH := HHH.out.quiet hGr
              have hR := HRR.out.quiet hGr
              by_cases hk : k < l.length
              · obtain ⟨p, hp⟩ : ∃ p, l[k]? = some p := ⟨_, List.getElem?_eq_getElem hk⟩
                have hdrop : l.drop k = p :: l.drop (k + 1) := by rw [List.drop_eq_getElem_cons hk, ← (List.getElem?_eq_some_iff.1 hp).2]
                have HS : Hid (lsE h.2.2.1 none l = if lgE h.2.2.1 (prevAt l k) (l.drop (k + 1)).isEmpty p = 0 then lsE h.2.2.1 (some p) (l.drop (k + 1)) else lgE h.2.2.1 (prevAt l k) (l.drop (k + 1)).isEmpty p) := Lib.hid (by rw [HEq.out, hdrop]; rfl)
                have hpb := hl p (List.mem_of_getElem? hp)
                have HP := Lib.hid hp
                have HK := Lib.hid hk
                have hki : (k : Int) < (l.length : Int) := by omega
                clear hdrop hp
                go_wp2_with (refine wpList_load_row rfl 101 _ rfl g rfl 101 #[.string h.1, .string h.2.1, .int .i64 h.2.2.1, .int .i64 h.2.2.2, .slice a l.length cap] (0, 0) _ hH Tryd.underlying101 rfl (hi_info h _) ?_)
                refine (checkLeg_c h _ l k p _ hR HP.out hpb hn).mono ?_; rintro e w5 ⟨rfl, hG5⟩
                have hGr5 := hGr.trans hG5
                clear hG5 hGr hH hR hpb
                obtain ⟨L, hL⟩ : ∃ L, lgE h.2.2.1 (prevAt l k) (l.drop (k + 1)).isEmpty p = L := ⟨_, rfl⟩
                rw [hL] at HS ⊢
                clear hL
                by_cases k6 : L = 0
                · have HF : Hid (lsE h.2.2.1 none l = lsE h.2.2.1 (prevAt l (k + 1)) (l.drop (k + 1))) := Lib.hid (by rw [HS.out, if_pos k6, prevAt_succ l k p HP.out])
                  subst k6
                  clear HS
                  go_wp2_with fail
                  go_roundw
                  case rel => exact ⟨k + 1, by omega, by go_num, HF.out, hGr5⟩
                  case measure => have := HK.out; simp [intOf]; omega
                · have HF : Hid (E = L) := Lib.hid (by rw [HE3.out, HS.out, if_neg k6])
                  have k6' : (L != 0) = true := by simpa using k6
                  clear k6 HS
                  go_wp2_with fail
                  go_ret
                  exact ⟨ret_int HF.out.symm, hG.trans hGr5⟩
              · obtain rfl : k = l.length := by omega
                have HF : Hid (E = 0) := Lib.hid (by rw [HE3.out, HEq.out, List.drop_length]; rfl)
                go_wp2_with fail
                go_ret
                exact ⟨ret_int HF.out.symm, hG.trans hGr⟩
      · have HF : Hid (E = T) := Lib.hid (by rw [HE1.out, if_neg k3])
        have k3' : (T != 0) = true := by simpa using k3
        clear k3 HE1
        go_wp2_with fail
        go_ret
        exact ⟨ret_int HF.out.symm, hG⟩
end Go.Proofs.YtbddcbbjmgepnaaDoor

/- Hires: the reference's readingFault, legFault, HireFault. -/
namespace Go.Proofs.YtbddcbbjmgepnaaDoor
open Go.RowKit

end Go.Proofs.YtbddcbbjmgepnaaDoor

/- Hires: openLeg, right, Start; made, StartOf. -/
namespace Go.Proofs.YtbddcbbjmgepnaaDoor
open Go.RowKit

def hiZ : Array Value := hiC (⟨#[]⟩, ⟨#[]⟩, 0, 0) (.slice none 0 0)
/-- What is returned of a hire: itself, or none. -/
def hiH (E : Int) (h : Hh) : Hh := if E = 0 then h else (⟨#[]⟩, ⟨#[]⟩, 0, 0)
def hiL (E : Int) (l : List Lg) : List Lg := if E = 0 then l else []
def MadePost (h : Hh) (l : List Lg) (B : Nat → Prop) (w : World) (e : Ending) (w' : World) : Prop :=
  ∃ (H : Hh) (a : Option Addr) (n c : Nat), e = .returned (.tuple #[.agg #[.string H.1, .string H.2.1, .int .i64 H.2.2.1, .int .i64 H.2.2.2, .slice a n c], .int .i64 (hiE h l)]) ∧ H = hiH (hiE h l) h ∧ (∀ k, (Value.slice a n c).ownBlock = some k → B k) ∧ RdR w' 9 lgC (.slice a n c) (hiL (hiE h l) l) ∧ G w w' none
/-- A row's block is there. -/
theorem Rd.blk {w : World} {z : Nat} {v : Value} {n : Nat} {cs : List Value} (h : Rd w z v n cs) : ∀ k, v.ownBlock = some k → k < w.heap.size := by
  obtain ⟨a, c, rfl, h1, h2, h3, h4, h5⟩ := h
  intro k hk
  cases a with
  | none => cases hk
  | some b =>
    have := (h5 b rfl).2.1
    cases hk
    exact this
theorem hi_one (h : Hh) (a : Option Addr) (n c : Nat) : (hiC h (.slice a n c)).all (·.oneCell') = true := by simp [hiC, Value.oneCell']
theorem lg_one (x : Lg) : (lgC x).all (·.oneCell') = true := by simp [lgC, Value.oneCell']
/-- Two results, the first a struct that lies in memory. -/
theorem results_cell_hi {P : Program} {fn : Func} {p u : Tmp} {ty : TypeId} (h : fn.results = #[.cell p ty, .tmp u]) (tmps : Array Value) (w : World) (g : Nat) (t : TypeId) (cs : Array Value) (fr : Nat × Nat) (d : TypeDesc)
    (hp : tmps.getD p undef = .pointer (some ⟨g, 0, none⟩)) (hg : w.heap[g]? = some (.cells cs t fr))
    (hu : P.underlying ty = some d) (hd : (match d with | .struct _ | .array _ _ => true | _ => false) = true) (hi : (P.info? ty).map (·.size) = some cs.size) :
    (results fn tmps).run P w = .ok (.tuple #[.agg cs, tmps.getD u undef]) w := by
  have hp' : tmps[p]?.getD undef = .pointer (some ⟨g, 0, none⟩) := by simpa using hp
  simp [results, h, hp', asAddr, run_loadVar_row w g t ty cs fr d hg hu hd hi]
set_option maxRecDepth 100000 in
set_option maxHeartbeats 4000000 in
theorem right_c (h : Hh) (v : Value) (l : List Lg) (w : World) (hr : RdR w 9 lgC v l) (hl : LgOk l) (hs1 : Small h.1) (hs2 : Small h.2.1) (hb1 : bnd h.2.2.1) (hb2 : bnd h.2.2.2) (hn : l.length ≤ 1000) :
    Calls Tryd.prog 61 #[.agg (hiC h v)] w (MadePost h l (fun k => v.ownBlock = some k) w) := by
  have hH := (Bk.new w 101 (hiC h v)).alloc (.cells hiZ 101)
  have hG := ((G.refl w none).alloc (.cells (hiC h v) 101)).alloc (.cells hiZ 101)
  have hZ := Bk.newAt (w := w.alloc (.cells (hiC h v) 101)) (b := w.heap.size + 1) (by simp) 101 hiZ
  have hR := hr.quiet hG
  have HLO := Lib.hid hr.blk
  obtain ⟨a, cap, rfl, hcap, hm⟩ := RdR.form hr
  clear hr
  simp only [hiC, hiZ] at hH hG hR hZ ⊢
  go_enter Tryd.func61, Tryd.ntmps61
  go_upto_region 1 with fail
  generalize (w.alloc (.cells #[.string h.1, .string h.2.1, .int .i64 h.2.2.1, .int .i64 h.2.2.2, .slice a l.length cap] 101)).alloc (.cells #[.string ⟨#[]⟩, .string ⟨#[]⟩, .int .i64 0, .int .i64 0, .slice none 0 0] 101) = w2 at hG hH hR hZ ⊢
  go_wp2_with (refine wpList_load_row rfl 101 _ rfl w.heap.size rfl 101 #[.string h.1, .string h.2.1, .int .i64 h.2.2.1, .int .i64 h.2.2.2, .slice a l.length cap] (0, 0) _ hH Tryd.underlying101 rfl (hi_info h _) ?_)
  refine (check_c h _ l _ hR hl hs1 hs2 hb1 hb2 hn).mono ?_; rintro e w3 ⟨rfl, hG3⟩
  have hH := hH.quiet hG3
  have hZ := hZ.quiet hG3
  have hG := hG.trans hG3
  have hR := hR.quiet hG3
  clear hG3
  obtain ⟨E, hE⟩ : ∃ E, hiE h l = E := ⟨_, rfl⟩
  have HFIN : Hid (hiE h l = E) := Lib.hid hE
  rw [hE]
  clear hE
  by_cases k1 : E = 0
  · subst k1
    go_wp2_with (first | (refine wpList_load_row rfl 101 _ rfl w.heap.size rfl 101 #[.string h.1, .string h.2.1, .int .i64 h.2.2.1, .int .i64 h.2.2.2, .slice a l.length cap] (0, 0) _ hH Tryd.underlying101 rfl (hi_info h _) ?_) | (refine wpList_store_row rfl 101 _ _ rfl (w.heap.size + 1) #[.string h.1, .string h.2.1, .int .i64 h.2.2.1, .int .i64 h.2.2.2, .slice a l.length cap] rfl rfl 101 _ hZ (hi_info _ _) rfl (hi_one h _ _ _) ?_))
    refine bodyPost_ret (results_cell_hi rfl _ _ (w.heap.size + 1) 101 #[.string h.1, .string h.2.1, .int .i64 h.2.2.1, .int .i64 h.2.2.2, .slice a l.length cap] (0, 0) _ rfl (hZ.setRow _) Tryd.underlying101 rfl (hi_info h _)) rfl ?_
    exact ⟨h, a, l.length, cap, by rw [HFIN.out]; rfl, by rw [HFIN.out]; rfl, fun _ hk => hk, by rw [HFIN.out]; exact hR.grown ((G.refl w3 (some (w.heap.size + 1))).setRow (.inr rfl) _) (fun k e hk => by cases e; have := HLO.out _ hk; omega), hG.setRow (.inl (by omega)) _⟩
  · have k1' : (E != 0) = true := by simpa using k1
    have K1 := Lib.hid k1
    clear k1
    go_wp2_with (refine wpList_store_row rfl 101 _ _ rfl (w.heap.size + 1) #[.string ⟨#[]⟩, .string ⟨#[]⟩, .int .i64 0, .int .i64 0, .slice none 0 0] rfl rfl 101 _ hZ (hi_info (⟨#[]⟩, ⟨#[]⟩, 0, 0) (.slice none 0 0)) rfl (hi_one (⟨#[]⟩, ⟨#[]⟩, 0, 0) _ _ _) ?_)
    refine bodyPost_ret (results_cell_hi rfl _ _ (w.heap.size + 1) 101 #[.string ⟨#[]⟩, .string ⟨#[]⟩, .int .i64 0, .int .i64 0, .slice none 0 0] (0, 0) _ rfl (hZ.setRow _) Tryd.underlying101 rfl (hi_info (⟨#[]⟩, ⟨#[]⟩, 0, 0) (.slice none 0 0))) rfl ?_
    exact ⟨(⟨#[]⟩, ⟨#[]⟩, 0, 0), none, 0, 0, by rw [HFIN.out]; rfl, by rw [HFIN.out, hiH, if_neg K1.out], fun _ hk => (by cases hk), by rw [HFIN.out, hiL, if_neg K1.out]; exact RdR.nil _ _ _, hG.setRow (.inl (by omega)) _⟩
set_option maxRecDepth 100000 in
set_option maxHeartbeats 2000000 in
theorem openLeg_c (s : ByteArray) (r : Rg) (w : World) : Calls Tryd.prog 62 #[.string s, .agg (rgC r)] w fun e w' => e = .returned (.agg (lgC (s, r, noIn))) ∧ G w w' none := by
  have hZ := Bk.newAt (w := w.alloc (.cells (rgC r) 105)) (b := w.heap.size + 1) (by simp) 118 (lgC (⟨#[]⟩, (0, ⟨#[]⟩, 0, 0), (0, ⟨#[]⟩, 0, 0)))
  have hB := (Bk.new w 105 (rgC r)).alloc (.cells (lgC (⟨#[]⟩, (0, ⟨#[]⟩, 0, 0), (0, ⟨#[]⟩, 0, 0))) 118)
  have hG := ((G.refl w none).alloc (.cells (rgC r) 105)).alloc (.cells (lgC (⟨#[]⟩, (0, ⟨#[]⟩, 0, 0), (0, ⟨#[]⟩, 0, 0))) 118)
  obtain ⟨r1, r2, r3, r4⟩ := r
  simp only [rgC, lgC, noIn] at hZ hB hG ⊢
  go_enter Tryd.func62, Tryd.ntmps62
  go_upto_region 1 with fail
  generalize (w.alloc (.cells #[.int .i64 r1, .string r2, .int .i64 r3, .int .i64 r4] 105)).alloc (.cells #[.string ⟨#[]⟩, .int .i64 0, .string ⟨#[]⟩, .int .i64 0, .int .i64 0, .int .i64 0, .string ⟨#[]⟩, .int .i64 0, .int .i64 0] 118) = w2 at hG hB hZ ⊢
  go_wp2_with (first | (refine wpList_load_row rfl 105 _ rfl w.heap.size rfl 105 #[.int .i64 r1, .string r2, .int .i64 r3, .int .i64 r4] (0, 0) _ hB Tryd.underlying105 rfl (rg_info (r1, r2, r3, r4)) ?_) | (refine wpList_store_row rfl 118 _ _ rfl (w.heap.size + 1) #[.string s, .int .i64 r1, .string r2, .int .i64 r3, .int .i64 r4, .int .i64 (-1), .string ⟨#[]⟩, .int .i64 0, .int .i64 0] rfl rfl 118 _ hZ (lg_info (s, (r1, r2, r3, r4), noIn)) rfl (lg_one (s, (r1, r2, r3, r4), noIn)) ?_))
  refine bodyPost_ret (results_cell_row rfl _ _ (w.heap.size + 1) 118 #[.string s, .int .i64 r1, .string r2, .int .i64 r3, .int .i64 r4, .int .i64 (-1), .string ⟨#[]⟩, .int .i64 0, .int .i64 0] (0, 0) _ rfl (hZ.setRow _) Tryd.underlying118 rfl (lg_info (s, (r1, r2, r3, r4), noIn))) rfl ?_
  exact ⟨rfl, hG.setRow (.inl (by omega)) _⟩
end Go.Proofs.YtbddcbbjmgepnaaDoor

/- Steps of a region that draws its order, by hand. No program. -/
namespace Go.Proofs.YtbddcbbjmgepnaaDoor
open Go.RowKit
section
variable {P : Program} {ops : Array Oper} {o : Oper} {a : Act} {w : World} {K : Act → World → Prop} {Q : Exit → Act → World → Prop} {E : Prop}
theorem st_val (hg : o.guard = none) {v : Value} {w' : World} (hr : (execOp a.eval o).run P w = .ok (.value v) w') (hK : K (a.put o.dst v) w') : if Region.wanted o (yielded ops a.tmps) = true then Oper.wp P o a w K Q else E := by
  rw [if_pos (by simp [Region.wanted, hg])]
  unfold Oper.wp
  rw [hr]
  exact hK
theorem st_wp (hg : o.guard = none) (h : Oper.wp P o a w K Q) : if Region.wanted o (yielded ops a.tmps) = true then Oper.wp P o a w K Q else E := by
  rw [if_pos (by simp [Region.wanted, hg])]
  exact h
theorem st_call (hg : o.guard = none) {f : FuncId} {args : Array Value} {w1 : World} (hr : (execOp a.eval o).run P w = .ok (.enter f args) w1) (hc : Calls P f args w1 fun e w' => ∃ v, e = .returned v ∧ K (a.put o.dst v) w') : if Region.wanted o (yielded ops a.tmps) = true then Oper.wp P o a w K Q else E := by
  rw [if_pos (by simp [Region.wanted, hg])]
  unfold Oper.wp
  rw [hr]
  refine hc.mono ?_
  rintro e w' ⟨v, rfl, hK⟩
  exact hK
theorem run_load_row {ty : TypeId} {x : Operand} (ho : o.op = .load ty x) (g : Nat) (hx : a.eval x = .pointer (some ⟨g, 0, none⟩)) (t : TypeId) (cs : Array Value) (d : TypeDesc) (hg : Bk w g t cs)
    (hu : P.underlying ty = some d) (hd : (match d with | .struct _ | .array _ _ => true | _ => false) = true) (hi : (P.info? ty).map (·.size) = some cs.size) : (execOp a.eval o).run P w = .ok (.value (.agg cs)) w := by
  unfold execOp
  simp only [ho, hx, Instr.loadAt, Instr.sureAddr, Sem.run_bind, Sem.run_pure, Result.andThen_ok, run_loadVar_row w g t ty cs (0, 0) d hg hu hd hi]
/-- One that may come up, and it alone. -/
theorem ready_one {md : Region.Mode} {fuel : Nat} {listed : Array Bool} {i : Nat} (hr : Region.ready md ops listed = [i]) (ho : ops[i]? = some o)
    (h : ∀ K' : Act → World → Prop, (∀ a w, wpAny P md ops Q fuel (listed.setIfInBounds i true) a w → K' a w) → if Region.wanted o (yielded ops a.tmps) = true then Oper.wp P o a w K' Q else K' (a.put o.dst undef) w) : wpAny P md ops Q (fuel + 1) listed a w :=
  wpAny_ready hr (by simp) (AllReady.cons ho h AllReady.nil)
theorem ready_two {md : Region.Mode} {fuel : Nat} {listed : Array Bool} {i j : Nat} {o2 : Oper} (hr : Region.ready md ops listed = [i, j]) (ho : ops[i]? = some o) (ho2 : ops[j]? = some o2)
    (h : ∀ K' : Act → World → Prop, (∀ a w, wpAny P md ops Q fuel (listed.setIfInBounds i true) a w → K' a w) → if Region.wanted o (yielded ops a.tmps) = true then Oper.wp P o a w K' Q else K' (a.put o.dst undef) w)
    (h2 : ∀ K' : Act → World → Prop, (∀ a w, wpAny P md ops Q fuel (listed.setIfInBounds j true) a w → K' a w) → if Region.wanted o2 (yielded ops a.tmps) = true then Oper.wp P o2 a w K' Q else K' (a.put o2.dst undef) w) : wpAny P md ops Q (fuel + 1) listed a w :=
  wpAny_ready hr (by simp) (AllReady.cons ho h (AllReady.cons ho2 h2 AllReady.nil))
end
end Go.Proofs.YtbddcbbjmgepnaaDoor

/- A region that draws its order, told operation by operation: each one's value is told once, whatever the order. No program. -/
namespace Go.Proofs.YtbddcbbjmgepnaaDoor
open Go.RowKit

/-- What an operation left. -/
def valOf (a : Act) (o : Oper) : Value := match o.dst with | some d => a.tmps.getD d undef | none => undef
/-- Values put where the operations put theirs. -/
def putAll (f : Nat → Value) : Nat → List Oper → Act → Act
  | _, [], a => a
  | i, o :: r, a => putAll f (i + 1) r (a.put o.dst (f i))
def dstsOf (l : List Oper) : List Nat := l.filterMap (·.dst)
/-- No guards; who is waited for stands ahead; each writes a slot of its own, that there is. -/
def stepsB (md : Region.Mode) (l : List Oper) (n : Nat) : Bool :=
  (l.zipIdx.all fun p => p.1.guard.isNone && (p.1.after.all fun e => !Region.binds md e || decide (e.on < p.2)) && (match p.1.dst with | some d => decide (d < n) | none => true)) && decide (dstsOf l).Nodup
/-- Is number j waited for by o? -/
def predB (md : Region.Mode) (o : Oper) (j : Nat) : Bool := o.after.any fun e => Region.binds md e && e.on == j
def Same (ops : List Oper) (a0 a : Act) : Prop := a.defers = a0.defers ∧ a.tmps.size = a0.tmps.size ∧ ∀ d, d ∉ dstsOf ops → a.tmps.getD d undef = a0.tmps.getD d undef
theorem put_defers (a : Act) (d : Option Tmp) (v : Value) : (a.put d v).defers = a.defers := by cases d <;> rfl
theorem put_size (a : Act) (d : Option Tmp) (v : Value) : (a.put d v).tmps.size = a.tmps.size := by cases d <;> simp [Act.put]
theorem put_getD_ne (a : Act) (d : Option Tmp) (v : Value) (k : Nat) (h : d ≠ some k) : (a.put d v).tmps.getD k undef = a.tmps.getD k undef := by
  cases d with
  | none => rfl
  | some d =>
    have : d ≠ k := fun e => h (by rw [e])
    simp [Act.put, this]
theorem put_getD (a : Act) (d : Nat) (v : Value) (h : d < a.tmps.size) : (a.put (some d) v).tmps.getD d undef = v := by
  simp [Act.put, h]
section
variable {P : Program} {Q : Exit → Act → World → Prop} {md : Region.Mode}
/-- What an operation is asked for. -/
def StepOk (P : Program) (md : Region.Mode) (Q : Exit → Act → World → Prop) (ops : List Oper) (a0 : Act) (J : Nat → World → Prop) (V : Nat → Value → World → Prop) (Kp : World → World → Prop) (i : Nat) (o : Oper) : Prop :=
  ∀ n a w, J n w → Same ops a0 a → (∀ j oj, predB md o j = true → ops[j]? = some oj → V j (valOf a oj) w) → ∀ K : Act → World → Prop, (∀ v w', (o.dst = none → v = undef) → V i v w' → J (n + 1) w' → Kp w w' → K (a.put o.dst v) w') → Oper.wp P o a w K Q
def AllOk (P : Program) (md : Region.Mode) (Q : Exit → Act → World → Prop) (ops : List Oper) (a0 : Act) (J : Nat → World → Prop) (V : Nat → Value → World → Prop) (Kp : World → World → Prop) : Nat → List Oper → Prop
  | _, [] => True
  | i, o :: r => StepOk P md Q ops a0 J V Kp i o ∧ AllOk P md Q ops a0 J V Kp (i + 1) r
theorem allOk_at {ops : List Oper} {a0 : Act} {J : Nat → World → Prop} {V : Nat → Value → World → Prop} {Kp : World → World → Prop} : ∀ (l : List Oper) (b : Nat), AllOk P md Q ops a0 J V Kp b l → ∀ (i : Nat) (o : Oper), l[i]? = some o → StepOk P md Q ops a0 J V Kp (b + i) o
  | [], _, _, i, o, h => by simp at h
  | x :: r, b, hA, i, o, h => by
    cases i with
    | zero => obtain rfl : x = o := by simpa using h
              exact hA.1
    | succ i =>
      have := allOk_at r (b + 1) hA.2 i o (by simpa using h)
      rwa [show b + 1 + i = b + (i + 1) by omega] at this
theorem dst_mem {l : List Oper} {i : Nat} {o : Oper} {d : Nat} (h : l[i]? = some o) (hd : o.dst = some d) : d ∈ dstsOf l :=
  List.mem_filterMap.2 ⟨o, List.mem_of_getElem? h, hd⟩
theorem dst_inj : ∀ {l : List Oper}, (dstsOf l).Nodup → ∀ {i j : Nat} {o p : Oper} {d : Nat}, l[i]? = some o → l[j]? = some p → o.dst = some d → p.dst = some d → i = j
  | [], _, i, _, _, _, _, h, _, _, _ => by simp at h
  | x :: r, hn, i, j, o, p, d, hi, hj, ho, hp => by
    have hr : (dstsOf r).Nodup := by
      unfold dstsOf at hn ⊢
      rw [List.filterMap_cons] at hn
      split at hn
      · exact hn
      · exact (List.nodup_cons.1 hn).2
    have hx : ∀ {k : Nat} {q : Oper}, x.dst = some d → r[k]? = some q → q.dst = some d → False := fun {k q} h1 h2 h3 => by
      unfold dstsOf at hn
      rw [List.filterMap_cons, h1] at hn
      exact (List.nodup_cons.1 hn).1 (dst_mem h2 h3)
    cases i with
    | zero =>
      obtain rfl : x = o := by simpa using hi
      cases j with
      | zero => rfl
      | succ j => exact (hx ho (by simpa using hj) hp).elim
    | succ i =>
      cases j with
      | zero =>
        obtain rfl : x = p := by simpa using hj
        exact (hx hp (by simpa using hi) ho).elim
      | succ j => exact congrArg (· + 1) (dst_inj hr (i := i) (j := j) (by simpa using hi) (by simpa using hj) ho hp)
theorem putAll_same (f : Nat → Value) : ∀ (l : List Oper) (i : Nat) (a : Act), (putAll f i l a).defers = a.defers ∧ (putAll f i l a).tmps.size = a.tmps.size ∧ ∀ d, d ∉ dstsOf l → (putAll f i l a).tmps.getD d undef = a.tmps.getD d undef
  | [], _, a => ⟨rfl, rfl, fun _ _ => rfl⟩
  | o :: r, i, a => by
    obtain ⟨h1, h2, h3⟩ := putAll_same f r (i + 1) (a.put o.dst (f i))
    refine ⟨h1.trans (put_defers _ _ _), h2.trans (put_size _ _ _), fun d hd => ?_⟩
    have hd2 : d ∉ dstsOf r := fun h => hd (by
      unfold dstsOf at h ⊢
      rw [List.filterMap_cons]
      split
      · exact h
      · exact List.mem_cons_of_mem _ h)
    refine (h3 d hd2).trans (put_getD_ne _ _ _ _ fun e => hd ?_)
    unfold dstsOf
    rw [List.filterMap_cons, e]
    exact List.mem_cons_self ..
theorem putAll_at (f : Nat → Value) : ∀ (l : List Oper) (b : Nat) (a : Act), (dstsOf l).Nodup → (∀ d ∈ dstsOf l, d < a.tmps.size) → ∀ (i : Nat) (o : Oper) (d : Nat), l[i]? = some o → o.dst = some d → (putAll f b l a).tmps.getD d undef = f (b + i)
  | [], _, _, _, _, i, o, d, h, _ => by simp at h
  | x :: r, b, a, hn, hlt, i, o, d, h, hd => by
    have hr : (dstsOf r).Nodup := by
      unfold dstsOf at hn ⊢
      rw [List.filterMap_cons] at hn
      split at hn
      · exact hn
      · exact (List.nodup_cons.1 hn).2
    have hltr : ∀ d ∈ dstsOf r, d < (a.put x.dst (f b)).tmps.size := fun d hd => by
      rw [put_size]
      refine hlt d ?_
      unfold dstsOf at hd ⊢
      rw [List.filterMap_cons]
      split
      · exact hd
      · exact List.mem_cons_of_mem _ hd
    cases i with
    | zero =>
      obtain rfl : x = o := by simpa using h
      have hnd : d ∉ dstsOf r := fun hm => by
        unfold dstsOf at hn
        rw [List.filterMap_cons, hd] at hn
        exact (List.nodup_cons.1 hn).1 hm
      show (putAll f (b + 1) r (a.put x.dst (f b))).tmps.getD d undef = f b
      rw [(putAll_same f r (b + 1) _).2.2 d hnd, hd]
      exact put_getD _ _ _ (hlt d (dst_mem (l := x :: r) (i := 0) rfl hd))
    | succ i =>
      have := putAll_at f r (b + 1) (a.put x.dst (f b)) hr hltr i o d (by simpa using h) hd
      rw [show b + 1 + i = b + (i + 1) by omega] at this
      exact this
theorem act_ext {a b : Act} (h1 : a.defers = b.defers) (h2 : a.tmps.size = b.tmps.size) (h3 : ∀ d, a.tmps.getD d undef = b.tmps.getD d undef) : a = b := by
  obtain ⟨t, d⟩ := a
  obtain ⟨t', d'⟩ := b
  dsimp only at h1 h2 h3
  subst h1
  congr 1
  apply Array.ext h2
  intro i hi hj
  have := h3 i
  simpa [hi, hj] using this
theorem act_putAll {ops : List Oper} {a0 a : Act} (hn : (dstsOf ops).Nodup) (hlt : ∀ d ∈ dstsOf ops, d < a0.tmps.size) (h : Same ops a0 a) : a = putAll (fun i => match ops[i]? with | some o => valOf a o | none => undef) 0 ops a0 := by
  obtain ⟨h1, h2, h3⟩ := h
  obtain ⟨k1, k2, k3⟩ := putAll_same (fun i => match ops[i]? with | some o => valOf a o | none => undef) ops 0 a0
  refine act_ext (h1.trans k1.symm) (h2.trans k2.symm) fun d => ?_
  by_cases hd : d ∈ dstsOf ops
  · obtain ⟨o, ho, hod⟩ := List.mem_filterMap.1 hd
    obtain ⟨i, hi⟩ := List.getElem?_of_mem ho
    rw [putAll_at _ ops 0 a0 hn hlt i o d hi hod, Nat.zero_add]
    simp only [hi]
    unfold valOf
    rw [hod]
  · rw [h3 d hd, k3 d hd]
theorem count_set (listed : Array Bool) (i : Nat) (h : listed.getD i true = false) : (listed.setIfInBounds i true).toList.countP (fun b => !b) + 1 = listed.toList.countP (fun b => !b) := by
  have hi : i < listed.size := by
    rcases Nat.lt_or_ge i listed.size with h' | h'
    · exact h'
    · simp [Array.getElem?_eq_none h'] at h
  have hv : listed[i] = false := by simpa [hi] using h
  rw [Array.toList_setIfInBounds, List.countP_set (by simpa using hi)]
  have hp : 0 < listed.toList.countP (fun b => !b) := List.countP_pos_iff.2 ⟨listed[i], by simp, by simp [hv]⟩
  have e : listed.toList[i]'(by simpa using hi) = false := by simpa using hv
  rw [e]
  simp only [Bool.not_false, Bool.not_true, if_true, Bool.false_eq_true, if_false]
  omega
/-- The law. -/
theorem wpAny_steps {l : List Oper} {a0 : Act} (J : Nat → World → Prop) (V : Nat → Value → World → Prop) (Kp : World → World → Prop) (n : Nat) (hn : a0.tmps.size = n) (hB : stepsB md l n = true)
    (keep : ∀ i v w w', Kp w w' → V i v w → V i v w') (step : AllOk P md Q l a0 J V Kp 0 l)
    (fin : ∀ (f : Nat → Value) w, J l.length w → (∀ i, i < l.length → V i (f i) w) → Q .normal (putAll f 0 l a0) w) :
    ∀ (fuel : Nat) (listed : Array Bool) (a : Act) (w : World), listed.size = l.length → listed.toList.countP (fun b => !b) = fuel → Same l a0 a → J (l.length - fuel) w → (∀ i o, l[i]? = some o → listed.getD i true = true → V i (valOf a o) w) → wpAny P md l.toArray Q fuel listed a w := by
  unfold stepsB at hB
  rw [Bool.and_eq_true, decide_eq_true_iff, List.all_eq_true] at hB
  obtain ⟨hB1, hnd⟩ := hB
  have hat : ∀ (i : Nat) (o : Oper), l[i]? = some o → o.guard = none ∧ (∀ e ∈ o.after, Region.binds md e = true → e.on < i) ∧ ∀ d, o.dst = some d → d < n := fun i o h => by
    have := hB1 (o, i) (List.mem_zipIdx_iff_getElem?.2 (by simpa using h))
    simp only [Bool.and_eq_true, Array.all_eq_true', Bool.or_eq_true, Bool.not_eq_true', decide_eq_true_eq] at this
    obtain ⟨⟨h1, h2⟩, h3⟩ := this
    refine ⟨Option.isNone_iff_eq_none.1 h1, fun e he hb => ?_, fun d hd => ?_⟩
    · rcases h2 e he with h | h
      · rw [hb] at h; cases h
      · exact h
    · rw [hd] at h3
      simpa using h3
  have hlt : ∀ d ∈ dstsOf l, d < a0.tmps.size := fun d hd => by
    obtain ⟨o, ho, hod⟩ := List.mem_filterMap.1 hd
    obtain ⟨i, hi⟩ := List.getElem?_of_mem ho
    rw [hn]
    exact (hat i o hi).2.2 d hod
  have done : ∀ (listed : Array Bool) (a : Act) (w : World), listed.size = l.length → (∀ i, i < l.length → listed.getD i true = true) → Same l a0 a → J l.length w → (∀ i o, l[i]? = some o → listed.getD i true = true → V i (valOf a o) w) → Q .normal a w := by
    intro listed a w hs hall hsame hJ hV
    rw [act_putAll hnd hlt hsame]
    refine fin _ w hJ fun i hi => ?_
    have hg : l[i]? = some l[i] := List.getElem?_eq_getElem hi
    rw [hg]
    exact hV i _ hg (hall i hi)
  have alls : ∀ (listed : Array Bool), Region.ready md l.toArray listed = [] → ∀ i, i < l.length → listed.getD i true = true := by
    intro listed hr i
    induction i using Nat.strongRecOn with
    | ind i ih =>
      intro hi
      cases hb : listed.getD i true with
      | true => rfl
      | false =>
        exfalso
        have hg : l[i]? = some l[i] := List.getElem?_eq_getElem hi
        have hm : i ∈ Region.ready md l.toArray listed := mem_ready.2 ⟨hb, l[i], by simp, fun e he hbd => by
          have hlt := (hat i _ hg).2.1 e he hbd
          have h1 := ih e.on hlt (by omega)
          have h2 : i < listed.size := by
            rcases Nat.lt_or_ge i listed.size with h' | h'
            · exact h'
            · simp [Array.getElem?_eq_none h'] at hb
          have h3 : e.on < listed.size := by omega
          simpa [h3] using h1⟩
        rw [hr] at hm
        cases hm
  intro fuel
  induction fuel with
  | zero =>
    intro listed a w hs hc hsame hJ hV
    have hall : ∀ i, i < l.length → listed.getD i true = true := fun i hi => by
      cases hb : listed.getD i true with
      | true => rfl
      | false => have := count_set listed i hb; omega
    refine ⟨?_, done listed a w hs hall hsame hJ hV⟩
    refine List.eq_nil_iff_forall_not_mem.2 fun i hi => ?_
    obtain ⟨h1, o, h2, _⟩ := mem_ready.1 hi
    have h3 : i < l.length := by
      have := (Array.getElem?_eq_some_iff.1 h2).1
      simpa using this
    rw [hall i h3] at h1
    cases h1
  | succ fuel ih =>
    intro listed a w hs hc hsame hJ hV
    have hcl : listed.toList.countP (fun b => !b) ≤ l.length := by
      have := List.countP_le_length (p := fun b => !b) (l := listed.toList)
      simpa [hs] using this
    refine ⟨fun hr => ?_, fun i hi => ?_⟩
    · have hall := alls listed hr
      exfalso
      have h0 : listed.toList.countP (fun b => !b) = 0 := List.countP_eq_zero.2 fun b hb => by
        obtain ⟨k, hk, rfl⟩ := List.getElem_of_mem hb
        have hk' : k < listed.size := by simpa using hk
        have := hall k (by omega)
        simp [hk'] at this
        simp [this]
      omega
    · obtain ⟨hun, o, ho, hafter⟩ := mem_ready.1 hi
      have hol : l[i]? = some o := by simpa using ho
      obtain ⟨hg, hord, hd⟩ := hat i o hol
      have hil : i < listed.size := by
        rcases Nat.lt_or_ge i listed.size with h' | h'
        · exact h'
        · simp [Array.getElem?_eq_none h'] at hun
      refine wpOp_step ho fun K' hK => ?_
      rw [if_pos (by simp [Region.wanted, hg])]
      have hst := allOk_at l 0 step i o hol
      rw [Nat.zero_add] at hst
      refine hst (l.length - (fuel + 1)) a w hJ hsame (fun j oj hp hj => ?_) K' (fun v w' hvu hv hJ' hkp => hK _ _ ?_)
      · unfold predB at hp
        rw [Array.any_eq_true'] at hp
        obtain ⟨e, he, h2⟩ := hp
        rw [Bool.and_eq_true, beq_iff_eq] at h2
        obtain ⟨h2, rfl⟩ := h2
        refine hV e.on oj hj ?_
        have h3 := hafter e he h2
        have h4 : e.on < listed.size := by have := hord e he h2; omega
        simpa [h4] using h3
      · refine ih (listed.setIfInBounds i true) (a.put o.dst v) w' (by simpa using hs) (by have := count_set listed i hun; omega) ?_ ?_ ?_
        · obtain ⟨s1, s2, s3⟩ := hsame
          refine ⟨(put_defers _ _ _).trans s1, (put_size _ _ _).trans s2, fun d hdn => ?_⟩
          rw [put_getD_ne _ _ _ _ (fun e => hdn (dst_mem hol e))]
          exact s3 d hdn
        · rw [show l.length - fuel = l.length - (fuel + 1) + 1 by omega]
          exact hJ'
        · intro j oj hj hl
          by_cases hij : i = j
          · subst hij
            rw [hol] at hj
            obtain rfl := Option.some.inj hj
            cases hod : o.dst with
            | none =>
              have : valOf (a.put none v) o = undef := by unfold valOf; rw [hod]
              rw [this, ← hvu hod]
              exact hv
            | some d =>
              have : valOf (a.put (some d) v) o = v := by
                unfold valOf
                rw [hod]
                exact put_getD a d v (by rw [hsame.2.1, hn]; exact hd d hod)
              rw [this]
              exact hv
          · rw [getD_set_ne true hij] at hl
            have hold := keep j _ w w' hkp (hV j oj hj hl)
            have : valOf (a.put o.dst v) oj = valOf a oj := by
              unfold valOf
              cases hod : oj.dst with
              | none => rfl
              | some d =>
                exact put_getD_ne _ _ _ _ fun e => hij (dst_inj hnd hol hj e hod)
            rw [this]
            exact hold
end
end Go.Proofs.YtbddcbbjmgepnaaDoor
