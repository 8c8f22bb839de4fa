/- Odds: over, checkUnits, Over, for any bookings. -/
import Derived.Test.YtbieiefbgcgogaaDoorOde
namespace Go.Proofs.YtbieiefbgcgogaaDoor
open Go.RowKit

/-- The sum of the numbers behind the first u, of the first k. -/
def ovS (c : List Int) (u : Int) : Nat → Int
  | 0 => 0
  | k + 1 => if u < (k : Int) then ovS c u k + c.getD k 0 else ovS c u k
theorem ovS_bnd {c : List Int} (h : NN c) (u : Int) (k : Nat) (hk : k ≤ c.length) : 0 ≤ ovS c u k ∧ ovS c u k ≤ (c.take k).sum := by
  induction k with
  | zero => exact ⟨Int.le_refl 0, by simp [ovS]⟩
  | succ k ih =>
    obtain ⟨h1, h2⟩ := ih (by omega)
    have h3 := h.getD k
    have h4 := take_sum c k (by omega)
    unfold ovS
    split <;> omega
def ovF (l : List Bo) (u : Int) : Fr := lowF (ovS (cas (pcs l)) u (l.length + 1)) (100 ^ l.length)
def OvRel (w : World) (c : List Int) (u : Int) (n g : Nat) (s7 s17 : Value) (wr : World) : Prop :=
  ∃ k : Nat, k ≤ n ∧ s17 = .int .i64 k ∧ s7 = .int .i64 (ovS c u k) ∧ Bk wr g 3 (ic c) ∧ Bk wr w.heap.size 35 (frC 0 0) ∧ G w wr none
set_option maxRecDepth 100000 in
set_option maxHeartbeats 4000000 in
theorem over_c (v : Value) (l : List Bo) (u : Int) (w : World) (hr : RdR w 6 boC v l) (hp : PcOk l) (h9 : l.length ≤ 9) :
    Calls Tryd.prog 64 #[v, .int .i64 u] w fun e w' => e = .returned (.agg (frV (ovF l u))) ∧ G w w' none := by
  have hG0 := (G.refl w none).alloc (.cells (frC 0 0) 35)
  have HR := Lib.hid (hr.quiet hG0)
  have hB0 := Bk.new w 35 (frC 0 0)
  obtain ⟨ad, cap, rfl, hcap, hm⟩ := RdR.form hr
  clear hr
  obtain ⟨cl, cn, cs⟩ := cas_ok (pcs l) hp
  have hpl : (pcs l).length = l.length := by unfold pcs; rw [List.length_map]
  rw [hpl] at cl cs
  have hH1 := pow_le l.length h9
  have hH0 := pow_pos100 l.length
  clear hpl
  go_enter Tryd.func64, Tryd.ntmps64
  go_wp2_with fail
  refine (casesOf_c _ l _ HR.out h9 hp).mono ?_; rintro e w2 ⟨g, rfl, hB2, hgw, hG2⟩
  have hG02 := hG0.trans hG2
  have hF2 := hB0.quiet hG2
  clear hG0 hG2 hB0 hp hgw
  have HFIN : Hid (frV (ovF l u) = frV (lowF (ovS (cas (pcs l)) u (l.length + 1)) (100 ^ l.length))) := Lib.hid rfl
  obtain ⟨c, hc⟩ : ∃ c, cas (pcs l) = c := ⟨_, rfl⟩
  obtain ⟨H, hH⟩ : ∃ H : Int, (100 : Int) ^ l.length = H := ⟨_, rfl⟩
  rw [hc, hH] at HFIN
  rw [hc] at cl cn cs hB2
  rw [hH] at cs hH1 hH0 ⊢
  clear hc hH
  go_wp2_with fail
  go_loopw [7, 17] (OvRel w c u (l.length + 1) g) (fun _ i _ => l.length + 1 - (intOf i).toNat)
  case atStart => exact ⟨0, by omega, rfl, rfl, hB2, hF2, hG02⟩
  case round =>
    clear hB2 hF2 hG02
    obtain ⟨k, hkc, rfl, rfl, hB, hF, hG⟩ := hrel
    by_cases hlt : k < l.length + 1
    · have hcell : wr.cell? ⟨g, k, none⟩ = some (.int .i64 (c.getD k 0)) := (hB.cell k).trans (ic_at c k (by omega))
      have hki : (k : Int) < (l.length : Int) + 1 := by omega
      obtain ⟨b0, b1⟩ := ovS_bnd cn u k (by omega)
      obtain ⟨d0, d1⟩ := ovS_bnd cn u (k + 1) (by omega)
      have b2 := take_le cn k
      have e0 := cn.getD k
      have e1 := take_sum c k (by omega)
      have e2 := take_le cn (k + 1)
      rcases (show u < (k : Int) ∨ (k : Int) ≤ u by omega) with hu | hu
      · have HS : Hid (ovS c u (k + 1) = ovS c u k + c.getD k 0) := Lib.hid (by show (if u < (k : Int) then _ else _) = _; rw [if_pos hu])
        have hb : 0 ≤ ovS c u k + c.getD k 0 ∧ ovS c u k + c.getD k 0 ≤ 1000000000000000000 := by omega
        obtain ⟨hb1, hb2⟩ := hb
        obtain ⟨A, hA⟩ : ∃ A, ovS c u k = A := ⟨_, rfl⟩
        obtain ⟨x, hx⟩ : ∃ x, c.getD k 0 = x := ⟨_, rfl⟩
        rw [hA, hx] at HS hb1 hb2
        rw [hx] at hcell
        rw [hA]
        clear hA hx b0 b1 d0 d1 b2 e0 e1 e2
        go_wp2_with fail
        go_roundw
        case rel => exact ⟨k + 1, by omega, by go_num, by rw [HS.out], hB, hF, hG⟩
        case measure => simp [intOf]; omega
      · have HS : Hid (ovS c u (k + 1) = ovS c u k) := Lib.hid (by show (if u < (k : Int) then _ else _) = _; rw [if_neg (by omega)])
        have hnu : ¬ u < (k : Int) := by omega
        obtain ⟨A, hA⟩ : ∃ A, ovS c u k = A := ⟨_, rfl⟩
        rw [hA] at HS
        rw [hA]
        clear hA b0 b1 d0 d1 b2 e0 e1 e2
        go_wp2_with fail
        go_roundw
        case rel => exact ⟨k + 1, by omega, by go_num, by rw [HS.out], hB, hF, hG⟩
        case measure => simp [intOf]; omega
    · obtain rfl : k = l.length + 1 := by omega
      have hnk : ¬ ((l.length : Int) + 1 < (l.length : Int) + 1) := by omega
      obtain ⟨b0, b1⟩ := ovS_bnd cn u (l.length + 1) (by omega)
      have b2 := take_le cn (l.length + 1)
      obtain ⟨A, hA⟩ : ∃ A, ovS c u (l.length + 1) = A := ⟨_, rfl⟩
      rw [hA] at HFIN b0 b1
      rw [hA]
      clear hA
      go_wp2_with fail
      refine (lowest_i A H _ b0 (by omega) hH0 hH1).mono ?_; rintro e w3 ⟨rfl, hG3⟩
      obtain ⟨F, hFF⟩ : ∃ F, lowF A H = F := ⟨_, rfl⟩
      rw [hFF] at HFIN ⊢
      clear hFF
      have hF3 := hF.quiet hG3
      have hG03 := hG.trans hG3
      go_wp2_with (refine wpList_store_row rfl 35 _ _ rfl w.heap.size (frC F.1 F.2) rfl rfl 35 _ hF3 (fr_info F.1 F.2) rfl (fr_one F.1 F.2) ?_)
      refine bodyPost_ret (results_cell_row rfl _ _ w.heap.size 35 (frC F.1 F.2) (0, 0) _ rfl (hF3.setRow _) Tryd.underlying35 rfl (fr_info F.1 F.2)) rfl ?_
      exact ⟨by rw [HFIN.out]; rfl, hG03.setRow (.inl (Nat.le_refl _)) _⟩
def cuE (l : List Bo) (u : Int) : Int := if coE l = 0 then (if inB u 0 500 = false then 1 else 0) else coE l
set_option maxRecDepth 100000 in
set_option maxHeartbeats 2000000 in
theorem checkUnits_c (v : Value) (l : List Bo) (u : Int) (w : World) (hr : RdR w 6 boC v l) (hl : BoOk l) (hn : l.length ≤ 1000) :
    Calls Tryd.prog 63 #[v, .int .i64 u] w fun e w' => e = .returned (.int .i64 (cuE l u)) ∧ G w w' none := by
  have HC : Hid (cuE l u = if coE l = 0 then (if inB u 0 500 = false then 1 else 0) else coE l) := Lib.hid rfl
  go_enter Tryd.func63, Tryd.ntmps63
  go_wp2_with fail
  refine (checkOdds_c v l _ hr hl hn).mono ?_; rintro e w1 ⟨rfl, hG1⟩
  by_cases h0 : coE l = 0
  · have HC1 : Hid (cuE l u = if inB u 0 500 = false then 1 else 0) := Lib.hid (by rw [HC.out, if_pos h0])
    rw [h0]
    clear h0 HC
    go_wp2_with fail
    refine (within_c _ _ _ _).mono ?_; rintro e w' ⟨rfl, rfl⟩
    cases hu : inB u 0 500 with
    | false =>
      have HF : Hid (cuE l u = 1) := Lib.hid (by rw [HC1.out, if_pos hu])
      go_wp2_with fail
      go_ret
      exact ⟨by rw [HF.out]; rfl, hG1⟩
    | true =>
      have HF : Hid (cuE l u = 0) := Lib.hid (by rw [HC1.out, if_neg (by simp [hu])])
      go_wp2_with fail
      go_ret
      exact ⟨by rw [HF.out]; rfl, hG1⟩
  · have HF : Hid (cuE l u = coE l) := Lib.hid (by rw [HC.out, if_neg h0])
    have h0' : (coE l != 0) = true := by rw [bne_iff_ne]; exact h0
    obtain ⟨E, hE⟩ : ∃ E, coE l = E := ⟨_, rfl⟩
    rw [hE] at HF h0' ⊢
    clear h0 hE HC
    go_wp2_with fail
    go_ret
    exact ⟨by rw [HF.out]; rfl, hG1⟩
end Go.Proofs.YtbieiefbgcgogaaDoor
