/- Odds: the sum over the sets of bookings is the product's coefficients. No program. -/
import Derived.Test.YtbieiefbgcgogaaDoorOdm
namespace Go.Proofs.YtbieiefbgcgogaaDoor

theorem getD_set_at (l : List Int) (i : Nat) (v : Int) (h : i < l.length) : (l.set i v).getD i 0 = v := by
  simp [List.getD_eq_getElem?_getD, List.getElem?_set_self h]
theorem nx_at (c : List Int) (p : Int) : ∀ (k : Nat), k ≤ c.length → ∀ j, (nx c p k).getD j 0 = if j ≤ k then (if j < k then (100 - p) * c.getD j 0 else 0) + (if j = 0 then 0 else p * c.getD (j - 1) 0) else 0
  | 0, _, j => by
    have h0 : (nx c p 0).getD j 0 = 0 := by
      simp only [nx, List.getD_eq_getElem?_getD, List.getElem?_replicate]
      split <;> rfl
    rw [h0]
    by_cases hj : j = 0
    · subst hj; simp
    · rw [if_neg (by omega)]
  | k + 1, h, j => by
    have IH := nx_at c p k (by omega)
    have hl := nx_len c p k
    have e1 : (nx c p k).getD (k + 1) 0 = 0 := by rw [IH, if_neg (by omega)]
    simp only [nx]
    by_cases j1 : j = k + 1
    · subst j1
      rw [getD_set_at _ _ _ (by rw [List.length_set, hl]; omega), e1, if_pos (Nat.le_refl _), if_neg (Nat.lt_irrefl _), if_neg (Nat.succ_ne_zero k), Nat.add_sub_cancel, Int.mul_comm p]
    · rw [getD_set_ne _ _ _ _ (fun e => j1 e.symm)]
      by_cases j2 : j = k
      · subst j2
        rw [getD_set_at _ _ _ (by rw [hl]; omega), IH, if_pos (Nat.le_refl _), if_neg (Nat.lt_irrefl _), if_pos (show j ≤ j + 1 by omega), if_pos (show j < j + 1 by omega), Int.mul_comm (100 - p)]
        omega
      · rw [getD_set_ne _ _ _ _ (fun e => j2 e.symm), IH]
        by_cases j3 : j < k
        · rw [if_pos (show j ≤ k by omega), if_pos j3, if_pos (show j ≤ k + 1 by omega), if_pos (show j < k + 1 by omega)]
        · rw [if_neg (show ¬ j ≤ k by omega), if_neg (show ¬ j ≤ k + 1 by omega)]
def bitK (s i : Nat) : Bool := s / 2 ^ i % 2 == 1
def prK (ps : List Int) (s : Nat) : Nat → Int
  | 0 => 1
  | k + 1 => prK ps s k * (if bitK s k = true then ps.getD k 0 else 100 - ps.getD k 0)
def cnK (s : Nat) : Nat → Nat
  | 0 => 0
  | k + 1 => cnK s k + (if bitK s k = true then 1 else 0)
/-- The part of the first N sets in the j-th count. -/
def smK (ps : List Int) (k j : Nat) : Nat → Int
  | 0 => 0
  | N + 1 => smK ps k j N + (if cnK N k = j then prK ps N k else 0)
theorem bit_low {s k : Nat} (h : s < 2 ^ k) : bitK s k = false := by
  unfold bitK
  rw [Nat.div_eq_of_lt h]
  rfl
theorem bit_top {t k : Nat} (h : t < 2 ^ k) : bitK (2 ^ k + t) k = true := by
  unfold bitK
  rw [Nat.add_div_left _ (Nat.two_pow_pos k), Nat.div_eq_of_lt h]
  rfl
theorem bit_add {t k i : Nat} (h : i < k) : bitK (2 ^ k + t) i = bitK t i := by
  unfold bitK
  obtain ⟨m, rfl⟩ : ∃ m, k = i + 1 + m := ⟨k - (i + 1), by omega⟩
  have e : 2 ^ (i + 1 + m) = 2 ^ i * (2 * 2 ^ m) := by rw [Nat.pow_add, Nat.pow_succ, Nat.mul_assoc]
  rw [e, Nat.mul_add_div (Nat.two_pow_pos i)]
  congr 1
  omega
theorem pr_add (ps : List Int) (t k : Nat) : ∀ i, i ≤ k → prK ps (2 ^ k + t) i = prK ps t i ∧ cnK (2 ^ k + t) i = cnK t i
  | 0, _ => ⟨rfl, rfl⟩
  | i + 1, h => by
    obtain ⟨h1, h2⟩ := pr_add ps t k i (by omega)
    simp only [prK, cnK, h1, h2, bit_add (show i < k by omega)]
    exact ⟨trivial, trivial⟩
theorem sm_low (ps : List Int) (k j : Nat) : ∀ N, N ≤ 2 ^ k → smK ps (k + 1) j N = (100 - ps.getD k 0) * smK ps k j N
  | 0, _ => by simp [smK]
  | N + 1, h => by
    have hb := bit_low (show N < 2 ^ k by omega)
    simp only [smK, sm_low ps k j N (by omega), cnK, prK, hb, Int.mul_add]
    simp only [Bool.false_eq_true, if_false, Nat.add_zero]
    split
    · rw [Int.mul_comm (prK ps N k)]
    · simp
theorem sm_top (ps : List Int) (k j : Nat) : ∀ M, M ≤ 2 ^ k → smK ps (k + 1) j (2 ^ k + M) = (100 - ps.getD k 0) * smK ps k j (2 ^ k) + (if j = 0 then 0 else ps.getD k 0 * smK ps k (j - 1) M)
  | 0, _ => by
    show smK ps (k + 1) j (2 ^ k) = _
    rw [sm_low ps k j _ (Nat.le_refl _)]
    simp [smK]
  | M + 1, h => by
    have hb := bit_top (show M < 2 ^ k by omega)
    have h1 := pr_add ps M k k (Nat.le_refl _)
    rw [← Nat.add_assoc]
    simp only [smK, sm_top ps k j M (by omega), cnK, prK, hb, h1.1, h1.2]
    simp only [if_true]
    cases j with
    | zero => simp
    | succ j =>
      simp only [Nat.add_right_cancel_iff, Nat.succ_ne_zero, if_false, Nat.add_sub_cancel, Int.mul_add]
      split
      · rw [Int.mul_comm (prK ps M k)]; omega
      · simp
theorem take_next (ps : List Int) (k : Nat) (h : k < ps.length) : ps.take (k + 1) = ps.take k ++ [ps.getD k 0] := by
  rw [List.take_succ_eq_append_getElem h]
  simp [List.getD_eq_getElem?_getD, List.getElem?_eq_getElem h]
theorem cas_len (ps : List Int) : ∀ k, k ≤ ps.length → (cas (ps.take k)).length = k + 1
  | 0, _ => rfl
  | k + 1, h => by rw [take_next ps k (by omega), cas_snoc, nx_len, cas_len ps k (by omega)]
theorem sm_cas (ps : List Int) : ∀ k, k ≤ ps.length → ∀ j, smK ps k j (2 ^ k) = (cas (ps.take k)).getD j 0
  | 0, _, j => by
    simp [smK, cnK, prK, cas]
    cases j <;> simp
  | k + 1, h, j => by
    rw [Nat.pow_succ, Nat.mul_two, sm_top ps k j _ (Nat.le_refl _), sm_cas ps k (by omega) j, take_next ps k (by omega), cas_snoc, nx_at _ _ _ (Nat.le_refl _)]
    have hl : (cas (ps.take k)).length = k + 1 := cas_len ps k (by omega)
    have h1 := sm_cas ps k (by omega) (j - 1)
    rw [h1, hl]
    have out : ∀ i, k + 1 ≤ i → (cas (ps.take k)).getD i 0 = 0 := fun i hi => by
      rw [List.getD_eq_getElem?_getD, List.getElem?_eq_none (by omega)]
      rfl
    by_cases j1 : j ≤ k + 1
    · rw [if_pos j1]
      by_cases j2 : j < k + 1
      · rw [if_pos j2]
      · rw [if_neg j2, out j (by omega), Int.mul_zero]
    · rw [if_neg j1, out j (by omega), if_neg (by omega), out (j - 1) (by omega), Int.mul_zero, Int.mul_zero]
      rfl
end Go.Proofs.YtbieiefbgcgogaaDoor
