/- Odds: the reference's SpreadOf: the counts as a list, and their bounds. No program. -/
import Derived.Test.YtbieiefbgcgogaaDoorOds
namespace Go.Proofs.YtbieiefbgcgogaaDoor

def cntL (ps : List Int) (L N : Nat) : List Int := (List.range (L + 1)).map fun j => smK ps L j N
theorem cntL_len (ps : List Int) (L N : Nat) : (cntL ps L N).length = L + 1 := by simp [cntL]
theorem cntL_at (ps : List Int) (L N j : Nat) (h : j < L + 1) : (cntL ps L N).getD j 0 = smK ps L j N := by
  simp [cntL, List.getD_eq_getElem?_getD, List.getElem?_range h]
theorem cntL_zero (ps : List Int) (L : Nat) : cntL ps L 0 = List.replicate (L + 1) 0 := by
  apply List.ext_getElem
  · simp [cntL]
  · intro i h1 h2
    simp [cntL, smK]
theorem cn_le (s : Nat) : ∀ k, cnK s k ≤ k
  | 0 => Nat.le_refl 0
  | k + 1 => by
    have := cn_le s k
    unfold cnK
    split <;> omega
theorem cntL_next (ps : List Int) (L N : Nat) : cntL ps L (N + 1) = (cntL ps L N).set (cnK N L) ((cntL ps L N).getD (cnK N L) 0 + prK ps N L) := by
  have hc := cn_le N L
  rw [cntL_at ps L N _ (by omega)]
  apply List.ext_getElem
  · simp [cntL]
  · intro i h1 h2
    rw [List.getElem_set]
    split
    · rename_i h; subst h; simp [cntL, smK]
    · rename_i h
      simp [cntL, smK, h]
theorem cntL_cas (ps : List Int) (L : Nat) (h : L ≤ ps.length) : cntL ps L (2 ^ L) = cas (ps.take L) := by
  have hl := cas_len ps L h
  apply List.ext_getElem
  · rw [cntL_len, hl]
  · intro i h1 h2
    have := sm_cas ps L h i
    rw [← cntL_at ps L _ i (by rw [cntL_len] at h1; exact h1)] at this
    simpa [List.getD_eq_getElem?_getD, List.getElem?_eq_getElem h1, List.getElem?_eq_getElem h2] using this
theorem pr_bnd (ps : List Int) (hp : ∀ p ∈ ps, 0 ≤ p ∧ p ≤ 100) (s : Nat) : ∀ k, k ≤ ps.length → 0 ≤ prK ps s k ∧ prK ps s k ≤ 100 ^ k
  | 0, _ => ⟨by simp [prK], by simp [prK]⟩
  | k + 1, h => by
    obtain ⟨h1, h2⟩ := pr_bnd ps hp s k (by omega)
    have hk : ps.getD k 0 ∈ ps := by
      rw [List.getD_eq_getElem?_getD, List.getElem?_eq_getElem (show k < ps.length by omega)]
      exact List.getElem_mem _
    obtain ⟨p0, p1⟩ := hp _ hk
    unfold prK
    have hq : 0 ≤ (if bitK s k = true then ps.getD k 0 else 100 - ps.getD k 0) ∧ (if bitK s k = true then ps.getD k 0 else 100 - ps.getD k 0) ≤ 100 := by split <;> omega
    refine ⟨Int.mul_nonneg h1 hq.1, ?_⟩
    rw [Int.pow_succ]
    exact Int.mul_le_mul h2 hq.2 hq.1 (Int.le_trans h1 h2)
theorem sm_mono (ps : List Int) (hp : ∀ p ∈ ps, 0 ≤ p ∧ p ≤ 100) (k j : Nat) (hk : k ≤ ps.length) (N : Nat) : ∀ M, 0 ≤ smK ps k j N ∧ smK ps k j N ≤ smK ps k j (N + M) := by
  have h0 : ∀ N, 0 ≤ smK ps k j N := fun N => by
    induction N with
    | zero => simp [smK]
    | succ N ih =>
      have := (pr_bnd ps hp N k hk).1
      unfold smK
      split <;> omega
  intro M
  refine ⟨h0 N, ?_⟩
  induction M with
  | zero => exact Int.le_refl _
  | succ M ih =>
    have := (pr_bnd ps hp (N + M) k hk).1
    rw [← Nat.add_assoc]
    have e : smK ps k j (N + M + 1) = smK ps k j (N + M) + (if cnK (N + M) k = j then prK ps (N + M) k else 0) := rfl
    rw [e]
    split <;> omega
theorem sm_bnd (ps : List Int) (hp : ∀ p ∈ ps, 0 ≤ p ∧ p ≤ 100) (k j : Nat) (hk : k ≤ ps.length) (N : Nat) (hN : N ≤ 2 ^ k) : 0 ≤ smK ps k j N ∧ smK ps k j N ≤ 100 ^ k := by
  obtain ⟨M, hM⟩ : ∃ M, 2 ^ k = N + M := ⟨2 ^ k - N, by omega⟩
  obtain ⟨h1, h2⟩ := sm_mono ps hp k j hk N M
  refine ⟨h1, Int.le_trans h2 ?_⟩
  rw [← hM, sm_cas ps k hk j]
  obtain ⟨_, cn, cs⟩ := cas_ok (ps.take k) (fun p h => hp p (List.mem_of_mem_take h))
  have h3 := cn.le_sum j
  rw [cs, List.length_take, Nat.min_eq_left hk] at h3
  exact h3
end Go.Proofs.YtbieiefbgcgogaaDoor
