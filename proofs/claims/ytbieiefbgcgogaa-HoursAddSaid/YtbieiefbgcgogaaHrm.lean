/- The hours of a station add up; the next open minute (mathematics). -/
import Derived.Test.YtbieiefbgcgogaaNof
namespace Go.Proofs.Ytbieiefbgcgogaa
open Go.RowKit

theorem accD_split (h : Nat → Int) (a b : Int) (d k m : Nat) : accD h a b d (k + m) = accD h a b d k + accD h a b (d + k) m := by
  induction m with
  | zero => simp [accD]
  | succ m ih =>
    show accD h a b d (k + m) + ovl (dFrom h (d + (k + m))) (dTo h (d + (k + m))) a b = accD h a b d k + (accD h a b (d + k) m + ovl (dFrom h (d + k + m)) (dTo h (d + k + m)) a b)
    rw [ih, show d + (k + m) = d + k + m by omega]
    omega
theorem accD_none (h : Nat → Int) (a b : Int) (d k : Nat) (hz : ∀ i, i < k → ovl (dFrom h (d + i)) (dTo h (d + i)) a b = 0) : accD h a b d k = 0 := by
  induction k with
  | zero => rfl
  | succ k ih =>
    show accD h a b d k + ovl (dFrom h (d + k)) (dTo h (d + k)) a b = 0
    rw [ih (fun i hi => hz i (by omega)), hz k (by omega)]
    rfl
theorem ovl_add (x y a b c : Int) (h1 : a ≤ b) (h2 : b ≤ c) : ovl x y a c = ovl x y a b + ovl x y b c := by unfold ovl; omega
theorem accD_add (h : Nat → Int) (a b c : Int) (h1 : a ≤ b) (h2 : b ≤ c) (d k : Nat) : accD h a c d k = accD h a b d k + accD h b c d k := by
  induction k with
  | zero => rfl
  | succ k ih =>
    show accD h a c d k + ovl (dFrom h (d + k)) (dTo h (d + k)) a c = (accD h a b d k + ovl (dFrom h (d + k)) (dTo h (d + k)) a b) + (accD h b c d k + ovl (dFrom h (d + k)) (dTo h (d + k)) b c)
    rw [ih, ovl_add _ _ a b c h1 h2]
    omega
theorem dTo_le {h : Nat → Int} (hh : okHrs h = true) (d : Nat) : (d : Int) * 1440 ≤ dFrom h d ∧ dFrom h d ≤ dTo h d ∧ dTo h d ≤ (d : Int) * 1440 + 1440 := by
  obtain ⟨h1, h2, h3⟩ := okDay_of hh d
  unfold dFrom dTo
  omega
theorem openIn_far {h : Nat → Int} (hh : okHrs h = true) (a b N : Nat) (hab : a ≤ b) (hN : (b + 1439) / 1440 ≤ N) : openIn h a b = accD h a b 0 N := by
  have e1 : N = a / 1440 + (nD a b + (N - (b + 1439) / 1440)) := by unfold nD; omega
  rw [e1, accD_split, accD_split, Nat.zero_add]
  rw [accD_none h a b 0 (a / 1440) (fun i hi => by
    obtain ⟨g1, g2, g3⟩ := dTo_le hh (0 + i)
    unfold ovl
    omega)]
  rw [accD_none h a b (a / 1440 + nD a b) _ (fun i hi => by
    obtain ⟨g1, g2, g3⟩ := dTo_le hh (a / 1440 + nD a b + i)
    have : b ≤ (a / 1440 + nD a b + i) * 1440 := by unfold nD; omega
    unfold ovl
    omega)]
  unfold openIn
  omega
theorem openIn_add {h : Nat → Int} (hh : okHrs h = true) (a b c : Nat) (h1 : a ≤ b) (h2 : b ≤ c) : openIn h a c = openIn h a b + openIn h b c := by
  rw [openIn_far hh a c ((c + 1439) / 1440) (by omega) (Nat.le_refl _), openIn_far hh a b ((c + 1439) / 1440) h1 (by omega), openIn_far hh b c ((c + 1439) / 1440) h2 (Nat.le_refl _)]
  exact accD_add h a b c (by omega) (by omega) 0 _
theorem find_spec {c : Nat → Bool} {v : Nat → Int} {n : Int} : ∀ (k d : Nat), find c v k d = some n → ∃ j, j < k ∧ c (d + j) = true ∧ n = v (d + j) ∧ ∀ i, i < j → c (d + i) = false
  | 0, d, h => by cases h
  | k + 1, d, h => by
    unfold find at h
    cases hc : c d with
    | true =>
      rw [hc, if_pos rfl] at h
      exact ⟨0, by omega, by simpa using hc, (Option.some.inj h).symm, fun i hi => by omega⟩
    | false =>
      rw [hc, if_neg (by decide)] at h
      obtain ⟨j, j1, j2, j3, j4⟩ := find_spec k (d + 1) h
      refine ⟨j + 1, by omega, by rw [show d + (j + 1) = d + 1 + j by omega]; exact j2, by rw [show d + (j + 1) = d + 1 + j by omega]; exact j3, fun i hi => ?_⟩
      cases i with
      | zero => exact hc
      | succ i => rw [show d + (i + 1) = d + 1 + i by omega]; exact j4 i (by omega)
theorem nextO_open {h : Nat → Int} (hh : okHrs h = true) {t : Nat} (ht : t < 5761440) {n : Int} (hn : nextO h t = some n) :
    (t : Int) ≤ n ∧ n < 5761440 ∧ opB h n.toNat = true ∧ openIn h t n.toNat = 0 := by
  obtain ⟨j, j1, j2, j3, j4⟩ := find_spec _ _ hn
  unfold kC at j1
  unfold cC at j2
  have j2 := of_decide_eq_true j2
  unfold vC at j3
  obtain ⟨g1, g2, g3⟩ := dTo_le hh (t / 1440 + j)
  have hn0 : (t : Int) ≤ n := by omega
  have hn1 : n < 5761440 := by omega
  have hd : n.toNat / 1440 = t / 1440 + j := by omega
  refine ⟨hn0, hn1, ?_, ?_⟩
  · unfold opB
    rw [hd, decide_eq_true (by omega), decide_eq_true (by omega)]
    rfl
  · unfold openIn
    refine accD_none _ _ _ _ _ (fun i hi => ?_)
    have hi2 := (nD_lt (a := t) (b := n.toNat) i).1 hi
    by_cases hij : i < j
    · have := of_decide_eq_false (j4 i hij)
      unfold ovl
      omega
    · have hij : i = j := by omega
      subst hij
      unfold ovl
      omega
end Go.Proofs.Ytbieiefbgcgogaa
