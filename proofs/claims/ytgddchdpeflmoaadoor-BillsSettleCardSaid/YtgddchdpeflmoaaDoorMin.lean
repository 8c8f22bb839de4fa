/- NextOpenOf, OpenMinutes, OpenIn. -/
import Derived.Test.YtgddchdpeflmoaaDoorNext
import Derived.Deep.RegionHeld3
namespace Go.Proofs.YtgddchdpeflmoaaDoor
open Go.RowKit

def cR (h : Nat → Int) (t : Nat) (d : Nat) : Bool := decide ((t : Int) < dFrom h d) && decide (dFrom h d < 5761440) && decide (h (d % 7 * 2) < h (d % 7 * 2 + 1))
def refO (h : Nat → Int) (t : Nat) : Option Int := if opB h t = true then some (t : Int) else find (cR h t) (dFrom h) 8 (t / 1440)
theorem find_congr {c c' : Nat → Bool} {v v' : Nat → Int} (n : Nat) : ∀ d, (∀ i, i < n → c (d + i) = c' (d + i) ∧ (c' (d + i) = true → v (d + i) = v' (d + i))) → find c v n d = find c' v' n d := by
  induction n with
  | zero => intro d _; rfl
  | succ n ih =>
    intro d hd
    obtain ⟨h1, h2⟩ := hd 0 (by omega)
    have h3 := ih (d + 1) (fun i hi => by have := hd (i + 1) (by omega); rw [show d + 1 + i = d + (i + 1) by omega]; exact this)
    simp only [Nat.add_zero] at h1 h2
    unfold find
    rw [h1, h3]
    by_cases hc : c' d = true
    · rw [if_pos hc, if_pos hc, h2 hc]
    · rw [if_neg hc, if_neg hc]
theorem find_more {c : Nat → Bool} {v : Nat → Int} (n m : Nat) : ∀ d, (∀ i, n ≤ i → i < n + m → c (d + i) = false) → find c v (n + m) d = find c v n d := by
  induction n with
  | zero =>
    induction m with
    | zero => intro d _; rfl
    | succ m ihm =>
      intro d hd
      have h0 := hd 0 (by omega) (by omega)
      simp only [Nat.add_zero] at h0
      rw [show 0 + (m + 1) = (0 + m) + 1 by omega]
      unfold find
      rw [if_neg (by simp [h0]), ihm (d + 1) (fun i _ hi => by have := hd (i + 1) (by omega) (by omega); rw [show d + 1 + i = d + (i + 1) by omega]; exact this)]
      rfl
  | succ n ih =>
    intro d hd
    rw [show n + 1 + m = (n + m) + 1 by omega]
    unfold find
    rw [ih (d + 1) (fun i h1 h2 => by have := hd (i + 1) (by omega) (by omega); rw [show d + 1 + i = d + (i + 1) by omega]; exact this)]
theorem nextO_ref (h : Nat → Int) (t : Nat) (hh : okHrs h = true) (ht : t < 5761440) : nextO h t = refO h t := by
  have hK : kC t = min 7 (4000 - t / 1440) + 1 := rfl
  unfold nextO refO
  by_cases ho : opB h t = true
  · rw [if_pos ho]
    simp only [opB, Bool.and_eq_true, decide_eq_true_eq] at ho
    rw [hK]
    unfold find
    rw [if_pos (by unfold cC; exact decide_eq_true (by omega))]
    unfold vC
    congr 1
    omega
  · rw [if_neg ho]
    have hno : ¬ (dFrom h (t / 1440) ≤ (t : Int) ∧ (t : Int) < dTo h (t / 1440)) := by
      intro hc; apply ho; simp [opB, hc.1, hc.2]
    obtain ⟨m, hm⟩ : ∃ m, 8 = kC t + m := ⟨8 - kC t, by omega⟩
    rw [hm, find_more (kC t) m (t / 1440) (fun i h1 h2 => ?_)]
    · refine find_congr _ _ fun i hi => ?_
      have hd := okDay_of hh (t / 1440 + i)
      have hF : dFrom h (t / 1440 + i) = ((t / 1440 + i : Nat) : Int) * 1440 + h ((t / 1440 + i) % 7 * 2) := rfl
      have hT : dTo h (t / 1440 + i) = ((t / 1440 + i : Nat) : Int) * 1440 + h ((t / 1440 + i) % 7 * 2 + 1) := rfl
      have hle : t / 1440 + i ≤ 4000 := by omega
      have hno' : i = 0 → ¬ (dFrom h (t / 1440 + i) ≤ (t : Int) ∧ (t : Int) < dTo h (t / 1440 + i)) := by
        intro h0; subst h0; exact hno
      unfold cC cR vC
      generalize h ((t / 1440 + i) % 7 * 2) = x at hd hF ⊢
      generalize h ((t / 1440 + i) % 7 * 2 + 1) = y at hd hT ⊢
      generalize dFrom h (t / 1440 + i) = F at hF hno' ⊢
      generalize dTo h (t / 1440 + i) = T at hT hno' ⊢
      have hiff : (max (t : Int) F < T) ↔ ((t : Int) < F ∧ F < 5761440 ∧ x < y) := by
        rcases Nat.eq_zero_or_pos i with h0 | h0
        · have := hno' h0; omega
        · omega
      constructor
      · rw [Bool.eq_iff_iff]
        simp only [decide_eq_true_eq, Bool.and_eq_true]
        omega
      · simp only [decide_eq_true_eq, Bool.and_eq_true]
        omega
    · have hd := okDay_of hh (t / 1440 + i)
      have hF : dFrom h (t / 1440 + i) = ((t / 1440 + i : Nat) : Int) * 1440 + h ((t / 1440 + i) % 7 * 2) := rfl
      have hge : 4001 ≤ t / 1440 + i := by omega
      unfold cR
      have : ¬ dFrom h (t / 1440 + i) < 5761440 := by omega
      simp [this]
end Go.Proofs.YtgddchdpeflmoaaDoor
