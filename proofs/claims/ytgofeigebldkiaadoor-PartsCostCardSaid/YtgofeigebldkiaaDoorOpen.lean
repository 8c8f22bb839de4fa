/- checkStationAt, IsOpen, NextOpen; OpenAt, NextOpenOf. -/
import Derived.Test.YtgofeigebldkiaaDoorHrs
namespace Go.Proofs.YtgofeigebldkiaaDoor
open Go.RowKit

/-- The error of one station and a moment. -/
def atE (r : ByteArray) (h : Nat → Int) (t : Int) : Int := if stErr [(r, h)] = 0 then momE t else stErr [(r, h)]
theorem staErr_le (b : ByteArray) (l : List Sta) : 0 ≤ staErr b l ∧ staErr b l ≤ 10 := by
  induction l generalizing b with
  | nil => simp [staErr]
  | cons p r ih =>
    unfold staErr
    split
    · omega
    · split
      · omega
      · split
        · omega
        · exact ih _
/-- Whether it is open at a moment. -/
def opB (h : Nat → Int) (t : Nat) : Bool := decide (dFrom h (t / 1440) ≤ (t : Int)) && decide ((t : Int) < dTo h (t / 1440))
theorem atE_mom {r : ByteArray} {h : Nat → Int} {t : Int} (h0 : atE r h t = 0) : 0 ≤ t ∧ t < 5761440 ∧ stErr [(r, h)] = 0 := by
  unfold atE at h0
  split at h0
  · rename_i hs
    unfold momE at h0
    split at h0
    · rename_i hm
      simp only [momB, Bool.and_eq_true, decide_eq_true_eq] at hm
      exact ⟨hm.1, hm.2, hs⟩
    · omega
  · exact absurd h0 (by assumption)
theorem okHrs_of {r : ByteArray} {h : Nat → Int} (h0 : stErr [(r, h)] = 0) : okHrs h = true := by
  simp only [stErr, staErr, List.length_singleton, show ¬ 50 < 1 by omega, if_false] at h0
  split at h0
  · omega
  · split at h0
    · omega
    · split at h0
      · omega
      · rename_i hx
        simpa using hx
theorem okDay_of {h : Nat → Int} (hh : okHrs h = true) (d : Nat) : 0 ≤ h (d % 7 * 2) ∧ h (d % 7 * 2) ≤ h (d % 7 * 2 + 1) ∧ h (d % 7 * 2 + 1) ≤ 1440 := by
  have := List.all_eq_true.1 hh (d % 7) (List.mem_range.2 (Nat.mod_lt _ (by omega)))
  simp only [okDay, inB, Bool.and_eq_true, decide_eq_true_eq] at this
  exact ⟨this.1.1, this.1.2, this.2⟩
def isOpenR (r : ByteArray) (h : Nat → Int) (t : Int) : Bool := if atE r h t = 0 then opB h t.toNat else false
end Go.Proofs.YtgofeigebldkiaaDoor
