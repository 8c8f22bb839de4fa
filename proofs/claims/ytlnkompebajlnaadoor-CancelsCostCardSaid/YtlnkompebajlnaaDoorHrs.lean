/- One station: hoursOn, overlap, checkMoment, checkStationAt, IsOpen, NextOpen, OpenMinutes. -/
import Derived.Test.YtlnkompebajlnaaDoorStb
namespace Go.Proofs.YtlnkompebajlnaaDoor
open Go.RowKit

/-- When a station opens and closes on a day, as moments. -/
def dFrom (h : Nat → Int) (d : Nat) : Int := (d : Int) * 1440 + h (d % 7 * 2)
def dTo (h : Nat → Int) (d : Nat) : Int := (d : Int) * 1440 + h (d % 7 * 2 + 1)
theorem ret_int {k : IntKind} {a b : Int} (h : a = b) : Ending.returned (.int k a) = .returned (.int k b) := by rw [h]
/-- How many moments two windows share. -/
def ovl (a b c d : Int) : Int := max 0 (min b d - max a c)
def small (x : Int) : Prop := -1099600000000 ≤ x ∧ x ≤ 1099600000000
/-! ### Moments, windows -/
def momB (t : Int) : Bool := decide (0 ≤ t) && decide (t < 5761440)
def momE (t : Int) : Int := if momB t = true then 0 else 1
theorem isMoment_c (t : Int) (w : World) : Calls Tryd.prog 45 #[.int .i64 t] w fun e w' => e = .returned (.bool (momB t)) ∧ w = w' := by
  by_cases h1 : 0 ≤ t <;> by_cases h2 : t < 5761440
  all_goals
    have h3 : momB t = (decide (0 ≤ t) && decide (t < 5761440)) := rfl
    simp only [h1, h2, decide_true, decide_false, Bool.and_true, Bool.and_false] at h3
    have H := Lib.hid h3
    clear h3
    go_enter Tryd.func45, Tryd.ntmps45
    go_wp2_with fail
    go_ret
    exact ⟨ret_bool H.out.symm, rfl⟩
theorem rMoment_c (t : Int) (w : World) : Calls Tryd.prog 46 #[.int .i64 t] w fun e w' => e = .returned (.bool (momB t)) ∧ w = w' := by
  have H : Hid (inB t 0 5761439 = momB t) := Lib.hid (by unfold inB momB; congr 1; exact decide_eq_decide.2 (by omega))
  go_enter Tryd.func46, Tryd.ntmps46
  go_wp2_with fail
  refine (in_c _ _ _ _).mono ?_; rintro e w' ⟨rfl, rfl⟩
  rw [H.out]
  go_wp2_with fail
  go_ret
  exact ⟨rfl, rfl⟩
theorem when_c (b : Bool) (n : Int) (w : World) : Calls Tryd.prog 14 #[.bool b, .int .i64 n] w fun e w' => e = .returned (.int .i64 (if b = true then n else 0)) ∧ w = w' := by
  cases b
  all_goals
    go_enter Tryd.func14, Tryd.ntmps14
    go_wp2_with fail
    go_ret
    exact ⟨rfl, rfl⟩
theorem momentFault_c (t : Int) (w : World) : Calls Tryd.prog 26 #[.int .i64 t] w fun e w' => e = .returned (.int .i64 (momE t)) ∧ w = w' := by
  have H : Hid ((if (!momB t) = true then 1 else 0) = momE t) := Lib.hid (by unfold momE; cases momB t <;> rfl)
  go_enter Tryd.func26, Tryd.ntmps26
  go_wp2_with fail
  refine (rMoment_c _ _).mono ?_; rintro e w' ⟨rfl, rfl⟩
  go_wp2_with fail
  refine (when_c _ _ _).mono ?_; rintro e w' ⟨rfl, rfl⟩
  rw [H.out]
  go_wp2_with fail
  go_ret
  exact ⟨rfl, rfl⟩
def winB (a b : Int) : Bool := decide (0 ≤ a) && decide (a ≤ b) && decide (b ≤ 5761440)
def winE (a b : Int) : Int := if winB a b = true then 0 else 1
end Go.Proofs.YtlnkompebajlnaaDoor
