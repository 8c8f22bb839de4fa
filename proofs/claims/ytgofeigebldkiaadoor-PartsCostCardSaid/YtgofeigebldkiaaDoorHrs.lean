/- One station: hoursOn, overlap, checkMoment, checkStationAt, IsOpen, NextOpen, OpenMinutes. -/
import Derived.Test.YtgofeigebldkiaaDoorStb
namespace Go.Proofs.YtgofeigebldkiaaDoor
open Go.RowKit

/-- When a station opens and closes on a day, as moments. -/
def dFrom (h : Nat → Int) (d : Nat) : Int := (d : Int) * 1440 + h (d % 7 * 2)
def dTo (h : Nat → Int) (d : Nat) : Int := (d : Int) * 1440 + h (d % 7 * 2 + 1)
theorem ret_int {k : IntKind} {a b : Int} (h : a = b) : Ending.returned (.int k a) = .returned (.int k b) := by rw [h]
/-- How many moments two windows share. -/
def ovl (a b c d : Int) : Int := max 0 (min b d - max a c)
def small (x : Int) : Prop := -1099600000000 ≤ x ∧ x ≤ 1099600000000
/-! ### Moments, windows -/
def momB (t : Int) : Bool := decide (0 ≤ t) && decide (t < 5761440)
def momE (t : Int) : Int := if momB t = true then 0 else 1
theorem when_c (b : Bool) (n : Int) (w : World) : Calls Tryd.prog 19 #[.bool b, .int .i64 n] w fun e w' => e = .returned (.int .i64 (if b = true then n else 0)) ∧ w = w' := by
  cases b
  all_goals
    go_enter Tryd.func19, Tryd.ntmps19
    go_wp2_with fail
    go_ret
    exact ⟨rfl, rfl⟩
def winB (a b : Int) : Bool := decide (0 ≤ a) && decide (a ≤ b) && decide (b ≤ 5761440)
def winE (a b : Int) : Int := if winB a b = true then 0 else 1
end Go.Proofs.YtgofeigebldkiaaDoor
