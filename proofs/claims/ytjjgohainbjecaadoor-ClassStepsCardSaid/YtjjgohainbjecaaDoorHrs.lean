/- One station: hoursOn, overlap, checkMoment, checkStationAt, IsOpen, NextOpen, OpenMinutes. -/
import Derived.Test.YtjjgohainbjecaaDoorStb
namespace Go.Proofs.YtjjgohainbjecaaDoor
open Go.RowKit

/-- When a station opens and closes on a day, as moments. -/
def dFrom (h : Nat → Int) (d : Nat) : Int := (d : Int) * 1440 + h (d % 7 * 2)
def dTo (h : Nat → Int) (d : Nat) : Int := (d : Int) * 1440 + h (d % 7 * 2 + 1)
theorem stC_pair (r : ByteArray) (h : Nat → Int) {w : World} {g : Nat} (hb : Bk w g 66 (stC r h)) (i : Nat) (hi : i < 7) :
    ∀ j v, (#[Value.int .i64 (h (i * 2)), .int .i64 (h (i * 2 + 1))] : Array Value).toList[j]? = some v → w.cell? ((⟨g, 1 + i * 2, none⟩ : Addr).add j) = some v := by
  intro j v hv
  rw [add_at, hb.cell]
  match j with
  | 0 =>
    obtain rfl : Value.int .i64 (h (i * 2)) = v := by simpa using hv
    exact stC_get r h (i * 2) (by omega)
  | 1 =>
    obtain rfl : Value.int .i64 (h (i * 2 + 1)) = v := by simpa using hv
    exact stC_get r h (i * 2 + 1) (by omega)
  | j + 2 => simp at hv
theorem ret_int {k : IntKind} {a b : Int} (h : a = b) : Ending.returned (.int k a) = .returned (.int k b) := by rw [h]
/-- How many moments two windows share. -/
def ovl (a b c d : Int) : Int := max 0 (min b d - max a c)
def small (x : Int) : Prop := -1099600000000 ≤ x ∧ x ≤ 1099600000000
/-! ### Moments, windows -/
def momB (t : Int) : Bool := decide (0 ≤ t) && decide (t < 5761440)
def momE (t : Int) : Int := if momB t = true then 0 else 1
theorem isMoment_c (t : Int) (w : World) : Calls Tryd.prog 43 #[.int .i64 t] w fun e w' => e = .returned (.bool (momB t)) ∧ w = w' := by
  by_cases h1 : 0 ≤ t <;> by_cases h2 : t < 5761440
  all_goals
    have h3 : momB t = (decide (0 ≤ t) && decide (t < 5761440)) := rfl
    simp only [h1, h2, decide_true, decide_false, Bool.and_true, Bool.and_false] at h3
    have H := Lib.hid h3
    clear h3
    go_enter Tryd.func43, Tryd.ntmps43
    go_wp2_with fail
    go_ret
    exact ⟨ret_bool H.out.symm, rfl⟩
theorem checkMoment_c (t : Int) (w : World) : Calls Tryd.prog 36 #[.int .i64 t] w fun e w' => e = .returned (.int .i64 (momE t)) ∧ w = w' := by
  go_enter Tryd.func36, Tryd.ntmps36
  go_wp2_with fail
  refine (isMoment_c _ _).mono ?_; rintro e w' ⟨rfl, rfl⟩
  cases hm : momB t with
  | true =>
    have H : Hid (momE t = 0) := Lib.hid (by simp [momE, hm])
    clear hm
    go_wp2_with fail
    go_ret
    exact ⟨ret_int H.out.symm, rfl⟩
  | false =>
    have H : Hid (momE t = 1) := Lib.hid (by simp [momE, hm])
    clear hm
    go_wp2_with fail
    go_ret
    exact ⟨ret_int H.out.symm, rfl⟩
theorem when_c (b : Bool) (n : Int) (w : World) : Calls Tryd.prog 10 #[.bool b, .int .i64 n] w fun e w' => e = .returned (.int .i64 (if b = true then n else 0)) ∧ w = w' := by
  cases b
  all_goals
    go_enter Tryd.func10, Tryd.ntmps10
    go_wp2_with fail
    go_ret
    exact ⟨rfl, rfl⟩
def winB (a b : Int) : Bool := decide (0 ≤ a) && decide (a ≤ b) && decide (b ≤ 5761440)
def winE (a b : Int) : Int := if winB a b = true then 0 else 1
end Go.Proofs.YtjjgohainbjecaaDoor
