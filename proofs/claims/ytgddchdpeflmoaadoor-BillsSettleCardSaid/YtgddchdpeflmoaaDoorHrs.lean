/- One station: hoursOn, overlap, checkMoment, checkStationAt, IsOpen, NextOpen, OpenMinutes. -/
import Derived.Test.YtgddchdpeflmoaaDoorStb
namespace Go.Proofs.YtgddchdpeflmoaaDoor
open Go.RowKit

/-- When a station opens and closes on a day, as moments. -/
def dFrom (h : Nat → Int) (d : Nat) : Int := (d : Int) * 1440 + h (d % 7 * 2)
def dTo (h : Nat → Int) (d : Nat) : Int := (d : Int) * 1440 + h (d % 7 * 2 + 1)
theorem stC_pair (r : ByteArray) (h : Nat → Int) {w : World} {g : Nat} (hb : Bk w g 59 (stC r h)) (i : Nat) (hi : i < 7) :
    ∀ j v, (#[Value.int .i64 (h (i * 2)), .int .i64 (h (i * 2 + 1))] : Array Value).toList[j]? = some v → w.cell? ((⟨g, 1 + i * 2, none⟩ : Addr).add j) = some v := by
  intro j v hv
  rw [add_at, hb.cell]
  match j with
  | 0 =>
    obtain rfl : Value.int .i64 (h (i * 2)) = v := by simpa using hv
    exact stC_get r h (i * 2) (by omega)
  | 1 =>
    obtain rfl : Value.int .i64 (h (i * 2 + 1)) = v := by simpa using hv
    exact stC_get r h (i * 2 + 1) (by omega)
  | j + 2 => simp at hv
set_option maxRecDepth 100000 in
set_option maxHeartbeats 1000000 in
theorem hoursOn_c (r : ByteArray) (h : Nat → Int) (d : Nat) (w : World) (hb : HB h) (hd : d ≤ 10000) :
    Calls Tryd.prog 33 #[.agg (stC r h), .int .i64 (d : Int)] w fun e w' => e = .returned (.agg #[.int .i64 (dFrom h d), .int .i64 (dTo h d)]) ∧ G w w' none := by
  have b1 := hb (d % 7 * 2)
  have b2 := hb (d % 7 * 2 + 1)
  obtain ⟨b11, b12⟩ := b1
  obtain ⟨b21, b22⟩ := b2
  have HP := Lib.hid (stC_pair r h ((Bk.new w 59 (stC r h)).alloc (.cells #[.int .i64 0, .int .i64 0] 54)) (d % 7) (Nat.mod_lt _ (by omega)))
  go_enter Tryd.func33, Tryd.ntmps33
  go_wp2_with (refine wpList_load_at rfl 54 _ rfl ⟨w.heap.size, 1 + d % 7 * 2, none⟩ rfl #[.int .i64 (h (d % 7 * 2)), .int .i64 (h (d % 7 * 2 + 1))] _ HP.out Tryd.underlying54 rfl (wn_info _ _) ?_)
  exact bodyPost_ret (v := .agg #[.int .i64 (dFrom h d), .int .i64 (dTo h d)]) (by simp [results, Tryd.results33, go_sem, dFrom, dTo]) rfl ⟨rfl, (((G.refl _ _).alloc _).alloc _).alloc _⟩

theorem ret_int {k : IntKind} {a b : Int} (h : a = b) : Ending.returned (.int k a) = .returned (.int k b) := by rw [h]
/-- How many moments two windows share. -/
def ovl (a b c d : Int) : Int := max 0 (min b d - max a c)
def small (x : Int) : Prop := -1099600000000 ≤ x ∧ x ≤ 1099600000000
/-! ### Moments, windows -/
def momB (t : Int) : Bool := decide (0 ≤ t) && decide (t < 5761440)
def momE (t : Int) : Int := if momB t = true then 0 else 1
theorem isMoment_c (t : Int) (w : World) : Calls Tryd.prog 56 #[.int .i64 t] w fun e w' => e = .returned (.bool (momB t)) ∧ w = w' := by
  by_cases h1 : 0 ≤ t <;> by_cases h2 : t < 5761440
  all_goals
    have h3 : momB t = (decide (0 ≤ t) && decide (t < 5761440)) := rfl
    simp only [h1, h2, decide_true, decide_false, Bool.and_true, Bool.and_false] at h3
    have H := Lib.hid h3
    clear h3
    go_enter Tryd.func56, Tryd.ntmps56
    go_wp2_with fail
    go_ret
    exact ⟨ret_bool H.out.symm, rfl⟩
theorem checkMoment_c (t : Int) (w : World) : Calls Tryd.prog 43 #[.int .i64 t] w fun e w' => e = .returned (.int .i64 (momE t)) ∧ w = w' := by
  go_enter Tryd.func43, Tryd.ntmps43
  go_wp2_with fail
  refine (isMoment_c _ _).mono ?_; rintro e w' ⟨rfl, rfl⟩
  cases hm : momB t with
  | true =>
    have H : Hid (momE t = 0) := Lib.hid (by simp [momE, hm])
    clear hm
    go_wp2_with fail
    go_ret
    exact ⟨ret_int H.out.symm, rfl⟩
  | false =>
    have H : Hid (momE t = 1) := Lib.hid (by simp [momE, hm])
    clear hm
    go_wp2_with fail
    go_ret
    exact ⟨ret_int H.out.symm, rfl⟩
def winB (a b : Int) : Bool := decide (0 ≤ a) && decide (a ≤ b) && decide (b ≤ 5761440)
def winE (a b : Int) : Int := if winB a b = true then 0 else 1
end Go.Proofs.YtgddchdpeflmoaaDoor
