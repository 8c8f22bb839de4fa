/- Generators: Moment, Window, Station, Stations. -/
import Derived.Test.YtgddchdpeflmoaaDoorRows
import Derived.Test.YtgddchdpeflmoaaDoorBase
import Derived.Test.YtgddchdpeflmoaaDoorStream
import Derived.Outline
namespace Go.Proofs.YtgddchdpeflmoaaDoor
open Go.RowKit

def MomentPost (s K : Nat) (w : World) (e : Ending) (w' : World) : Prop := ∃ r : Int, e = .returned (.int .i64 r) ∧ -1 ≤ r ∧ r ≤ 5761440 ∧ SB w' s (K + 1) ∧ G w w' (some s)
/-- The fifteen cells of a station: its key, and the two ends of its hours on seven days. -/
def stC (r : ByteArray) (h : Nat → Int) : Array Value := #[.string r, .int .i64 (h 0), .int .i64 (h 1), .int .i64 (h 2), .int .i64 (h 3), .int .i64 (h 4), .int .i64 (h 5), .int .i64 (h 6), .int .i64 (h 7), .int .i64 (h 8), .int .i64 (h 9), .int .i64 (h 10), .int .i64 (h 11), .int .i64 (h 12), .int .i64 (h 13)]
def upd (h : Nat → Int) (i : Nat) (x : Int) : Nat → Int := fun j => if j = i then x else h j
def HB (h : Nat → Int) : Prop := ∀ j, -1099511627776 ≤ h j ∧ h j ≤ 1099511627776
theorem HB.upd {h : Nat → Int} (hh : HB h) (i : Nat) {x : Int} (h1 : -1099511627776 ≤ x) (h2 : x ≤ 1099511627776) : HB (upd h i x) := by
  intro j
  unfold Go.Proofs.YtgddchdpeflmoaaDoor.upd
  split
  · exact ⟨h1, h2⟩
  · exact hh j
theorem HB.zero : HB (fun _ => 0) := fun _ => ⟨by show (-1099511627776 : Int) ≤ 0; decide, by show (0 : Int) ≤ 1099511627776; decide⟩
theorem stC_zero (r : ByteArray) : #[Value.string r, .int .i64 0, .int .i64 0, .int .i64 0, .int .i64 0, .int .i64 0, .int .i64 0, .int .i64 0, .int .i64 0, .int .i64 0, .int .i64 0, .int .i64 0, .int .i64 0, .int .i64 0, .int .i64 0] = stC r (fun _ => 0) := rfl
theorem stC_set (r : ByteArray) (h : Nat → Int) (i : Nat) (hi : i < 14) (x : Int) : (stC r h).setIfInBounds (1 + i) (.int .i64 x) = stC r (upd h i x) := by
  match i, hi with
  | 0, _ => rfl
  | 1, _ => rfl
  | 2, _ => rfl
  | 3, _ => rfl
  | 4, _ => rfl
  | 5, _ => rfl
  | 6, _ => rfl
  | 7, _ => rfl
  | 8, _ => rfl
  | 9, _ => rfl
  | 10, _ => rfl
  | 11, _ => rfl
  | 12, _ => rfl
  | 13, _ => rfl
theorem stC_get (r : ByteArray) (h : Nat → Int) (i : Nat) (hi : i < 14) : (stC r h)[1 + i]? = some (.int .i64 (h i)) := by
  match i, hi with
  | 0, _ => rfl
  | 1, _ => rfl
  | 2, _ => rfl
  | 3, _ => rfl
  | 4, _ => rfl
  | 5, _ => rfl
  | 6, _ => rfl
  | 7, _ => rfl
  | 8, _ => rfl
  | 9, _ => rfl
  | 10, _ => rfl
  | 11, _ => rfl
  | 12, _ => rfl
  | 13, _ => rfl

theorem st_info (r : ByteArray) (h : Nat → Int) : (Tryd.prog.info? 59).map (·.size) = some (stC r h).size := (by kernel_rfl : (Tryd.prog.info? 59).map (·.size) = some 15)
theorem st_one (r : ByteArray) (h : Nat → Int) : (stC r h).all (·.oneCell') = true := by simp [stC, Value.oneCell']
def StationKeys : List ByteArray := [⟨#[115, 49]⟩, ⟨#[115, 49]⟩, ⟨#[115, 49]⟩, ⟨#[115, 49]⟩, ⟨#[]⟩, ⟨#[65]⟩]
def StationPost (s K : Nat) (w : World) (e : Ending) (w' : World) : Prop :=
  ∃ (r : ByteArray) (h : Nat → Int), e = .returned (.agg (stC r h)) ∧ r ∈ StationKeys ∧ HB h ∧ SB w' s (K + 40) ∧ G w w' (some s)
/-- What stands at the loop's head in 'Station'. -/
def StRel (w : World) (s K g : Nat) (r : ByteArray) (i : Value) (wr : World) : Prop :=
  ∃ (k : Nat) (h : Nat → Int), k ≤ 7 ∧ i = .int .i64 k ∧ HB h ∧ Bk wr g 59 (stC r h) ∧ SB wr s (K + 1 + 3 * k) ∧ G w wr (some s) ∧ Bk wr w.heap.size 59 (stC ⟨#[]⟩ (fun _ => 0)) ∧ w.heap.size < g

theorem wn_info (a b : Int) : (Tryd.prog.info? 54).map (·.size) = some #[Value.int .i64 a, .int .i64 b].size := (by kernel_rfl : (Tryd.prog.info? 54).map (·.size) = some 2)
theorem wn_one (a b : Int) : #[Value.int .i64 a, .int .i64 b].all (·.oneCell') = true := by simp [Value.oneCell']
def WindowPost (s K : Nat) (w : World) (e : Ending) (w' : World) : Prop :=
  ∃ a b : Int, e = .returned (.agg #[.int .i64 a, .int .i64 b]) ∧ -1099511627776 ≤ a ∧ a ≤ 1099511627776 ∧ -1099511627776 ≤ b ∧ b ≤ 1099511627776 ∧ SB w' s (K + 8) ∧ G w w' (some s)
end Go.Proofs.YtgddchdpeflmoaaDoor
