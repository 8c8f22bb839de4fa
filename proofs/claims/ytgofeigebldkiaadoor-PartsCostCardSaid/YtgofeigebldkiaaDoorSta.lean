/- Stations: rightHours, CheckStations, StationsFault. -/
import Derived.Test.YtgofeigebldkiaaDoorGenT
import Derived.Test.YtgofeigebldkiaaDoorRkey
namespace Go.Proofs.YtgofeigebldkiaaDoor
open Go.RowKit

/-- The fourteen cells of a station's hours. -/
def hrC (h : Nat → Int) : Array Value := #[.int .i64 (h 0), .int .i64 (h 1), .int .i64 (h 2), .int .i64 (h 3), .int .i64 (h 4), .int .i64 (h 5), .int .i64 (h 6), .int .i64 (h 7), .int .i64 (h 8), .int .i64 (h 9), .int .i64 (h 10), .int .i64 (h 11), .int .i64 (h 12), .int .i64 (h 13)]
/-- The hours of a day are right. -/
def okDay (h : Nat → Int) (i : Nat) : Bool := inB (h (i * 2)) 0 (h (i * 2 + 1)) && decide (h (i * 2 + 1) ≤ 1440)
def okHrs (h : Nat → Int) : Bool := (List.range 7).all (okDay h)
theorem okHrs_no {h : Nat → Int} {k : Nat} (hk : k < 7) (hd : okDay h k = false) : okHrs h = false := by
  unfold okHrs
  rw [List.all_eq_false]
  exact ⟨k, List.mem_range.2 hk, by simp [hd]⟩
theorem okHrs_yes {h : Nat → Int} (hd : (List.range 7).all (okDay h) = true) : okHrs h = true := hd
theorem range_snoc (h : Nat → Int) (k : Nat) : (List.range (k + 1)).all (okDay h) = ((List.range k).all (okDay h) && okDay h k) := by
  rw [List.range_succ, List.all_append, List.all_cons, List.all_nil, Bool.and_true]
def DaysRel (w : World) (h : Nat → Int) (i : Value) (wr : World) : Prop := ∃ k : Nat, k ≤ 7 ∧ i = .int .i64 k ∧ (List.range k).all (okDay h) = true ∧ G w wr none
/-! ### CheckStations, StationsFault -/
/-- Go's '<=' of strings. -/
def leB (a b : ByteArray) : Bool := Op.bytesLess a.toList b.toList || a.toList == b.toList
def staErr (before : ByteArray) : List Sta → Int
  | [] => 0
  | p :: r => if keyB p.1 = false then 5 else if leB p.1 before = true then 7 else if okHrs p.2 = false then 1 else staErr p.1 r
def stErr (l : List Sta) : Int := if 50 < l.length then 2 else staErr ⟨#[]⟩ l
theorem stL_at (l : List Sta) (k : Nat) (p : Sta) (hp : l[k]? = some p) : ∀ j v, (stC p.1 p.2).toList[j]? = some v → (stL l)[k * 15 + j]? = some v := by
  induction l generalizing k with
  | nil => simp at hp
  | cons q r ih =>
    intro j v hv
    have hl : (stC q.1 q.2).toList.length = 15 := rfl
    rw [show stL (q :: r) = (stC q.1 q.2).toList ++ stL r from rfl]
    cases k with
    | zero =>
      obtain rfl : q = p := by simpa using hp
      have hj : j < 15 := by rw [← hl]; exact (List.getElem?_eq_some_iff.1 hv).1
      rw [Nat.zero_mul, Nat.zero_add, List.getElem?_append_left (by rw [hl]; exact hj)]
      exact hv
    | succ k =>
      rw [List.getElem?_append_right (by rw [hl]; omega), hl, show (k + 1) * 15 + j - 15 = k * 15 + j by omega]
      exact ih k (by simpa using hp) j v hv
/-- What every key of such a list meets. -/
def KeysOk (l : List Sta) : Prop := ∀ p ∈ l, p.1.size ≤ 9223372036854775807 ∧ HB p.2
def ChkRel (w : World) (l : List Sta) (v i : Value) (wr : World) : Prop :=
  ∃ (k : Nat) (b : ByteArray), k ≤ l.length ∧ i = .int .i64 k ∧ v = .string b ∧ staErr ⟨#[]⟩ l = staErr b (l.drop k) ∧ G w wr none
end Go.Proofs.YtgofeigebldkiaaDoor
