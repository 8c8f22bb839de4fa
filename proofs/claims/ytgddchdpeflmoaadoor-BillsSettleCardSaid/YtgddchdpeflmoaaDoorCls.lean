/- Classes: checkClassKeys, upsOf, comesBack, CheckClasses. -/
import Derived.Test.YtgddchdpeflmoaaDoorSta
import Derived.Test.YtgddchdpeflmoaaDoorMap
namespace Go.Proofs.YtgddchdpeflmoaaDoor
open Go.RowKit

/-- A class: its key, the key of the one above. -/
abbrev Cla := ByteArray × ByteArray
def clC (p : Cla) : Array Value := #[.string p.1, .string p.2]
def clL (l : List Cla) : List Value := l.flatMap fun p => (clC p).toList
theorem clL_len (l : List Cla) : (clL l).length = l.length * 2 := by
  induction l with
  | nil => rfl
  | cons p l ih => rw [show clL (p :: l) = (clC p).toList ++ clL l from rfl, List.length_append, ih, List.length_cons, show (clC p).toList.length = 2 from rfl]; omega
theorem clL_at (l : List Cla) (k : Nat) (p : Cla) (hp : l[k]? = some p) : ∀ j v, (clC p).toList[j]? = some v → (clL l)[k * 2 + j]? = some v := by
  induction l generalizing k with
  | nil => simp at hp
  | cons q r ih =>
    intro j v hv
    have hl : (clC q).toList.length = 2 := rfl
    rw [show clL (q :: r) = (clC q).toList ++ clL r from rfl]
    cases k with
    | zero =>
      obtain rfl : q = p := by simpa using hp
      have hj : j < 2 := by rw [← hl]; exact (List.getElem?_eq_some_iff.1 hv).1
      rw [Nat.zero_mul, Nat.zero_add, List.getElem?_append_left (by rw [hl]; exact hj)]
      exact hv
    | succ k =>
      rw [List.getElem?_append_right (by rw [hl]; omega), hl, show (k + 1) * 2 + j - 2 = k * 2 + j by omega]
      exact ih k (by simpa using hp) j v hv
def Small (s : ByteArray) : Prop := s.size ≤ 9223372036854775807
def ClsOk (l : List Cla) : Prop := ∀ p ∈ l, Small p.1 ∧ Small p.2
/-- Not the empty string, and no key. -/
def badUp (u : ByteArray) : Bool := !u.toList.isEmpty && !keyB u
def ckErr (before : ByteArray) : List Cla → Int
  | [] => 0
  | p :: r => if keyB p.1 = false then 5 else if leB p.1 before = true then 7 else if badUp p.2 = true then 5 else ckErr p.1 r
def CkRel (w : World) (l : List Cla) (v i : Value) (wr : World) : Prop :=
  ∃ (k : Nat) (b : ByteArray), k ≤ l.length ∧ i = .int .i64 k ∧ v = .string b ∧ ckErr ⟨#[]⟩ l = ckErr b (l.drop k) ∧ G w wr none
end Go.Proofs.YtgddchdpeflmoaaDoor
