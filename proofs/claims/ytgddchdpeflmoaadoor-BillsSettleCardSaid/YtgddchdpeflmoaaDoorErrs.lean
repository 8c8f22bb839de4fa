/- The law's own 'errs'. -/
import Derived.Test.YtgddchdpeflmoaaDoorNof
namespace Go.Proofs.YtgddchdpeflmoaaDoor
open Go.RowKit

/-- The first error of some. -/
def errsOf : List Int → Int
  | [] => 0
  | e :: r => if e = 0 then errsOf r else e
def ErrsRel (es : List Int) (i : Value) : Prop := ∃ k : Nat, k ≤ es.length ∧ i = .int .i64 k ∧ errsOf es = errsOf (es.drop k)
theorem errs_at (r : ByteArray) (h : Nat → Int) (t : Int) : errsOf [stErr [(r, h)], momE t] = atE r h t := by
  unfold atE
  show (if stErr [(r, h)] = 0 then (if momE t = 0 then 0 else momE t) else stErr [(r, h)]) = _
  by_cases h1 : stErr [(r, h)] = 0
  · rw [if_pos h1, if_pos h1]
    split
    · omega
    · rfl
  · rw [if_neg h1, if_neg h1]
theorem errs_min (r : ByteArray) (h : Nat → Int) (x y : Int) : errsOf [stErr [(r, h)], winE x y] = minE r h x y := by
  unfold minE
  show (if stErr [(r, h)] = 0 then (if winE x y = 0 then 0 else winE x y) else stErr [(r, h)]) = _
  by_cases h1 : stErr [(r, h)] = 0
  · rw [if_pos h1, if_pos h1]
    split
    · omega
    · rfl
  · rw [if_neg h1, if_neg h1]
end Go.Proofs.YtgddchdpeflmoaaDoor
