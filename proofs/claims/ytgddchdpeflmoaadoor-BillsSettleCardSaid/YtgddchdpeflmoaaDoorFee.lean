/- Fees: CheckFees, its reference. -/
import Derived.Test.YtgddchdpeflmoaaDoorExt
import Derived.Deep.RegionHeld3
import Derived.IntWalk
namespace Go.Proofs.YtgddchdpeflmoaaDoor
open Go.RowKit

/-- A fee: from, to, cents. -/
abbrev Fe := ByteArray × ByteArray × Int
def feC (x : Fe) : Array Value := #[.string x.1, .string x.2.1, .int .i64 x.2.2]
theorem feC_sz (x : Fe) : (feC x).size = 3 := rfl
def FeOk (l : List Fe) : Prop := ∀ x ∈ l, Small x.1 ∧ Small x.2.1 ∧ bnd x.2.2
/-- The first that is not 0. -/
def orI (x y : Int) : Int := if x = 0 then y else x
def cmpF (x y : Fe) : Int := orI (cmpI x.1 y.1) (cmpI x.2.1 y.2.1)
def feAfter (b : Option Fe) (x : Fe) : Bool := match b with | none => false | some y => decide (0 ≤ cmpF y x)
def feErr : Option Fe → List Fe → Int
  | _, [] => 0
  | b, x :: r => if keyB x.1 = false then 5 else if keyB x.2.1 = false then 5 else if eqB x.1 x.2.1 = true then 14 else if feAfter b x = true then 7 else if inB x.2.2 0 1000000 = false then 1 else feErr (some x) r
def feE (l : List Fe) : Int := if 500 < l.length then 2 else feErr none l
def prevAt {α : Type} (l : List α) (k : Nat) : Option α := if k = 0 then none else l[k - 1]?
theorem prevAt_succ {α : Type} (l : List α) (k : Nat) (p : α) (h : l[k]? = some p) : prevAt l (k + 1) = some p := by
  unfold prevAt
  rw [if_neg (by omega), Nat.add_sub_cancel, h]
def FeRel (w : World) (l : List Fe) (i : Value) (wr : World) : Prop :=
  ∃ k : Nat, k ≤ l.length ∧ i = .int .i64 k ∧ feErr none l = feErr (prevAt l k) (l.drop k) ∧ G w wr none
end Go.Proofs.YtgddchdpeflmoaaDoor
