/- Extras: CheckExtras, its reference, ExtraCost, its reference. -/
import Derived.Test.YtgddchdpeflmoaaDoorRow
import Derived.Test.YtgddchdpeflmoaaDoorErrs
import Derived.Test.YtgddchdpeflmoaaDoorOrd
import Derived.Test.YtgddchdpeflmoaaDoorRkey
namespace Go.Proofs.YtgddchdpeflmoaaDoor
open Go.RowKit

/-- An extra: its key, Once, Day, Most. -/
abbrev Ext := ByteArray × Int × Int × Int
def exC (x : Ext) : Array Value := #[.string x.1, .int .i64 x.2.1, .int .i64 x.2.2.1, .int .i64 x.2.2.2]
theorem exC_sz (x : Ext) : (exC x).size = 4 := rfl
def ExOk (l : List Ext) : Prop := ∀ x ∈ l, Small x.1 ∧ bnd x.2.1 ∧ bnd x.2.2.1 ∧ bnd x.2.2.2
def exBad (x : Ext) : Bool := !inB x.2.1 0 1000000 || (!inB x.2.2.1 0 1000000 || !inB x.2.2.2 (-1) 1000000)
def exErr (b : ByteArray) : List Ext → Int
  | [] => 0
  | x :: r => if keyB x.1 = false then 5 else if leB x.1 b = true then 7 else if exBad x = true then 1 else exErr x.1 r
def exE (l : List Ext) : Int := if 30 < l.length then 2 else exErr ⟨#[]⟩ l
def ExRel (w : World) (l : List Ext) (v i : Value) (wr : World) : Prop :=
  ∃ (k : Nat) (b : ByteArray), k ≤ l.length ∧ i = .int .i64 k ∧ v = .string b ∧ exErr ⟨#[]⟩ l = exErr b (l.drop k) ∧ G w wr none
end Go.Proofs.YtgddchdpeflmoaaDoor
