/- Tiers: CheckTiers; the reference's TiersFault. -/
import Derived.Test.YtgddchdpeflmoaaDoorBkf
import Derived.Test.YtgddchdpeflmoaaDoorFee
namespace Go.Proofs.YtgddchdpeflmoaaDoor
open Go.RowKit

/-- A tier: before, permille. -/
abbrev Ti := Int × Int
def tiC (x : Ti) : Array Value := #[.int .i64 x.1, .int .i64 x.2]
theorem tiC_sz (x : Ti) : (tiC x).size = 2 := rfl
def TiOk (l : List Ti) : Prop := ∀ x ∈ l, bnd x.1 ∧ bnd x.2
def tiAfter (b : Option Ti) (x : Ti) : Bool := match b with | none => false | some y => decide (y.1 ≤ x.1) || decide (x.2 < y.2)
def tiErr : Option Ti → List Ti → Int
  | _, [] => 0
  | b, x :: r => if inB x.1 1 5761440 = false then 1 else if inB x.2 0 1000 = false then 1 else if tiAfter b x = true then 7 else tiErr (some x) r
def tiE (l : List Ti) : Int := if 10 < l.length then 2 else tiErr none l
def TiRel (w : World) (l : List Ti) (i : Value) (wr : World) : Prop :=
  ∃ k : Nat, k ≤ l.length ∧ i = .int .i64 k ∧ tiErr none l = tiErr (prevAt l k) (l.drop k) ∧ G w wr none
theorem tiRow {W w : World} {bb bo n cap : Nat} {l : List Ti} (h : RdR W 2 tiC (.slice (some ⟨bb, bo, none⟩) n cap) l) (hG : G W w none) {k : Nat} {p : Ti} (hp : l[k]? = some p) :
    ∀ j v, (tiC p).toList[j]? = some v → w.cell? ((⟨bb, bo + k * 2, none⟩ : Addr).add j) = some v := fun j v hv => by
  rw [add_at]
  exact RdR.cell tiC_sz h hG hp j v hv
end Go.Proofs.YtgddchdpeflmoaaDoor
