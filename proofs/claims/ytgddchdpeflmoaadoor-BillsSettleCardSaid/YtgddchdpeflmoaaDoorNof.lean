/- The walks of NextOpenOf, OpenIn, OpenMinutes. -/
import Derived.Test.YtgddchdpeflmoaaDoorMin
import Derived.Test.YtgddchdpeflmoaaDoorQuiet
namespace Go.Proofs.YtgddchdpeflmoaaDoor
open Go.RowKit

/-- What the reference's NextOpenOf returns. -/
def nofV (o : Option Int) : Value := match o with | some n => .tuple #[.int .i64 n, .bool true] | none => .tuple #[.int .i64 0, .bool false]
def NofRel (w : World) (r : ByteArray) (h : Nat → Int) (t d0 : Nat) (o : Option Int) (i : Value) (wr : World) : Prop :=
  ∃ k : Nat, k ≤ 8 ∧ i = .int .i64 ((d0 : Int) + (k : Int)) ∧ o = find (cR h t) (dFrom h) (8 - k) (d0 + k) ∧ G w wr none ∧ Bk wr w.heap.size 59 (stC r h)
/-! ### The minutes of a window -/
/-- How many moments it is open in the first so many days of a window. -/
def accD (h : Nat → Int) (a b : Int) (d0 : Nat) : Nat → Int
  | 0 => 0
  | k + 1 => accD h a b d0 k + ovl (dFrom h (d0 + k)) (dTo h (d0 + k)) a b
def nD (a b : Nat) : Nat := (b + 1439) / 1440 - a / 1440
def openIn (h : Nat → Int) (a b : Nat) : Int := accD h a b (a / 1440) (nD a b)
theorem accD_bd (h : Nat → Int) (a b : Nat) (d0 k : Nat) (hab : a ≤ b) : 0 ≤ accD h a b d0 k ∧ accD h a b d0 k ≤ (k : Int) * ((b : Int) - (a : Int)) := by
  induction k with
  | zero => simp [accD]
  | succ k ih =>
    have h1 : 0 ≤ ovl (dFrom h (d0 + k)) (dTo h (d0 + k)) a b ∧ ovl (dFrom h (d0 + k)) (dTo h (d0 + k)) a b ≤ (b : Int) - (a : Int) := by unfold ovl; omega
    unfold accD
    have h2 : ((k + 1 : Nat) : Int) * ((b : Int) - (a : Int)) = (k : Int) * ((b : Int) - (a : Int)) + ((b : Int) - (a : Int)) := by
      rw [Int.natCast_add, Int.add_mul]; simp
    omega
theorem accD_le (h : Nat → Int) (a b : Nat) (d0 k : Nat) (hab : a ≤ b) (hb : b ≤ 5761440) (hk : k ≤ 4010) : 0 ≤ accD h a b d0 k ∧ accD h a b d0 k ≤ 100000000000 := by
  have h1 := accD_bd h a b d0 k hab
  have h2 : (k : Int) * ((b : Int) - (a : Int)) ≤ 4010 * 5761440 := by
    have h3 : (k : Int) * ((b : Int) - (a : Int)) ≤ 4010 * ((b : Int) - (a : Int)) := Int.mul_le_mul_of_nonneg_right (by omega) (by omega)
    omega
  omega
theorem nD_lt {a b : Nat} (k : Nat) : k < nD a b ↔ (a / 1440 + k) * 1440 < b := by unfold nD; omega
theorem nD_le {a b : Nat} (hb : b ≤ 5761440) : nD a b ≤ 4001 := by unfold nD; omega
def MinRel (w : World) (r : ByteArray) (h : Nat → Int) (a b d0 : Nat) (v i : Value) (wr : World) : Prop :=
  ∃ k : Nat, k ≤ nD a b ∧ i = .int .i64 ((d0 : Int) + (k : Int)) ∧ v = .int .i64 (accD h a b d0 k) ∧ G w wr none ∧ Bk wr w.heap.size 59 (stC r h) ∧ Bk wr (w.heap.size + 1) 54 #[.int .i64 (a : Int), .int .i64 (b : Int)]
def minE (r : ByteArray) (h : Nat → Int) (a b : Int) : Int := if stErr [(r, h)] = 0 then winE a b else stErr [(r, h)]
def minR (r : ByteArray) (h : Nat → Int) (a b : Int) : Int := if minE r h a b = 0 then openIn h a.toNat b.toNat else 0
end Go.Proofs.YtgddchdpeflmoaaDoor
