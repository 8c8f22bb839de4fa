/- NextOpen; OpenAt, NextOpenOf. -/
import Derived.Test.YtgddchdpeflmoaaDoorOpen
namespace Go.Proofs.YtgddchdpeflmoaaDoor
open Go.RowKit

/-- The first of so many days at which something is so. -/
def find (c : Nat → Bool) (v : Nat → Int) : Nat → Nat → Option Int
  | 0, _ => none
  | n + 1, d => if c d = true then some (v d) else find c v n (d + 1)
def cC (h : Nat → Int) (t : Nat) (d : Nat) : Bool := decide (max (t : Int) (dFrom h d) < dTo h d)
def vC (h : Nat → Int) (t : Nat) (d : Nat) : Int := max (t : Int) (dFrom h d)
def kC (t : Nat) : Nat := min 7 (4000 - t / 1440) + 1
def nextO (h : Nat → Int) (t : Nat) : Option Int := find (cC h t) (vC h t) (kC t) (t / 1440)
/-- What NextOpen returns. -/
def nextR (r : ByteArray) (h : Nat → Int) (t : Int) : Int × Int :=
  if atE r h t = 0 then (match nextO h t.toNat with | some n => (n, 0) | none => (0, 8)) else (0, atE r h t)
theorem dFrom_bd {h : Nat → Int} (hb : HB h) (d : Nat) : (d : Int) * 1440 - 1099511627776 ≤ dFrom h d ∧ dFrom h d ≤ (d : Int) * 1440 + 1099511627776 := by
  have := hb (d % 7 * 2); unfold dFrom; omega
theorem dTo_bd {h : Nat → Int} (hb : HB h) (d : Nat) : (d : Int) * 1440 - 1099511627776 ≤ dTo h d ∧ dTo h d ≤ (d : Int) * 1440 + 1099511627776 := by
  have := hb (d % 7 * 2 + 1); unfold dTo; omega
def NextRel (w : World) (r : ByteArray) (h : Nat → Int) (t d0 : Nat) (i : Value) (wr : World) : Prop :=
  ∃ k : Nat, k ≤ kC t ∧ i = .int .i64 ((d0 : Int) + (k : Int)) ∧ nextO h t = find (cC h t) (vC h t) (kC t - k) (d0 + k) ∧ G w wr none ∧ Bk wr w.heap.size 59 (stC r h)
/-! ### The reference's -/
end Go.Proofs.YtgddchdpeflmoaaDoor
