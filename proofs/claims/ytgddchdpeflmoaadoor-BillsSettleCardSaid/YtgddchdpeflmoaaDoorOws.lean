/- Rows of structs that a call owns, of whatever make; prefixes of lists of strings. No program. -/
import Derived.Test.YtgddchdpeflmoaaDoorRow
namespace Go.Proofs.YtgddchdpeflmoaaDoor
open Go.RowKit

abbrev OwnX {α : Type} (T : TypeId) (z : Nat) (c : α → Array Value) (w : World) (base : Nat) (v : Value) (l : List α) : Prop := w.ownsRow base T z v l.length (rowL c l)
structure RowOk {α : Type} (P : Program) (T TS : TypeId) (z bytes : Nat) (zv : Value) (c : α → Array Value) : Prop where
  row : (P.info? T).map (fun i => (i.zero, i.size, i.bytes)) = some (some zv, z, bytes)
  slice : P.underlying TS = some (.slice T)
  one : ∀ r, ∀ u ∈ (c r).toList, u.oneCell' = true
  sz : ∀ p, (c p).size = z
  zv : zv.cells.size = z
  pos : 0 < z
  few : bytes ≤ 100000
section
variable {α : Type} {T : TypeId} {z : Nat} {c : α → Array Value}
theorem bk_at {w : World} {g : Nat} {cs : Array Value} (h : Bk w g T cs) : ∀ j u, cs.toList[j]? = some u → w.cell? ((⟨g, 0, none⟩ : Addr).add j) = some u := fun j u hu => by
  rw [add_at, Nat.zero_add, h.cell]
  simpa using hu
theorem wp_append_x {P : Program} {TS : TypeId} {bytes : Nat} {zv : Value} (hk : RowOk P T TS z bytes zv c) {w : World} {o : Oper} {a : Act} {K : Act → World → Prop} {Q : Exit → Act → World → Prop} (s x : Operand)
    (ho : o.op = .call { callee := .builtin .append, args := #[s, x], argTypes := #[TS, TS] }) (base : Nat) (v : Value) (l : List α) (hs : a.eval s = v) (hown : OwnX T z c w base v l)
    (g : Nat) (r : α) (hx : a.eval x = .slice (some ⟨g, 0, none⟩) 1 1) (hb : Bk w g T (c r)) (hl : l.length ≤ 1000) (hbase : base ≤ w.heap.size)
    (hK : ∀ v' w', OwnX T z c w' base v' (l ++ [r]) → w.grownBy w' v.ownBlock → K (a.put o.dst v') w') : o.wp P a w K Q := by
  obtain ⟨i0, hi, hz0, hz1, hz2⟩ := info_parts hk.row
  have hm : (l.length + 1) * bytes ≤ 1001 * 100000 := Nat.mul_le_mul (by omega) hk.few
  refine wp_append_own w s x TS ho base T i0 zv z bytes hk.slice hi hz0 hz1 hz2 hk.zv hk.pos v l.length (rowL c l) hs hown ⟨g, 0, none⟩ 1 1 (c r).toList hx (by rw [Array.length_toList, hk.sz, Nat.one_mul]) (bk_at hb) (hk.one r) (by unfold maxLen; omega) (by omega) hbase ?_
  intro v' w' h1 h2 _
  refine hK v' w' ?_ h2
  unfold OwnX
  rw [List.length_append, rowL_snoc]
  exact h1
theorem OwnX.alloc {w : World} {base : Nat} {v : Value} {l : List α} (h : OwnX T z c w base v l) (o : Obj) : OwnX T z c (w.alloc o) base v l := World.ownsRow.alloc h o
theorem OwnX.kept {w w' : World} {base : Nat} {v : Value} {l : List α} {s : Nat} (h : OwnX T z c w base v l) (hg : G w w' (some s)) (hs : s < base) : OwnX T z c w' base v l := by
  refine World.ownsRow.kept h hg (.inr fun e => ?_)
  have := (World.ownsRow.lt h s e).1
  omega
theorem OwnX.quiet {w w' : World} {base : Nat} {v : Value} {l : List α} (h : OwnX T z c w base v l) (hg : G w w' none) : OwnX T z c w' base v l := World.ownsRow.kept h hg (Classical.em _)
theorem OwnX.drew {w : World} {base : Nat} {v : Value} {l : List α} (h : OwnX T z c w base v l) : OwnX T z c w.drew base v l := h.quiet ((G.refl w none).drew)
theorem OwnX.ne {w : World} {base : Nat} {v : Value} {l : List α} (h : OwnX T z c w base v l) {r : Nat} (hr : r < base ∨ w.heap.size ≤ r) : some r ≠ v.ownBlock := fun e => by
  have := World.ownsRow.lt h r e.symm
  omega
theorem OwnX.far {w : World} {base : Nat} {v : Value} {l : List α} (h : OwnX T z c w base v l) {p : Addr} (hp : some p.block ≠ v.ownBlock) (u : Value) : OwnX T z c (w.setCell p u) base v l := World.ownsRow.kept h (grownBy_setCell_row w p u) (.inr hp.symm)
theorem OwnX.low {w : World} {base : Nat} {v : Value} {l : List α} (h : OwnX T z c w base v l) : ∀ r, v.ownBlock = some r → base ≤ r := fun r e => (World.ownsRow.lt h r e).1
theorem OwnX.down {w : World} {base b : Nat} {v : Value} {l : List α} (h : OwnX T z c w base v l) (hb : b ≤ base) : OwnX T z c w b v l := by
  obtain ⟨h1, h2⟩ := h
  rcases h2 with ⟨rfl, h3⟩ | ⟨g, cap, cur, rfl, h3, h4, h5, h6, h7, h8⟩
  · exact ⟨h1, .inl ⟨rfl, h3⟩⟩
  · exact ⟨h1, .inr ⟨g, cap, cur, rfl, Nat.le_trans hb h3, h4, h5, h6, h7, h8⟩⟩
theorem OwnX.set (hz : ∀ p, (c p).size = z) {w : World} {base g n cap : Nat} {l : List α} {k : Nat} {p q : α} (h : w.ownsRow base T z (.slice (some ⟨g, 0, none⟩) n cap) n (rowL c l)) (hp : l[k]? = some p) (j : Nat) (u : Value) (hj : j < z) (hq : (c q).toList = (c p).toList.set j u) :
    (w.setCell ⟨g, k * z + j, none⟩ u).ownsRow base T z (.slice (some ⟨g, 0, none⟩) n cap) n (rowL c (l.set k q)) := by
  rw [← rowL_set hz l k p q hp j u hj hq]
  exact ownsRow_set h _ _
end
/-- The first of a list of strings. -/
theorem rdS_prefix {w : World} {a : Option Addr} {n cap : Nat} {l : List ByteArray} (h : Rd w 1 (.slice a n cap) l.length (l.map Value.string)) (m : Nat) (hm : m ≤ l.length) : Rd w 1 (.slice a m cap) (l.take m).length ((l.take m).map Value.string) := by
  obtain ⟨a', c', e, h1, h2, h3, h4, h5⟩ := h
  obtain ⟨rfl, rfl, rfl⟩ : a = a' ∧ n = l.length ∧ cap = c' := by cases e; exact ⟨rfl, rfl, rfl⟩
  have hlt : (l.take m).length = m := by rw [List.length_take]; omega
  refine ⟨a, cap, by rw [hlt], by omega, h2, by simp, fun e => ⟨by have := (h4 e).1; omega, (h4 e).2⟩, fun b hb => ?_⟩
  obtain ⟨q1, q2, q3⟩ := h5 b hb
  refine ⟨q1, q2, fun j u hj => q3 j u ?_⟩
  rw [List.map_take] at hj
  rw [← hj, List.getElem?_take]
  have hjl := (List.getElem?_eq_some_iff.1 hj).1
  simp at hjl
  rw [if_pos (by omega)]
end Go.Proofs.YtgddchdpeflmoaaDoor
