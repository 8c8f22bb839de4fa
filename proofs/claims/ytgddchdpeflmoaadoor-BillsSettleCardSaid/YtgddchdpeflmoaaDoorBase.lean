/- Small lemmas on worlds: what a call may have written ('grownBy'), cells behind it, slices that read as lists of cells. No program. -/
import Derived.WalkKit
import Derived.WalkSpells
import Derived.WalkLawsBesides
import Derived.Deep.LoopGhost
import Derived.Deep.Light
import Derived.Deep.QuietTactic
import Derived.BigQuiet
import Derived.Lib.Hide
import Derived.Maps.RangeWalk
namespace Go.Proofs.YtgddchdpeflmoaaDoor
open Go.RowKit

/-- Nothing that was there has turned, but block 's'. -/
abbrev G (w w' : World) (s : Option Nat) : Prop := w.grownBy w' s

theorem G.refl (w : World) (s : Option Nat) : G w w s := World.grownBy.refl w s
theorem G.trans {a b c : World} {s : Option Nat} (h : G a b s) (k : G b c s) : G a c s := World.grownBy.trans h k
theorem G.but {a b : World} (h : G a b none) (s : Option Nat) : G a b s := World.grownBy.but h s
theorem G.trans0 {a b c : World} {s : Option Nat} (h : G a b s) (k : G b c none) : G a c s := World.grownBy.trans h (World.grownBy.but k s)
theorem G.drew {a b : World} {s : Option Nat} (h : G a b s) : G a b.drew s := ⟨h.os, h.tape, h.output, h.size, h.block⟩
theorem G.drewN {a b : World} {s : Option Nat} (h : G a b s) (n : Nat) : G a (b.drewN n) s := ⟨h.os, h.tape, h.output, h.size, h.block⟩
theorem G.alloc {a b : World} {s : Option Nat} (h : G a b s) (o : Obj) : G a (b.alloc o) s := h.trans (World.grownBy_alloc b o s)
theorem grownBy_setCell_row (w : World) (p : Addr) (u : Value) : w.grownBy (w.setCell p u) (some p.block) :=
  ⟨rfl, rfl, rfl, by simp [World.setCell], fun k _ hk => Below.heap_setCell _ _ _ _ (fun e => hk (by rw [e]))⟩
/-- A store into a block that was made since, or into the one that may be written. -/
theorem G.setCell {a b : World} {s : Option Nat} (h : G a b s) {p : Addr} (hp : a.heap.size ≤ p.block ∨ s = some p.block) (u : Value) : G a (b.setCell p u) s :=
  ⟨h.os, h.tape, h.output, by simp [World.setCell]; exact h.size, fun k hk hne => (Below.heap_setCell _ _ _ _ (by
    rcases hp with hp | hp
    · omega
    · intro e; exact hne (by rw [hp, e]))).trans (h.block k hk hne)⟩
/-- Another block may be written, if it was made since. -/
theorem G.other {a b c : World} {s r : Option Nat} (h : G a b s) (k : G b c r) (hr : ∀ j, r = some j → a.heap.size ≤ j ∨ s = some j) : G a c s := World.grownBy.andThen h k hr
/-- What was made since may be written: then nothing that was there has turned. -/
theorem G.own {a b : World} {s : Nat} (h : G a b (some s)) (hs : a.heap.size ≤ s) : G a b none :=
  ⟨h.os, h.tape, h.output, h.size, fun k hk _ => h.block k hk (fun e => by have := Option.some.inj e; omega)⟩
theorem G.below {a b : World} (h : G a b none) : Below a.heap.size a b := ⟨h.os, h.tape, h.output, h.size, fun k hk => h.block k hk (by simp)⟩
theorem Below.G {a b : World} {B : Nat} (h : Below B a b) (hB : B = a.heap.size) : G a b none := ⟨h.os, h.tape, h.output, h.size, fun k hk _ => h.block k (by omega)⟩

/-- The walk's two rules behind a call that writes nothing old: cells, marks. -/
theorem gcell {W w1 : World} (h : G W w1 none) : (∀ b o, b < W.heap.size → w1.cell? ⟨b, o, none⟩ = W.cell? ⟨b, o, none⟩) ∧ (∀ b o, b < W.heap.size → w1.frozen? ⟨b, o, none⟩ = W.frozen? ⟨b, o, none⟩) :=
  ⟨fun b o hb => World.cell?_of_block (w := W) (h.block b hb (by simp)), fun b o hb => World.frozen?_of_block (w := W) (h.block b hb (by simp))⟩
theorem gcell_s {W w1 : World} {s : Nat} (h : G W w1 (some s)) : (∀ b o, b < W.heap.size → b ≠ s → w1.cell? ⟨b, o, none⟩ = W.cell? ⟨b, o, none⟩) ∧ (∀ b o, b < W.heap.size → b ≠ s → w1.frozen? ⟨b, o, none⟩ = W.frozen? ⟨b, o, none⟩) :=
  ⟨fun b o hb hs => World.cell?_of_block (w := W) (h.block b hb (by simpa using hs)), fun b o hb hs => World.frozen?_of_block (w := W) (h.block b hb (by simpa using hs))⟩

theorem wrap64_range (n : Int) : -9223372036854775808 ≤ wrap64 n ∧ wrap64 n ≤ 9223372036854775807 := by unfold wrap64; omega

/-- 'n' elements of 'z' cells each, from an address on, are these cells. -/
def Rd (w : World) (z : Nat) (v : Value) (n : Nat) (cs : List Value) : Prop :=
  ∃ a cap, v = .slice a n cap ∧ n ≤ cap ∧ cap ≤ maxLen ∧ cs.length = n * z ∧ (a = none → n = 0 ∧ cap = 0) ∧
    ∀ b, a = some b → b.spot = none ∧ b.block < w.heap.size ∧ ∀ j u, cs[j]? = some u → w.cell? ⟨b.block, b.off + j, none⟩ = some u

theorem Rd.of_eq {w w' : World} {z : Nat} {v : Value} {n : Nat} {cs : List Value} (h : Rd w z v n cs) (hb : ∀ b, v.ownBlock = some b → b < w.heap.size → b < w'.heap.size ∧ w'.heap[b]? = w.heap[b]?) : Rd w' z v n cs := by
  obtain ⟨a, cap, rfl, h1, h2, h3, h4, h5⟩ := h
  refine ⟨a, cap, rfl, h1, h2, h3, h4, fun b hab => ?_⟩
  obtain ⟨q1, q2, q3⟩ := h5 b hab
  subst hab
  obtain ⟨k1, k2⟩ := hb b.block rfl q2
  exact ⟨q1, k1, fun j u hj => (World.cell?_of_block (w := w) (a := ⟨b.block, b.off + j, none⟩) k2).trans (q3 j u hj)⟩

theorem Rd.grown {w w' : World} {z : Nat} {v : Value} {n : Nat} {cs : List Value} {s : Option Nat} (h : Rd w z v n cs) (hg : G w w' s) (hs : ∀ k, s = some k → v.ownBlock ≠ some k) : Rd w' z v n cs := by
  refine h.of_eq fun b hv hb => ⟨Nat.lt_of_lt_of_le hb hg.size, hg.block b hb fun e => ?_⟩
  exact hs b e.symm hv
theorem Rd.quiet {w w' : World} {z : Nat} {v : Value} {n : Nat} {cs : List Value} (h : Rd w z v n cs) (hg : G w w' none) : Rd w' z v n cs := h.grown hg (fun k e => by cases e)

theorem Rd.of_owns {w : World} {base : Nat} {e : TypeId} {z : Nat} {v : Value} {n : Nat} {cs : List Value} (h : w.ownsRow base e z v n cs) : Rd w z v n cs := by
  have hc := h.cells (g := (v.ownBlock).getD 0)
  obtain ⟨h1, h2⟩ := h
  rcases h2 with ⟨rfl, rfl⟩ | ⟨g, cap, cur, rfl, hb, hg, hn, hm, hs, ht⟩
  · exact ⟨none, 0, rfl, Nat.le_refl _, Nat.zero_le _, h1, fun _ => ⟨rfl, rfl⟩, fun b hb => by cases hb⟩
  · refine ⟨_, cap, rfl, hn, hm, h1, (fun e => by cases e), fun b hb' => ?_⟩
    obtain rfl := Option.some.inj hb'
    refine ⟨rfl, (Array.getElem?_eq_some_iff.1 hg).1, fun j u hj => ?_⟩
    have := hc rfl j u hj
    simp only [Value.ownBlock, Option.getD_some] at this
    rw [Addr.add_lit] at this
    exact this

/-- The element at 'i' of such a slice: its address, its first cell. -/
theorem Rd.elem {w : World} {z : Nat} {a : Option Addr} {n cap m : Nat} {cs : List Value} (h : Rd w z (.slice a n cap) m cs) (hn : 0 < n) :
    m = n ∧ n ≤ cap ∧ cap ≤ maxLen ∧ cs.length = n * z ∧ ∃ b o, a = some ⟨b, o, none⟩ ∧ b < w.heap.size ∧ ∀ j, j < n * z → ∃ u, cs[j]? = some u ∧ w.cell? ⟨b, o + j, none⟩ = some u := by
  obtain ⟨a', c', e', r1, r2, r3, r4, r5⟩ := h
  obtain ⟨rfl, rfl, rfl⟩ : a = a' ∧ n = m ∧ cap = c' := by cases e'; exact ⟨rfl, rfl, rfl⟩
  cases a with
  | none => exact absurd (r4 rfl).1 (by omega)
  | some b =>
    obtain ⟨bb, bo, bs⟩ := b
    obtain ⟨e1, e2, e3⟩ := r5 _ rfl
    dsimp only at e1 e2 e3
    subst e1
    refine ⟨rfl, r1, r2, r3, bb, bo, rfl, e2, fun j hj => ?_⟩
    exact ⟨cs[j]'(by omega), List.getElem?_eq_getElem (by omega), e3 j _ (List.getElem?_eq_getElem (by omega))⟩

/-- A row of cells that was just laid. -/
theorem Rd.new {w : World} {z n : Nat} {T : TypeId} (cs : Array Value) (hc : cs.size = n * z) (hn : n ≤ maxLen) : Rd (w.alloc (.cells cs T)) z (.slice (some ⟨w.heap.size, 0, none⟩) n n) n cs.toList := by
  refine ⟨_, n, rfl, Nat.le_refl _, hn, by simpa using hc, (fun e => by cases e), fun b hb => ?_⟩
  obtain rfl := Option.some.inj hb
  refine ⟨rfl, by simp, fun j u hj => ?_⟩
  rw [Nat.zero_add, cell_of_row (w.alloc (.cells cs T)) w.heap.size j cs T (0, 0) (heap_alloc_new w _)]
  simpa using hj

/-- The same, its block's number written as the walk writes it. -/
theorem Rd.newAt {w : World} {z n b : Nat} {T : TypeId} (cs : Array Value) (hb : w.heap.size = b) (hc : cs.size = n * z) (hn : n ≤ maxLen) : Rd (w.alloc (.cells cs T)) z (.slice (some ⟨b, 0, none⟩) n n) n cs.toList := by
  subst hb
  exact Rd.new cs hc hn

/-- A block that is known whole, nothing of it frozen. -/
def Bk (w : World) (g : Nat) (T : TypeId) (cs : Array Value) : Prop := w.heap[g]? = some (.cells cs T (0, 0))
theorem Bk.lt {w : World} {g : Nat} {T : TypeId} {cs : Array Value} (h : Bk w g T cs) : g < w.heap.size := by
  unfold Bk at h
  exact (Array.getElem?_eq_some_iff.1 h).1
theorem Bk.cell {w : World} {g : Nat} {T : TypeId} {cs : Array Value} (h : Bk w g T cs) (i : Nat) : w.cell? ⟨g, i, none⟩ = cs[i]? := cell_of_row w g i cs T (0, 0) h
theorem Bk.free {w : World} {g : Nat} {T : TypeId} {cs : Array Value} (h : Bk w g T cs) (i : Nat) : w.frozen? ⟨g, i, none⟩ = false := by
  unfold Bk at h
  simp [World.frozen?, h]
theorem Bk.new (w : World) (T : TypeId) (cs : Array Value) : Bk (w.alloc (.cells cs T)) w.heap.size T cs := heap_alloc_new w _
theorem Bk.newAt {w : World} {b : Nat} (hb : w.heap.size = b) (T : TypeId) (cs : Array Value) : Bk (w.alloc (.cells cs T)) b T cs := by
  subst hb
  exact Bk.new w T cs
theorem Bk.grown {w w' : World} {g : Nat} {T : TypeId} {cs : Array Value} {s : Option Nat} (h : Bk w g T cs) (hg : G w w' s) (hs : some g ≠ s) : Bk w' g T cs := (hg.block g h.lt hs).trans h
theorem Bk.quiet {w w' : World} {g : Nat} {T : TypeId} {cs : Array Value} (h : Bk w g T cs) (hg : G w w' none) : Bk w' g T cs := h.grown hg (by simp)
theorem Bk.alloc {w : World} {g : Nat} {T : TypeId} {cs : Array Value} (h : Bk w g T cs) (o : Obj) : Bk (w.alloc o) g T cs := (Below.heap_alloc w o g h.lt).trans h
theorem Bk.drewN {w : World} {g : Nat} {T : TypeId} {cs : Array Value} (h : Bk w g T cs) (n : Nat) : Bk (w.drewN n) g T cs := h
theorem Bk.set {w : World} {g : Nat} {T : TypeId} {cs : Array Value} (h : Bk w g T cs) (i : Nat) (u : Value) : Bk (w.setCell ⟨g, i, none⟩ u) g T (cs.setIfInBounds i u) := by
  unfold Bk at h ⊢
  simp [World.setCell, Array.getElem?_modify, h]
theorem Bk.far {w : World} {g : Nat} {T : TypeId} {cs : Array Value} (h : Bk w g T cs) {p : Addr} (hp : g ≠ p.block) (u : Value) : Bk (w.setCell p u) g T cs := (Below.heap_setCell w p u g hp).trans h

/-! A whole row stored anew. -/
theorem grownBy_setRow (w : World) (g : Nat) (cs : Array Value) : w.grownBy (w.setRow g cs) (some g) :=
  ⟨rfl, rfl, rfl, by simp, fun k _ hk => setRow_other w g k cs (fun e => hk (by rw [e]))⟩
theorem G.setRow {a b : World} {s : Option Nat} (h : G a b s) {g : Nat} (hp : a.heap.size ≤ g ∨ s = some g) (cs : Array Value) : G a (b.setRow g cs) s :=
  h.other (grownBy_setRow b g cs) (fun j e => by obtain rfl := Option.some.inj e; exact hp)
theorem Bk.setRow {w : World} {g : Nat} {T : TypeId} {cs : Array Value} (h : Bk w g T cs) (ds : Array Value) : Bk (w.setRow g ds) g T ds := setRow_heap w g cs ds T (0, 0) h
theorem Bk.farRow {w : World} {g : Nat} {T : TypeId} {cs : Array Value} (h : Bk w g T cs) {k : Nat} (hk : g ≠ k) (ds : Array Value) : Bk (w.setRow k ds) g T cs := (setRow_other w k g ds hk).trans h

theorem add_at (b o j : Nat) : (⟨b, o, none⟩ : Addr).add j = ⟨b, o + j, none⟩ := by unfold Addr.add; split <;> simp_all
/-! A struct or an array read out of the middle of a row. -/
theorem run_loadVar_at {P : Program} (w : World) (a : Addr) (ty : TypeId) (cs : Array Value) (d : TypeDesc) (hc : ∀ j v, cs.toList[j]? = some v → w.cell? (a.add j) = some v)
    (hu : P.underlying ty = some d) (hd : (match d with | .struct _ | .array _ _ => true | _ => false) = true) (hi : (P.info? ty).map (·.size) = some cs.size) :
    (loadVar ty a).run P w = .ok (.agg cs) w := by
  have hl : (loadCells a cs.toList.length).run P w = .ok cs.toList.toArray w := run_loadCells_list (P := P) w a cs.toList hc
  obtain ⟨i, hq, hs⟩ := Option.map_eq_some_iff.1 hi
  have hagg : (isAgg ty).run P w = .ok true w := by
    unfold isAgg
    rw [Sem.run_bind, run_underlying hu w]
    cases d <;> simp_all
  simp only [Array.length_toList, Array.toArray_toList] at hl
  simp [loadVar, Sem.run_bind, hagg, sizeOf, typeInfo, hq, hs, hl]
theorem wpList_load_at {P : Program} {ops : Array Oper} {rest : List Oper} {o : Oper} {a : Act} {w : World} {Q : Exit → Act → World → Prop} (hgd : o.guard = none) (ty : TypeId) (x : Operand) (ho : o.op = .load ty x)
    (ad : Addr) (hx : a.eval x = .pointer (some ad)) (cs : Array Value) (d : TypeDesc) (hc : ∀ j v, cs.toList[j]? = some v → w.cell? (ad.add j) = some v)
    (hu : P.underlying ty = some d) (hd : (match d with | .struct _ | .array _ _ => true | _ => false) = true) (hi : (P.info? ty).map (·.size) = some cs.size)
    (h : wpList P ops Q rest (a.put o.dst (.agg cs)) w) : wpList P ops Q (o :: rest) a w :=
  wpList_plain hgd fun K hK => by
    unfold Oper.wp execOp
    simp only [ho, hx, Instr.loadAt, Instr.sureAddr, Sem.run_bind, Sem.run_pure, Result.andThen_ok, run_loadVar_at w ad ty cs d hc hu hd hi]
    exact hK _ _ h

end Go.Proofs.YtgddchdpeflmoaaDoor
