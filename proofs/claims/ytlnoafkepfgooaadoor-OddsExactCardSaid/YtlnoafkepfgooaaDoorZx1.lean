/- Base, Odm, Ods, Odt, Row, Stream, GenS, GenT, Key, Rkey, Sta, Stb, Hrs, Has, Open, Next, Min, Quiet, Nof, Errs, Map, Cls, Ups, Chk. -/
import Derived.WalkKit
import Derived.WalkSpells
import Derived.WalkLawsBesides
import Derived.Deep.LoopGhost
import Derived.Deep.Light
import Derived.Deep.QuietTactic
import Derived.BigQuiet
import Derived.Lib.Hide
import Derived.Maps.RangeWalk
import Derived.Test.YtlnoafkepfgooaaDoorRows
import Derived.Outline
import Derived.Test.YtlnoafkepfgooaaDoorShelf
import Derived.Deep.RegionHeld3
import Derived.Maps.OwnSet
import Derived.Maps.OwnOps
import Derived.StringKeys
/- Small lemmas on worlds: what a call may have written ('grownBy'), cells behind it, slices that read as lists of cells. No program. -/
namespace Go.Proofs.YtlnoafkepfgooaaDoor
open Go.RowKit

/-- Nothing that was there has turned, but block 's'. -/
abbrev G (w w' : World) (s : Option Nat) : Prop := w.grownBy w' s

theorem G.refl (w : World) (s : Option Nat) : G w w s := World.grownBy.refl w s
theorem G.trans {a b c : World} {s : Option Nat} (h : G a b s) (k : G b c s) : G a c s := World.grownBy.trans h k
theorem G.but {a b : World} (h : G a b none) (s : Option Nat) : G a b s := World.grownBy.but h s
theorem G.trans0 {a b c : World} {s : Option Nat} (h : G a b s) (k : G b c none) : G a c s := World.grownBy.trans h (World.grownBy.but k s)
theorem G.drew {a b : World} {s : Option Nat} (h : G a b s) : G a b.drew s := ⟨h.os, h.tape, h.output, h.size, h.block⟩
theorem G.drewN {a b : World} {s : Option Nat} (h : G a b s) (n : Nat) : G a (b.drewN n) s := ⟨h.os, h.tape, h.output, h.size, h.block⟩
theorem G.alloc {a b : World} {s : Option Nat} (h : G a b s) (o : Obj) : G a (b.alloc o) s := h.trans (World.grownBy_alloc b o s)
theorem grownBy_setCell_row (w : World) (p : Addr) (u : Value) : w.grownBy (w.setCell p u) (some p.block) :=
  ⟨rfl, rfl, rfl, by simp [World.setCell], fun k _ hk => Below.heap_setCell _ _ _ _ (fun e => hk (by rw [e]))⟩
/-- A store into a block that was made since, or into the one that may be written. -/
theorem G.setCell {a b : World} {s : Option Nat} (h : G a b s) {p : Addr} (hp : a.heap.size ≤ p.block ∨ s = some p.block) (u : Value) : G a (b.setCell p u) s :=
  ⟨h.os, h.tape, h.output, by simp [World.setCell]; exact h.size, fun k hk hne => (Below.heap_setCell _ _ _ _ (by
    rcases hp with hp | hp
    · omega
    · intro e; exact hne (by rw [hp, e]))).trans (h.block k hk hne)⟩
/-- Another block may be written, if it was made since. -/
theorem G.other {a b c : World} {s r : Option Nat} (h : G a b s) (k : G b c r) (hr : ∀ j, r = some j → a.heap.size ≤ j ∨ s = some j) : G a c s := World.grownBy.andThen h k hr
/-- What was made since may be written: then nothing that was there has turned. -/
theorem G.own {a b : World} {s : Nat} (h : G a b (some s)) (hs : a.heap.size ≤ s) : G a b none :=
  ⟨h.os, h.tape, h.output, h.size, fun k hk _ => h.block k hk (fun e => by have := Option.some.inj e; omega)⟩
theorem G.below {a b : World} (h : G a b none) : Below a.heap.size a b := ⟨h.os, h.tape, h.output, h.size, fun k hk => h.block k hk (by simp)⟩
theorem Below.G {a b : World} {B : Nat} (h : Below B a b) (hB : B = a.heap.size) : G a b none := ⟨h.os, h.tape, h.output, h.size, fun k hk _ => h.block k (by omega)⟩

/-- The walk's two rules behind a call that writes nothing old: cells, marks. -/
theorem gcell {W w1 : World} (h : G W w1 none) : (∀ b o, b < W.heap.size → w1.cell? ⟨b, o, none⟩ = W.cell? ⟨b, o, none⟩) ∧ (∀ b o, b < W.heap.size → w1.frozen? ⟨b, o, none⟩ = W.frozen? ⟨b, o, none⟩) :=
  ⟨fun b o hb => World.cell?_of_block (w := W) (h.block b hb (by simp)), fun b o hb => World.frozen?_of_block (w := W) (h.block b hb (by simp))⟩
theorem gcell_s {W w1 : World} {s : Nat} (h : G W w1 (some s)) : (∀ b o, b < W.heap.size → b ≠ s → w1.cell? ⟨b, o, none⟩ = W.cell? ⟨b, o, none⟩) ∧ (∀ b o, b < W.heap.size → b ≠ s → w1.frozen? ⟨b, o, none⟩ = W.frozen? ⟨b, o, none⟩) :=
  ⟨fun b o hb hs => World.cell?_of_block (w := W) (h.block b hb (by simpa using hs)), fun b o hb hs => World.frozen?_of_block (w := W) (h.block b hb (by simpa using hs))⟩

theorem wrap64_range (n : Int) : -9223372036854775808 ≤ wrap64 n ∧ wrap64 n ≤ 9223372036854775807 := by unfold wrap64; omega

/-- 'n' elements of 'z' cells each, from an address on, are these cells. -/
def Rd (w : World) (z : Nat) (v : Value) (n : Nat) (cs : List Value) : Prop :=
  ∃ a cap, v = .slice a n cap ∧ n ≤ cap ∧ cap ≤ maxLen ∧ cs.length = n * z ∧ (a = none → n = 0 ∧ cap = 0) ∧
    ∀ b, a = some b → b.spot = none ∧ b.block < w.heap.size ∧ ∀ j u, cs[j]? = some u → w.cell? ⟨b.block, b.off + j, none⟩ = some u

theorem Rd.of_eq {w w' : World} {z : Nat} {v : Value} {n : Nat} {cs : List Value} (h : Rd w z v n cs) (hb : ∀ b, v.ownBlock = some b → b < w.heap.size → b < w'.heap.size ∧ w'.heap[b]? = w.heap[b]?) : Rd w' z v n cs := by
  obtain ⟨a, cap, rfl, h1, h2, h3, h4, h5⟩ := h
  refine ⟨a, cap, rfl, h1, h2, h3, h4, fun b hab => ?_⟩
  obtain ⟨q1, q2, q3⟩ := h5 b hab
  subst hab
  obtain ⟨k1, k2⟩ := hb b.block rfl q2
  exact ⟨q1, k1, fun j u hj => (World.cell?_of_block (w := w) (a := ⟨b.block, b.off + j, none⟩) k2).trans (q3 j u hj)⟩

theorem Rd.grown {w w' : World} {z : Nat} {v : Value} {n : Nat} {cs : List Value} {s : Option Nat} (h : Rd w z v n cs) (hg : G w w' s) (hs : ∀ k, s = some k → v.ownBlock ≠ some k) : Rd w' z v n cs := by
  refine h.of_eq fun b hv hb => ⟨Nat.lt_of_lt_of_le hb hg.size, hg.block b hb fun e => ?_⟩
  exact hs b e.symm hv
theorem Rd.quiet {w w' : World} {z : Nat} {v : Value} {n : Nat} {cs : List Value} (h : Rd w z v n cs) (hg : G w w' none) : Rd w' z v n cs := h.grown hg (fun k e => by cases e)

theorem Rd.of_owns {w : World} {base : Nat} {e : TypeId} {z : Nat} {v : Value} {n : Nat} {cs : List Value} (h : w.ownsRow base e z v n cs) : Rd w z v n cs := by
  have hc := h.cells (g := (v.ownBlock).getD 0)
  obtain ⟨h1, h2⟩ := h
  rcases h2 with ⟨rfl, rfl⟩ | ⟨g, cap, cur, rfl, hb, hg, hn, hm, hs, ht⟩
  · exact ⟨none, 0, rfl, Nat.le_refl _, Nat.zero_le _, h1, fun _ => ⟨rfl, rfl⟩, fun b hb => by cases hb⟩
  · refine ⟨_, cap, rfl, hn, hm, h1, (fun e => by cases e), fun b hb' => ?_⟩
    obtain rfl := Option.some.inj hb'
    refine ⟨rfl, (Array.getElem?_eq_some_iff.1 hg).1, fun j u hj => ?_⟩
    have := hc rfl j u hj
    simp only [Value.ownBlock, Option.getD_some] at this
    rw [Addr.add_lit] at this
    exact this

/-- The element at 'i' of such a slice: its address, its first cell. -/
theorem Rd.elem {w : World} {z : Nat} {a : Option Addr} {n cap m : Nat} {cs : List Value} (h : Rd w z (.slice a n cap) m cs) (hn : 0 < n) :
    m = n ∧ n ≤ cap ∧ cap ≤ maxLen ∧ cs.length = n * z ∧ ∃ b o, a = some ⟨b, o, none⟩ ∧ b < w.heap.size ∧ ∀ j, j < n * z → ∃ u, cs[j]? = some u ∧ w.cell? ⟨b, o + j, none⟩ = some u := by
  obtain ⟨a', c', e', r1, r2, r3, r4, r5⟩ := h
  obtain ⟨rfl, rfl, rfl⟩ : a = a' ∧ n = m ∧ cap = c' := by cases e'; exact ⟨rfl, rfl, rfl⟩
  cases a with
  | none => exact absurd (r4 rfl).1 (by omega)
  | some b =>
    obtain ⟨bb, bo, bs⟩ := b
    obtain ⟨e1, e2, e3⟩ := r5 _ rfl
    dsimp only at e1 e2 e3
    subst e1
    refine ⟨rfl, r1, r2, r3, bb, bo, rfl, e2, fun j hj => ?_⟩
    exact ⟨cs[j]'(by omega), List.getElem?_eq_getElem (by omega), e3 j _ (List.getElem?_eq_getElem (by omega))⟩

/-- A row of cells that was just laid. -/
theorem Rd.new {w : World} {z n : Nat} {T : TypeId} (cs : Array Value) (hc : cs.size = n * z) (hn : n ≤ maxLen) : Rd (w.alloc (.cells cs T)) z (.slice (some ⟨w.heap.size, 0, none⟩) n n) n cs.toList := by
  refine ⟨_, n, rfl, Nat.le_refl _, hn, by simpa using hc, (fun e => by cases e), fun b hb => ?_⟩
  obtain rfl := Option.some.inj hb
  refine ⟨rfl, by simp, fun j u hj => ?_⟩
  rw [Nat.zero_add, cell_of_row (w.alloc (.cells cs T)) w.heap.size j cs T (0, 0) (heap_alloc_new w _)]
  simpa using hj

/-- The same, its block's number written as the walk writes it. -/
theorem Rd.newAt {w : World} {z n b : Nat} {T : TypeId} (cs : Array Value) (hb : w.heap.size = b) (hc : cs.size = n * z) (hn : n ≤ maxLen) : Rd (w.alloc (.cells cs T)) z (.slice (some ⟨b, 0, none⟩) n n) n cs.toList := by
  subst hb
  exact Rd.new cs hc hn

/-- A block that is known whole, nothing of it frozen. -/
def Bk (w : World) (g : Nat) (T : TypeId) (cs : Array Value) : Prop := w.heap[g]? = some (.cells cs T (0, 0))
theorem Bk.lt {w : World} {g : Nat} {T : TypeId} {cs : Array Value} (h : Bk w g T cs) : g < w.heap.size := by
  unfold Bk at h
  exact (Array.getElem?_eq_some_iff.1 h).1
theorem Bk.cell {w : World} {g : Nat} {T : TypeId} {cs : Array Value} (h : Bk w g T cs) (i : Nat) : w.cell? ⟨g, i, none⟩ = cs[i]? := cell_of_row w g i cs T (0, 0) h
theorem Bk.free {w : World} {g : Nat} {T : TypeId} {cs : Array Value} (h : Bk w g T cs) (i : Nat) : w.frozen? ⟨g, i, none⟩ = false := by
  unfold Bk at h
  simp [World.frozen?, h]
theorem Bk.new (w : World) (T : TypeId) (cs : Array Value) : Bk (w.alloc (.cells cs T)) w.heap.size T cs := heap_alloc_new w _
theorem Bk.newAt {w : World} {b : Nat} (hb : w.heap.size = b) (T : TypeId) (cs : Array Value) : Bk (w.alloc (.cells cs T)) b T cs := by
  subst hb
  exact Bk.new w T cs
theorem Bk.grown {w w' : World} {g : Nat} {T : TypeId} {cs : Array Value} {s : Option Nat} (h : Bk w g T cs) (hg : G w w' s) (hs : some g ≠ s) : Bk w' g T cs := (hg.block g h.lt hs).trans h
theorem Bk.quiet {w w' : World} {g : Nat} {T : TypeId} {cs : Array Value} (h : Bk w g T cs) (hg : G w w' none) : Bk w' g T cs := h.grown hg (by simp)
theorem Bk.alloc {w : World} {g : Nat} {T : TypeId} {cs : Array Value} (h : Bk w g T cs) (o : Obj) : Bk (w.alloc o) g T cs := (Below.heap_alloc w o g h.lt).trans h
theorem Bk.drewN {w : World} {g : Nat} {T : TypeId} {cs : Array Value} (h : Bk w g T cs) (n : Nat) : Bk (w.drewN n) g T cs := h
theorem Bk.set {w : World} {g : Nat} {T : TypeId} {cs : Array Value} (h : Bk w g T cs) (i : Nat) (u : Value) : Bk (w.setCell ⟨g, i, none⟩ u) g T (cs.setIfInBounds i u) := by
  unfold Bk at h ⊢
  simp [World.setCell, Array.getElem?_modify, h]
theorem Bk.far {w : World} {g : Nat} {T : TypeId} {cs : Array Value} (h : Bk w g T cs) {p : Addr} (hp : g ≠ p.block) (u : Value) : Bk (w.setCell p u) g T cs := (Below.heap_setCell w p u g hp).trans h

/-! A whole row stored anew. -/
theorem grownBy_setRow (w : World) (g : Nat) (cs : Array Value) : w.grownBy (w.setRow g cs) (some g) :=
  ⟨rfl, rfl, rfl, by simp, fun k _ hk => setRow_other w g k cs (fun e => hk (by rw [e]))⟩
theorem G.setRow {a b : World} {s : Option Nat} (h : G a b s) {g : Nat} (hp : a.heap.size ≤ g ∨ s = some g) (cs : Array Value) : G a (b.setRow g cs) s :=
  h.other (grownBy_setRow b g cs) (fun j e => by obtain rfl := Option.some.inj e; exact hp)
theorem Bk.setRow {w : World} {g : Nat} {T : TypeId} {cs : Array Value} (h : Bk w g T cs) (ds : Array Value) : Bk (w.setRow g ds) g T ds := setRow_heap w g cs ds T (0, 0) h
theorem Bk.farRow {w : World} {g : Nat} {T : TypeId} {cs : Array Value} (h : Bk w g T cs) {k : Nat} (hk : g ≠ k) (ds : Array Value) : Bk (w.setRow k ds) g T cs := (setRow_other w k g ds hk).trans h

theorem add_at (b o j : Nat) : (⟨b, o, none⟩ : Addr).add j = ⟨b, o + j, none⟩ := by unfold Addr.add; split <;> simp_all
/-! A struct or an array read out of the middle of a row. -/
theorem run_loadVar_at {P : Program} (w : World) (a : Addr) (ty : TypeId) (cs : Array Value) (d : TypeDesc) (hc : ∀ j v, cs.toList[j]? = some v → w.cell? (a.add j) = some v)
    (hu : P.underlying ty = some d) (hd : (match d with | .struct _ | .array _ _ => true | _ => false) = true) (hi : (P.info? ty).map (·.size) = some cs.size) :
    (loadVar ty a).run P w = .ok (.agg cs) w := by
  have hl : (loadCells a cs.toList.length).run P w = .ok cs.toList.toArray w := run_loadCells_list (P := P) w a cs.toList hc
  obtain ⟨i, hq, hs⟩ := Option.map_eq_some_iff.1 hi
  have hagg : (isAgg ty).run P w = .ok true w := by
    unfold isAgg
    rw [Sem.run_bind, run_underlying hu w]
    cases d <;> simp_all
  simp only [Array.length_toList, Array.toArray_toList] at hl
  simp [loadVar, Sem.run_bind, hagg, sizeOf, typeInfo, hq, hs, hl]
theorem wpList_load_at {P : Program} {ops : Array Oper} {rest : List Oper} {o : Oper} {a : Act} {w : World} {Q : Exit → Act → World → Prop} (hgd : o.guard = none) (ty : TypeId) (x : Operand) (ho : o.op = .load ty x)
    (ad : Addr) (hx : a.eval x = .pointer (some ad)) (cs : Array Value) (d : TypeDesc) (hc : ∀ j v, cs.toList[j]? = some v → w.cell? (ad.add j) = some v)
    (hu : P.underlying ty = some d) (hd : (match d with | .struct _ | .array _ _ => true | _ => false) = true) (hi : (P.info? ty).map (·.size) = some cs.size)
    (h : wpList P ops Q rest (a.put o.dst (.agg cs)) w) : wpList P ops Q (o :: rest) a w :=
  wpList_plain hgd fun K hK => by
    unfold Oper.wp execOp
    simp only [ho, hx, Instr.loadAt, Instr.sureAddr, Sem.run_bind, Sem.run_pure, Result.andThen_ok, run_loadVar_at w ad ty cs d hc hu hd hi]
    exact hK _ _ h

end Go.Proofs.YtlnoafkepfgooaaDoor

/- Odds: the numbers of cases, reckoned as the program does. No program. -/
namespace Go.Proofs.YtlnoafkepfgooaaDoor
open Go.RowKit

/-- The new numbers of cases after j of the old ones were spread. -/
def nx (c : List Int) (p : Int) : Nat → List Int
  | 0 => List.replicate (c.length + 1) 0
  | j + 1 => ((nx c p j).set j ((nx c p j).getD j 0 + c.getD j 0 * (100 - p))).set (j + 1) ((nx c p j).getD (j + 1) 0 + c.getD j 0 * p)
def cas (ps : List Int) : List Int := ps.foldl (fun c p => nx c p c.length) [1]
theorem nx_len (c : List Int) (p : Int) (j : Nat) : (nx c p j).length = c.length + 1 := by
  induction j with
  | zero => simp [nx]
  | succ j ih => simp [nx, ih]
theorem sum_set (l : List Int) : ∀ (i : Nat) (v : Int), i < l.length → (l.set i v).sum = l.sum + (v - l.getD i 0) := by
  induction l with
  | nil => intro i v h; simp at h
  | cons x r ih =>
    intro i v h
    cases i with
    | zero => simp; omega
    | succ i =>
      have := ih i v (by simpa using h)
      simp only [List.set_cons_succ, List.sum_cons, List.getD_cons_succ]
      omega
theorem gdset_ne (l : List Int) (i j : Nat) (v : Int) (h : i ≠ j) : (l.set i v).getD j 0 = l.getD j 0 := by
  simp [List.getD, h]
theorem take_sum (c : List Int) (j : Nat) (h : j < c.length) : (c.take (j + 1)).sum = (c.take j).sum + c.getD j 0 := by
  rw [List.take_succ_eq_append_getElem h, List.sum_append]
  simp [List.getD, h]
theorem nx_sum (c : List Int) (p : Int) (j : Nat) (h : j ≤ c.length) : (nx c p j).sum = 100 * (c.take j).sum := by
  induction j with
  | zero => simp [nx]
  | succ j ih =>
    have hl := nx_len c p j
    unfold nx
    rw [sum_set _ _ _ (by rw [List.length_set, hl]; omega), sum_set _ _ _ (by rw [hl]; omega), gdset_ne _ _ _ _ (by omega), ih (by omega), take_sum c j (by omega)]
    have : c.getD j 0 * (100 - p) + c.getD j 0 * p = 100 * c.getD j 0 := by rw [← Int.mul_add]; rw [show (100 - p + p : Int) = 100 by omega, Int.mul_comm]
    omega
def NN (c : List Int) : Prop := ∀ x ∈ c, 0 ≤ x
theorem NN.getD {c : List Int} (h : NN c) (j : Nat) : 0 ≤ c.getD j 0 := by
  unfold List.getD
  cases hc : c[j]? with
  | none => exact Int.le_refl 0
  | some x => exact h x (List.mem_of_getElem? hc)
theorem NN.set {c : List Int} (h : NN c) (i : Nat) {v : Int} (hv : 0 ≤ v) : NN (c.set i v) := fun x hx => by
  rcases List.mem_or_eq_of_mem_set hx with hx | rfl
  · exact h x hx
  · exact hv
theorem nx_nn {c : List Int} {p : Int} (hc : NN c) (h0 : 0 ≤ p) (h1 : p ≤ 100) (j : Nat) : NN (nx c p j) := by
  induction j with
  | zero => intro x hx; have := List.eq_of_mem_replicate hx; omega
  | succ j ih =>
    unfold nx
    refine NN.set (NN.set ih j ?_) (j + 1) ?_
    · exact Int.add_nonneg (ih.getD j) (Int.mul_nonneg (hc.getD j) (by omega))
    · exact Int.add_nonneg (ih.getD (j + 1)) (Int.mul_nonneg (hc.getD j) h0)
theorem NN.sum {c : List Int} (h : NN c) : 0 ≤ c.sum := by
  induction c with
  | nil => exact Int.le_refl 0
  | cons x r ih =>
    have h1 := h x (List.mem_cons_self ..)
    have h2 := ih fun y hy => h y (List.mem_cons_of_mem _ hy)
    simp only [List.sum_cons]
    omega
theorem NN.le_sum {c : List Int} (h : NN c) (j : Nat) : c.getD j 0 ≤ c.sum := by
  induction c generalizing j with
  | nil => simp
  | cons x r ih =>
    have h1 := h x (List.mem_cons_self ..)
    have hr : NN r := fun y hy => h y (List.mem_cons_of_mem _ hy)
    have h2 := hr.sum
    cases j with
    | zero => simp only [List.getD_cons_zero, List.sum_cons]; omega
    | succ j =>
      have := ih hr j
      simp only [List.getD_cons_succ, List.sum_cons]
      omega
theorem cas_snoc (ps : List Int) (p : Int) : cas (ps ++ [p]) = nx (cas ps) p (cas ps).length := by
  unfold cas
  rw [List.foldl_append]
  rfl
theorem cas_ok (ps : List Int) (h : ∀ p ∈ ps, 0 ≤ p ∧ p ≤ 100) : (cas ps).length = ps.length + 1 ∧ NN (cas ps) ∧ (cas ps).sum = 100 ^ ps.length := by
  have key : ∀ (n : Nat) (ps : List Int), ps.length = n → (∀ p ∈ ps, 0 ≤ p ∧ p ≤ 100) → (cas ps).length = ps.length + 1 ∧ NN (cas ps) ∧ (cas ps).sum = 100 ^ ps.length := by
    intro n
    induction n with
    | zero =>
      intro ps hn _
      obtain rfl := List.eq_nil_of_length_eq_zero hn
      refine ⟨rfl, ?_, rfl⟩
      intro x hx
      have := List.mem_singleton.1 (show x ∈ [1] from hx)
      omega
    | succ n ih =>
      intro ps hn h
      obtain ⟨qs, p, rfl⟩ : ∃ qs p, ps = qs ++ [p] := ⟨ps.dropLast, ps.getLast (by intro e; rw [e] at hn; simp at hn), (List.dropLast_concat_getLast _).symm⟩
      simp at hn
      obtain ⟨h1, h2, h3⟩ := ih qs hn (fun q hq => h q (by simp [hq]))
      obtain ⟨p0, p1⟩ := h p (by simp)
      rw [cas_snoc]
      refine ⟨by rw [nx_len, h1]; simp, nx_nn h2 p0 p1 _, ?_⟩
      rw [nx_sum _ _ _ (Nat.le_refl _), List.take_length, h3, List.length_append, List.length_singleton, Int.pow_succ, Int.mul_comm]
  exact key ps.length ps rfl h
/-- A row of ints. -/
def ic (l : List Int) : Array Value := (l.map (Value.int .i64)).toArray
theorem ic_at (l : List Int) (j : Nat) (h : j < l.length) : (ic l)[j]? = some (.int .i64 (l.getD j 0)) := by
  simp [ic, List.getD, h]
theorem ic_set (l : List Int) (j : Nat) (v : Int) : (ic l).setIfInBounds j (.int .i64 v) = ic (l.set j v) := by
  simp [ic, List.map_set]
theorem ic_size (l : List Int) : (ic l).size = l.length := by simp [ic]
end Go.Proofs.YtlnoafkepfgooaaDoor

/- Odds: the sum over the sets of bookings is the product's coefficients. No program. -/
namespace Go.Proofs.YtlnoafkepfgooaaDoor

theorem getD_set_at (l : List Int) (i : Nat) (v : Int) (h : i < l.length) : (l.set i v).getD i 0 = v := by
  simp [List.getD_eq_getElem?_getD, List.getElem?_set_self h]
theorem nx_at (c : List Int) (p : Int) : ∀ (k : Nat), k ≤ c.length → ∀ j, (nx c p k).getD j 0 = if j ≤ k then (if j < k then (100 - p) * c.getD j 0 else 0) + (if j = 0 then 0 else p * c.getD (j - 1) 0) else 0
  | 0, _, j => by
    have h0 : (nx c p 0).getD j 0 = 0 := by
      simp only [nx, List.getD_eq_getElem?_getD, List.getElem?_replicate]
      split <;> rfl
    rw [h0]
    by_cases hj : j = 0
    · subst hj; simp
    · rw [if_neg (by omega)]
  | k + 1, h, j => by
    have IH := nx_at c p k (by omega)
    have hl := nx_len c p k
    have e1 : (nx c p k).getD (k + 1) 0 = 0 := by rw [IH, if_neg (by omega)]
    simp only [nx]
    by_cases j1 : j = k + 1
    · subst j1
      rw [getD_set_at _ _ _ (by rw [List.length_set, hl]; omega), e1, if_pos (Nat.le_refl _), if_neg (Nat.lt_irrefl _), if_neg (Nat.succ_ne_zero k), Nat.add_sub_cancel, Int.mul_comm p]
    · rw [gdset_ne _ _ _ _ (fun e => j1 e.symm)]
      by_cases j2 : j = k
      · subst j2
        rw [getD_set_at _ _ _ (by rw [hl]; omega), IH, if_pos (Nat.le_refl _), if_neg (Nat.lt_irrefl _), if_pos (show j ≤ j + 1 by omega), if_pos (show j < j + 1 by omega), Int.mul_comm (100 - p)]
        omega
      · rw [gdset_ne _ _ _ _ (fun e => j2 e.symm), IH]
        by_cases j3 : j < k
        · rw [if_pos (show j ≤ k by omega), if_pos j3, if_pos (show j ≤ k + 1 by omega), if_pos (show j < k + 1 by omega)]
        · rw [if_neg (show ¬ j ≤ k by omega), if_neg (show ¬ j ≤ k + 1 by omega)]
def bitK (s i : Nat) : Bool := s / 2 ^ i % 2 == 1
def prK (ps : List Int) (s : Nat) : Nat → Int
  | 0 => 1
  | k + 1 => prK ps s k * (if bitK s k = true then ps.getD k 0 else 100 - ps.getD k 0)
def cnK (s : Nat) : Nat → Nat
  | 0 => 0
  | k + 1 => cnK s k + (if bitK s k = true then 1 else 0)
/-- The part of the first N sets in the j-th count. -/
def smK (ps : List Int) (k j : Nat) : Nat → Int
  | 0 => 0
  | N + 1 => smK ps k j N + (if cnK N k = j then prK ps N k else 0)
theorem bit_low {s k : Nat} (h : s < 2 ^ k) : bitK s k = false := by
  unfold bitK
  rw [Nat.div_eq_of_lt h]
  rfl
theorem bit_top {t k : Nat} (h : t < 2 ^ k) : bitK (2 ^ k + t) k = true := by
  unfold bitK
  rw [Nat.add_div_left _ (Nat.two_pow_pos k), Nat.div_eq_of_lt h]
  rfl
theorem bit_add {t k i : Nat} (h : i < k) : bitK (2 ^ k + t) i = bitK t i := by
  unfold bitK
  obtain ⟨m, rfl⟩ : ∃ m, k = i + 1 + m := ⟨k - (i + 1), by omega⟩
  have e : 2 ^ (i + 1 + m) = 2 ^ i * (2 * 2 ^ m) := by rw [Nat.pow_add, Nat.pow_succ, Nat.mul_assoc]
  rw [e, Nat.mul_add_div (Nat.two_pow_pos i)]
  congr 1
  omega
theorem pr_add (ps : List Int) (t k : Nat) : ∀ i, i ≤ k → prK ps (2 ^ k + t) i = prK ps t i ∧ cnK (2 ^ k + t) i = cnK t i
  | 0, _ => ⟨rfl, rfl⟩
  | i + 1, h => by
    obtain ⟨h1, h2⟩ := pr_add ps t k i (by omega)
    simp only [prK, cnK, h1, h2, bit_add (show i < k by omega)]
    exact ⟨trivial, trivial⟩
theorem sm_low (ps : List Int) (k j : Nat) : ∀ N, N ≤ 2 ^ k → smK ps (k + 1) j N = (100 - ps.getD k 0) * smK ps k j N
  | 0, _ => by simp [smK]
  | N + 1, h => by
    have hb := bit_low (show N < 2 ^ k by omega)
    simp only [smK, sm_low ps k j N (by omega), cnK, prK, hb, Int.mul_add]
    simp only [Bool.false_eq_true, if_false, Nat.add_zero]
    split
    · rw [Int.mul_comm (prK ps N k)]
    · simp
theorem sm_top (ps : List Int) (k j : Nat) : ∀ M, M ≤ 2 ^ k → smK ps (k + 1) j (2 ^ k + M) = (100 - ps.getD k 0) * smK ps k j (2 ^ k) + (if j = 0 then 0 else ps.getD k 0 * smK ps k (j - 1) M)
  | 0, _ => by
    show smK ps (k + 1) j (2 ^ k) = _
    rw [sm_low ps k j _ (Nat.le_refl _)]
    simp [smK]
  | M + 1, h => by
    have hb := bit_top (show M < 2 ^ k by omega)
    have h1 := pr_add ps M k k (Nat.le_refl _)
    rw [← Nat.add_assoc]
    simp only [smK, sm_top ps k j M (by omega), cnK, prK, hb, h1.1, h1.2]
    simp only [if_true]
    cases j with
    | zero => simp
    | succ j =>
      simp only [Nat.add_right_cancel_iff, Nat.succ_ne_zero, if_false, Nat.add_sub_cancel, Int.mul_add]
      split
      · rw [Int.mul_comm (prK ps M k)]; omega
      · simp
theorem take_next (ps : List Int) (k : Nat) (h : k < ps.length) : ps.take (k + 1) = ps.take k ++ [ps.getD k 0] := by
  rw [List.take_succ_eq_append_getElem h]
  simp [List.getD_eq_getElem?_getD, List.getElem?_eq_getElem h]
theorem cas_len (ps : List Int) : ∀ k, k ≤ ps.length → (cas (ps.take k)).length = k + 1
  | 0, _ => rfl
  | k + 1, h => by rw [take_next ps k (by omega), cas_snoc, nx_len, cas_len ps k (by omega)]
theorem sm_cas (ps : List Int) : ∀ k, k ≤ ps.length → ∀ j, smK ps k j (2 ^ k) = (cas (ps.take k)).getD j 0
  | 0, _, j => by
    simp [smK, cnK, prK, cas]
    cases j <;> simp
  | k + 1, h, j => by
    rw [Nat.pow_succ, Nat.mul_two, sm_top ps k j _ (Nat.le_refl _), sm_cas ps k (by omega) j, take_next ps k (by omega), cas_snoc, nx_at _ _ _ (Nat.le_refl _)]
    have hl : (cas (ps.take k)).length = k + 1 := cas_len ps k (by omega)
    have h1 := sm_cas ps k (by omega) (j - 1)
    rw [h1, hl]
    have out : ∀ i, k + 1 ≤ i → (cas (ps.take k)).getD i 0 = 0 := fun i hi => by
      rw [List.getD_eq_getElem?_getD, List.getElem?_eq_none (by omega)]
      rfl
    by_cases j1 : j ≤ k + 1
    · rw [if_pos j1]
      by_cases j2 : j < k + 1
      · rw [if_pos j2]
      · rw [if_neg j2, out j (by omega), Int.mul_zero]
    · rw [if_neg j1, out j (by omega), if_neg (by omega), out (j - 1) (by omega), Int.mul_zero, Int.mul_zero]
      rfl
end Go.Proofs.YtlnoafkepfgooaaDoor

/- Odds: the reference's SpreadOf: the counts as a list, and their bounds. No program. -/
namespace Go.Proofs.YtlnoafkepfgooaaDoor

def cntL (ps : List Int) (L N : Nat) : List Int := (List.range (L + 1)).map fun j => smK ps L j N
theorem cntL_len (ps : List Int) (L N : Nat) : (cntL ps L N).length = L + 1 := by simp [cntL]
theorem cntL_at (ps : List Int) (L N j : Nat) (h : j < L + 1) : (cntL ps L N).getD j 0 = smK ps L j N := by
  simp [cntL, List.getD_eq_getElem?_getD, List.getElem?_range h]
theorem cntL_zero (ps : List Int) (L : Nat) : cntL ps L 0 = List.replicate (L + 1) 0 := by
  apply List.ext_getElem
  · simp [cntL]
  · intro i h1 h2
    simp [cntL, smK]
theorem cn_le (s : Nat) : ∀ k, cnK s k ≤ k
  | 0 => Nat.le_refl 0
  | k + 1 => by
    have := cn_le s k
    unfold cnK
    split <;> omega
theorem cntL_next (ps : List Int) (L N : Nat) : cntL ps L (N + 1) = (cntL ps L N).set (cnK N L) ((cntL ps L N).getD (cnK N L) 0 + prK ps N L) := by
  have hc := cn_le N L
  rw [cntL_at ps L N _ (by omega)]
  apply List.ext_getElem
  · simp [cntL]
  · intro i h1 h2
    rw [List.getElem_set]
    split
    · rename_i h; subst h; simp [cntL, smK]
    · rename_i h
      simp [cntL, smK, h]
theorem cntL_cas (ps : List Int) (L : Nat) (h : L ≤ ps.length) : cntL ps L (2 ^ L) = cas (ps.take L) := by
  have hl := cas_len ps L h
  apply List.ext_getElem
  · rw [cntL_len, hl]
  · intro i h1 h2
    have := sm_cas ps L h i
    rw [← cntL_at ps L _ i (by rw [cntL_len] at h1; exact h1)] at this
    simpa [List.getD_eq_getElem?_getD, List.getElem?_eq_getElem h1, List.getElem?_eq_getElem h2] using this
theorem pr_bnd (ps : List Int) (hp : ∀ p ∈ ps, 0 ≤ p ∧ p ≤ 100) (s : Nat) : ∀ k, k ≤ ps.length → 0 ≤ prK ps s k ∧ prK ps s k ≤ 100 ^ k
  | 0, _ => ⟨by simp [prK], by simp [prK]⟩
  | k + 1, h => by
    obtain ⟨h1, h2⟩ := pr_bnd ps hp s k (by omega)
    have hk : ps.getD k 0 ∈ ps := by
      rw [List.getD_eq_getElem?_getD, List.getElem?_eq_getElem (show k < ps.length by omega)]
      exact List.getElem_mem _
    obtain ⟨p0, p1⟩ := hp _ hk
    unfold prK
    have hq : 0 ≤ (if bitK s k = true then ps.getD k 0 else 100 - ps.getD k 0) ∧ (if bitK s k = true then ps.getD k 0 else 100 - ps.getD k 0) ≤ 100 := by split <;> omega
    refine ⟨Int.mul_nonneg h1 hq.1, ?_⟩
    rw [Int.pow_succ]
    exact Int.mul_le_mul h2 hq.2 hq.1 (Int.le_trans h1 h2)
theorem sm_mono (ps : List Int) (hp : ∀ p ∈ ps, 0 ≤ p ∧ p ≤ 100) (k j : Nat) (hk : k ≤ ps.length) (N : Nat) : ∀ M, 0 ≤ smK ps k j N ∧ smK ps k j N ≤ smK ps k j (N + M) := by
  have h0 : ∀ N, 0 ≤ smK ps k j N := fun N => by
    induction N with
    | zero => simp [smK]
    | succ N ih =>
      have := (pr_bnd ps hp N k hk).1
      unfold smK
      split <;> omega
  intro M
  refine ⟨h0 N, ?_⟩
  induction M with
  | zero => exact Int.le_refl _
  | succ M ih =>
    have := (pr_bnd ps hp (N + M) k hk).1
    rw [← Nat.add_assoc]
    have e : smK ps k j (N + M + 1) = smK ps k j (N + M) + (if cnK (N + M) k = j then prK ps (N + M) k else 0) := rfl
    rw [e]
    split <;> omega
theorem sm_bnd (ps : List Int) (hp : ∀ p ∈ ps, 0 ≤ p ∧ p ≤ 100) (k j : Nat) (hk : k ≤ ps.length) (N : Nat) (hN : N ≤ 2 ^ k) : 0 ≤ smK ps k j N ∧ smK ps k j N ≤ 100 ^ k := by
  obtain ⟨M, hM⟩ : ∃ M, 2 ^ k = N + M := ⟨2 ^ k - N, by omega⟩
  obtain ⟨h1, h2⟩ := sm_mono ps hp k j hk N M
  refine ⟨h1, Int.le_trans h2 ?_⟩
  rw [← hM, sm_cas ps k hk j]
  obtain ⟨_, cn, cs⟩ := cas_ok (ps.take k) (fun p h => hp p (List.mem_of_mem_take h))
  have h3 := cn.le_sum j
  rw [cs, List.length_take, Nat.min_eq_left hk] at h3
  exact h3
end Go.Proofs.YtlnoafkepfgooaaDoor

/- Rows of elements of whatever make, read as lists. No program. -/
namespace Go.Proofs.YtlnoafkepfgooaaDoor
open Go.RowKit

def rowL {α : Type} (c : α → Array Value) (l : List α) : List Value := l.flatMap fun p => (c p).toList
theorem rowL_cons {α : Type} (c : α → Array Value) (p : α) (l : List α) : rowL c (p :: l) = (c p).toList ++ rowL c l := rfl
theorem rowL_len {α : Type} {c : α → Array Value} {z : Nat} (hz : ∀ p, (c p).size = z) (l : List α) : (rowL c l).length = l.length * z := by
  induction l with
  | nil => simp [rowL]
  | cons p l ih =>
    rw [rowL_cons, List.length_append, ih, List.length_cons, Array.length_toList, hz, Nat.add_mul, Nat.one_mul, Nat.add_comm]
theorem rowL_snoc {α : Type} (c : α → Array Value) (l : List α) (p : α) : rowL c (l ++ [p]) = rowL c l ++ (c p).toList := by simp [rowL]
theorem rowL_at {α : Type} {c : α → Array Value} {z : Nat} (hz : ∀ p, (c p).size = z) (l : List α) (k : Nat) (p : α) (hp : l[k]? = some p) : ∀ j v, (c p).toList[j]? = some v → (rowL c l)[k * z + j]? = some v := by
  induction l generalizing k with
  | nil => simp at hp
  | cons q r ih =>
    intro j v hv
    rw [rowL_cons]
    have hl : (c q).toList.length = z := by rw [Array.length_toList, hz]
    cases k with
    | zero =>
      obtain rfl : q = p := by simpa using hp
      have hj : j < z := by rw [← hl]; exact (List.getElem?_eq_some_iff.1 hv).1
      rw [Nat.zero_mul, Nat.zero_add, List.getElem?_append_left (by rw [hl]; exact hj)]
      exact hv
    | succ k =>
      have e : (k + 1) * z + j - z = k * z + j := by rw [Nat.add_mul, Nat.one_mul]; omega
      have e2 : z ≤ (k + 1) * z + j := by rw [Nat.add_mul, Nat.one_mul]; omega
      rw [List.getElem?_append_right (by rw [hl]; exact e2), hl, e]
      exact ih k (by simpa using hp) j v hv
theorem rowL_set {α : Type} {c : α → Array Value} {z : Nat} (hz : ∀ p, (c p).size = z) (l : List α) (k : Nat) (p q : α) (hp : l[k]? = some p) (j : Nat) (u : Value) (hj : j < z) (hq : (c q).toList = (c p).toList.set j u) : (rowL c l).set (k * z + j) u = rowL c (l.set k q) := by
  induction l generalizing k with
  | nil => simp at hp
  | cons x r ih =>
    have hl : (c x).toList.length = z := by rw [Array.length_toList, hz]
    rw [rowL_cons]
    cases k with
    | zero =>
      obtain rfl : x = p := by simpa using hp
      rw [List.set_cons_zero, rowL_cons, Nat.zero_mul, Nat.zero_add, List.set_append_left _ _ (by rw [hl]; exact hj), hq]
    | succ k =>
      have e : (k + 1) * z + j - z = k * z + j := by rw [Nat.add_mul, Nat.one_mul]; omega
      have e2 : z ≤ (k + 1) * z + j := by rw [Nat.add_mul, Nat.one_mul]; omega
      rw [List.set_cons_succ, rowL_cons, List.set_append_right _ _ (by rw [hl]; exact e2), hl, e, ih k (by simpa using hp)]
theorem ownsRow_set {w : World} {base : Nat} {e : TypeId} {size g n cap : Nat} {xs : List Value} (h : w.ownsRow base e size (.slice (some ⟨g, 0, none⟩) n cap) n xs) (i : Nat) (u : Value) : (w.setCell ⟨g, i, none⟩ u).ownsRow base e size (.slice (some ⟨g, 0, none⟩) n cap) n (xs.set i u) := by
  obtain ⟨h1, h2⟩ := h
  refine ⟨by rw [List.length_set]; exact h1, .inr ?_⟩
  rcases h2 with ⟨h3, _⟩ | ⟨g', cap', cur, e1, hb, hg, hn, hm, hs, ht⟩
  · cases h3
  · obtain ⟨rfl, rfl⟩ : g = g' ∧ cap = cap' := by cases e1; exact ⟨rfl, rfl⟩
    refine ⟨g, cap, cur.setIfInBounds i u, rfl, hb, ?_, hn, hm, by simpa using hs, ?_⟩
    · simp [World.setCell, Array.getElem?_modify, hg]
    · rw [Array.toList_setIfInBounds, List.take_set, ht]
theorem ownsRow_free {w : World} {base : Nat} {e : TypeId} {size g n cap : Nat} {xs : List Value} (h : w.ownsRow base e size (.slice (some ⟨g, 0, none⟩) n cap) n xs) (i : Nat) : w.frozen? ⟨g, i, none⟩ = false := by
  rcases h.2 with ⟨h3, _⟩ | ⟨g', cap', cur, e1, hb, hg, hn, hm, hs, ht⟩
  · cases h3
  · obtain ⟨rfl, rfl⟩ : g = g' ∧ cap = cap' := by cases e1; exact ⟨rfl, rfl⟩
    simp [World.frozen?, hg]
/-- A slice that reads as a list of such elements. -/
abbrev RdR {α : Type} (w : World) (z : Nat) (c : α → Array Value) (v : Value) (l : List α) : Prop := Rd w z v l.length (rowL c l)
theorem RdR.elem {α : Type} {W w : World} {z : Nat} {c : α → Array Value} {a : Option Addr} {n cap : Nat} {l : List α} (hz : ∀ p, (c p).size = z) (h : RdR W z c (.slice a n cap) l) (hG : G W w none) {k : Nat} {p : α} (hp : l[k]? = some p) :
    ∃ bb bo, a = some ⟨bb, bo, none⟩ ∧ bb < W.heap.size ∧ ∀ j v, (c p).toList[j]? = some v → w.cell? ((⟨bb, bo + k * z, none⟩ : Addr).add j) = some v := by
  obtain ⟨a', c', e, h1, h2, h3, h4, h5⟩ := h
  obtain ⟨rfl, rfl, rfl⟩ : a = a' ∧ n = l.length ∧ cap = c' := by cases e; exact ⟨rfl, rfl, rfl⟩
  cases a with
  | none =>
    have := (h4 rfl).1
    have := (List.getElem?_eq_some_iff.1 hp).1
    omega
  | some ad =>
    obtain ⟨bb, bo, bs⟩ := ad
    obtain ⟨q1, q2, q3⟩ := h5 _ rfl
    dsimp only at q1 q2 q3
    subst q1
    refine ⟨bb, bo, rfl, q2, fun j v hv => ?_⟩
    rw [add_at]
    have := q3 (k * z + j) v (rowL_at hz l k p hp j v hv)
    rw [← Nat.add_assoc] at this
    exact ((gcell hG).1 bb _ q2).trans this
/-- The same, told cell by cell. -/
theorem RdR.cell {α : Type} {W w : World} {z : Nat} {c : α → Array Value} {bb bo n cap : Nat} {l : List α} (hz : ∀ p, (c p).size = z) (h : RdR W z c (.slice (some ⟨bb, bo, none⟩) n cap) l) (hG : G W w none) {k : Nat} {p : α} (hp : l[k]? = some p) (j : Nat) (v : Value) (hv : (c p).toList[j]? = some v) :
    w.cell? ⟨bb, bo + k * z + j, none⟩ = some v := by
  obtain ⟨b', o', e, _, h2⟩ := RdR.elem hz h hG hp
  obtain ⟨rfl, rfl⟩ : bb = b' ∧ bo = o' := by cases e; exact ⟨rfl, rfl⟩
  have := h2 j v hv
  rwa [add_at] at this
theorem RdR.form {α : Type} {W : World} {z : Nat} {c : α → Array Value} {v : Value} {l : List α} (h : RdR W z c v l) : ∃ a cap, v = .slice a l.length cap ∧ l.length ≤ cap ∧ cap ≤ maxLen := by
  obtain ⟨a', c', e, h1, h2, h3, h4, h5⟩ := h
  exact ⟨a', c', e, h1, h2⟩
theorem RdR.nil {α : Type} (w : World) (z : Nat) (c : α → Array Value) : RdR w z c (.slice none 0 0) [] := ⟨none, 0, rfl, Nat.le_refl _, Nat.zero_le _, by simp [rowL], fun _ => ⟨rfl, rfl⟩, fun b hb => by cases hb⟩
/-- The first of them. -/
theorem RdR.prefix_ {α : Type} {w : World} {z : Nat} {c : α → Array Value} {a : Option Addr} {n cap : Nat} {l : List α} (hz : ∀ p, (c p).size = z) (h : RdR w z c (.slice a n cap) l) (m : Nat) (hm : m ≤ l.length) : RdR w z c (.slice a m cap) (l.take m) := by
  obtain ⟨a', c', e, h1, h2, h3, h4, h5⟩ := h
  obtain ⟨rfl, rfl, rfl⟩ : a = a' ∧ n = l.length ∧ cap = c' := by cases e; exact ⟨rfl, rfl, rfl⟩
  have hlt : (l.take m).length = m := by rw [List.length_take]; omega
  refine ⟨a, cap, by rw [hlt], by omega, h2, rowL_len hz _, fun e => ⟨by have := (h4 e).1; omega, (h4 e).2⟩, fun b hb => ?_⟩
  obtain ⟨q1, q2, q3⟩ := h5 b hb
  refine ⟨q1, q2, fun j u hj => q3 j u ?_⟩
  have e2 : rowL c l = rowL c (l.take m) ++ rowL c (l.drop m) := by
    unfold rowL
    rw [← List.flatMap_append, List.take_append_drop]
  rw [e2, List.getElem?_append_left ((List.getElem?_eq_some_iff.1 hj).1)]
  exact hj
/-- The first place of one that is asked for, from 'k' on counted; -1: none. -/
def ixP {α : Type} (q : α → Bool) : List α → Int → Int
  | [], _ => -1
  | p :: r, k => if q p = true then k else ixP q r (k + 1)
theorem ixP_spec {α : Type} (q : α → Bool) (l : List α) : ∀ k : Nat, (ixP q l k = -1 ∧ l.any q = false) ∨ ∃ (i : Nat) (p : α), ixP q l k = ((k + i : Nat) : Int) ∧ l[i]? = some p ∧ q p = true := by
  induction l with
  | nil => intro k; exact .inl ⟨rfl, rfl⟩
  | cons p r ih =>
    intro k
    unfold ixP
    by_cases h : q p = true
    · rw [if_pos h]
      exact .inr ⟨0, p, rfl, rfl, h⟩
    · rw [if_neg h]
      rcases ih (k + 1) with ⟨h1, h2⟩ | ⟨i, p', h1, h2, h3⟩
      · left
        exact ⟨h1, by rw [List.any_cons, h2]; simp [h]⟩
      · right
        refine ⟨i + 1, p', ?_, by simpa using h2, h3⟩
        have e : ixP q r ((k : Int) + 1) = ixP q r ((k + 1 : Nat) : Int) := rfl
        rw [e, h1]
        congr 1
        omega
theorem ixP_find {α : Type} (q : α → Bool) (l : List α) : ∀ k : Nat, (ixP q l k = -1 ∧ l.find? q = none) ∨ ∃ (i : Nat) (p : α), ixP q l k = ((k + i : Nat) : Int) ∧ l[i]? = some p ∧ l.find? q = some p := by
  induction l with
  | nil => intro k; exact .inl ⟨rfl, rfl⟩
  | cons p r ih =>
    intro k
    unfold ixP
    by_cases h : q p = true
    · rw [if_pos h]
      exact .inr ⟨0, p, rfl, rfl, by rw [List.find?_cons, h]⟩
    · rw [if_neg h]
      have hf : (p :: r).find? q = r.find? q := by rw [List.find?_cons]; simp [h]
      rw [hf]
      rcases ih (k + 1) with ⟨h1, h2⟩ | ⟨i, p', h1, h2, h3⟩
      · exact .inl ⟨h1, h2⟩
      · right
        refine ⟨i + 1, p', ?_, by simpa using h2, h3⟩
        have e : ixP q r ((k : Int) + 1) = ixP q r ((k + 1 : Nat) : Int) := rfl
        rw [e, h1]
        congr 1
        omega
end Go.Proofs.YtlnoafkepfgooaaDoor

/- The stream of raw numbers: Below, Next, Range, Flip, Pick, Some, Odd. Any list, any numbers. -/
namespace Go.Proofs.YtlnoafkepfgooaaDoor
open Go.RowKit

/-- 'Below' returns a number from 0 to n-1; 0, if n is less than 1. -/
def InR (n r : Int) : Prop := 0 ≤ r ∧ (r < n ∨ (r = 0 ∧ n < 1))
def BelowPost (n : Int) (w : World) (e : Ending) (w' : World) : Prop := ∃ r : Int, e = .returned (.int .i64 r) ∧ InR n r ∧ w = w'

set_option maxHeartbeats 400000 in
theorem below_c (x n : Int) (w : World) (hn : n ≤ 4611686018427387904) (hx : -9223372036854775808 ≤ x ∧ x ≤ 9223372036854775807) :
    Calls Tryd.prog 57 #[.int .i64 x, .int .i64 n] w (BelowPost n w) := by
  have H : Hid (-9223372036854775808 ≤ x ∧ x ≤ 9223372036854775807) := Lib.hid hx
  clear hx
  by_cases h1 : n < 1
  · go_enter Tryd.func57, Tryd.ntmps57
    go_wp2
    go_ret
    exact ⟨0, rfl, ⟨by omega, .inr ⟨rfl, h1⟩⟩, rfl⟩
  · have hn1 : 1 ≤ n := by omega
    have ha : x.tmod n < n := Int.tmod_lt_of_pos _ (by omega)
    have hb : -n < x.tmod n := by have := Int.lt_tmod_of_pos x (show 0 < n by omega); omega
    have Ha : Hid (x.tmod n < n ∧ -n < x.tmod n) := Lib.hid ⟨ha, hb⟩
    clear ha hb
    go_enter Tryd.func57, Tryd.ntmps57
    go_wp2
    · go_ret
      obtain ⟨q1, q2⟩ := Ha.out
      have q3 : x.tmod n < 0 := by assumption
      exact ⟨_, rfl, (by rw [IntWalk.wrap64_in (x.tmod n + n) ⟨by omega, by omega⟩]; exact ⟨by omega, .inl (by omega)⟩), rfl⟩
    · go_ret
      obtain ⟨q1, q2⟩ := Ha.out
      have q3 : 0 ≤ x.tmod n := by assumption
      exact ⟨x.tmod n, rfl, ⟨by omega, .inl (by omega)⟩, rfl⟩

/-- A stream at block 's' that has handed out 'K' numbers at most. -/
def SB (w : World) (s : Nat) (K : Nat) : Prop :=
  ∃ (k : Nat) (a : Option Addr) (n c : Nat) (zs : List Int), k ≤ K ∧ Rd w 1 (.slice a n c) n (zs.map (Value.int .i64)) ∧ (∀ b, a = some b → b.block < s) ∧ (∀ z ∈ zs, -9223372036854775808 ≤ z ∧ z ≤ 9223372036854775807) ∧
    w.cell? ⟨s, 0, none⟩ = some (.slice a n c) ∧ w.cell? ⟨s, 1, none⟩ = some (.int .i64 k) ∧ w.frozen? ⟨s, 1, none⟩ = false ∧ s < w.heap.size

theorem SB.quiet {w w' : World} {s K : Nat} (h : SB w s K) (hg : G w w' none) : SB w' s K := by
  obtain ⟨k, a, len, c, zs, hk, hrd, hne, hz, c0, c1, f1, hlt⟩ := h
  have e := hg.block s hlt (by simp)
  exact ⟨k, a, len, c, zs, hk, hrd.quiet hg, hne, hz, (World.cell?_of_block (w := w) (a := ⟨s, 0, none⟩) e).trans c0, (World.cell?_of_block (w := w) (a := ⟨s, 1, none⟩) e).trans c1,
    (World.frozen?_of_block (w := w) (a := ⟨s, 1, none⟩) e).trans f1, Nat.lt_of_lt_of_le hlt hg.size⟩
theorem SB.lt {w : World} {s K : Nat} (h : SB w s K) : s < w.heap.size := by obtain ⟨_, _, _, _, _, _, _, _, _, _, _, _, h⟩ := h; exact h
theorem SB.le {w : World} {s K L : Nat} (h : SB w s K) (hl : K ≤ L) : SB w s L := by
  obtain ⟨k, a, len, c, zs, hk, h⟩ := h
  exact ⟨k, a, len, c, zs, Nat.le_trans hk hl, h⟩
theorem SB.alloc {w : World} {s K : Nat} (h : SB w s K) (o : Obj) : SB (w.alloc o) s K := h.quiet ((G.refl _ _).alloc o)
theorem SB.drewN {w : World} {s K : Nat} (h : SB w s K) (n : Nat) : SB (w.drewN n) s K := h.quiet ((G.refl _ _).drewN n)
/-- A store into a block behind the stream's. -/
theorem SB.setCell {w : World} {s K : Nat} (h : SB w s K) {p : Addr} (hp : s < p.block) (u : Value) : SB (w.setCell p u) s K := by
  obtain ⟨k, a, len, c, zs, hk, hrd, hne, hz, c0, c1, f1, hlt⟩ := h
  have hg : G w (w.setCell p u) (some p.block) := (G.refl w _).setCell (.inr rfl) _
  refine ⟨k, a, len, c, zs, hk, hrd.grown hg (fun b e hb => ?_), hne, hz, ?_, ?_, ?_, Nat.lt_of_lt_of_le hlt hg.size⟩
  · obtain rfl := Option.some.inj e
    cases a with
    | none => cases hb
    | some x => have h1 := hne x rfl; have h2 : x.block = p.block := Option.some.inj hb; omega
  · rw [World.cell?_setCell_other w _ _ _ (by intro e; rw [e] at hp; exact Nat.lt_irrefl _ hp)]; exact c0
  · rw [World.cell?_setCell_other w _ _ _ (by intro e; rw [e] at hp; exact Nat.lt_irrefl _ hp)]; exact c1
  · rw [World.frozen?_setCell]; exact f1

theorem SB.bump {w : World} {s : Nat} {k K : Nat} (hk : k ≤ K) {a : Option Addr} {n c : Nat} {zs : List Int} (hrd : Rd w 1 (.slice a n c) n (zs.map (Value.int .i64))) (hne : ∀ b, a = some b → b.block < s) (hz : ∀ z ∈ zs, -9223372036854775808 ≤ z ∧ z ≤ 9223372036854775807)
    (c0 : w.cell? ⟨s, 0, none⟩ = some (.slice a n c)) (c1 : w.cell? ⟨s, 1, none⟩ = some (.int .i64 k)) (f1 : w.frozen? ⟨s, 1, none⟩ = false) (hlt : s < w.heap.size) :
    SB (w.setCell ⟨s, 1, none⟩ (.int .i64 ((k : Int) + 1))) s (K + 1) ∧ G w (w.setCell ⟨s, 1, none⟩ (.int .i64 ((k : Int) + 1))) (some s) := by
  have hg : G w (w.setCell ⟨s, 1, none⟩ (.int .i64 ((k : Int) + 1))) (some s) := (G.refl w _).setCell (.inr rfl) _
  refine ⟨⟨k + 1, a, n, c, zs, by omega, hrd.grown hg (fun b e hb => ?_), hne, hz, ?_, ?_, ?_, Nat.lt_of_lt_of_le hlt hg.size⟩, hg⟩
  · obtain rfl := Option.some.inj e
    cases a with
    | none => cases hb
    | some x => have h1 := hne x rfl; have h2 : x.block = s := Option.some.inj hb; omega
  · rw [World.cell?_setCell_other w _ _ _ (by simp)]; exact c0
  · rw [World.cell?_setCell_same w _ _ c1]; rfl
  · rw [World.frozen?_setCell]; exact f1

def NextPost (n : Int) (s : Nat) (K : Nat) (w : World) (e : Ending) (w' : World) : Prop := ∃ r : Int, e = .returned (.int .i64 r) ∧ InR n r ∧ SB w' s (K + 1) ∧ G w w' (some s)

set_option maxHeartbeats 400000 in
theorem next_c (n : Int) (w : World) (s : Nat) (K : Nat) (hs : SB w s K) (hk : K ≤ 1152921504606846976) (hn : n ≤ 4611686018427387904) :
    Calls Tryd.prog 33 #[.pointer (some ⟨s, 0, none⟩), .int .i64 n] w (NextPost n s K w) := by
  obtain ⟨k, a, len, c, zs, hkK, hrd, hne, hz, c0, c1, f1, hlt⟩ := hs
  have B := SB.bump hkK hrd hne hz c0 c1 f1 hlt
  by_cases hl : len = 0
  · subst hl
    go_enter Tryd.func33, Tryd.ntmps33
    go_wp2_with (go_at_call 57; refine (below_c _ _ _ hn (wrap64_range _)).mono ?_; rintro e w' ⟨r, rfl, hr, rfl⟩)
    go_ret
    exact ⟨_, rfl, hr, B⟩
  · obtain ⟨a', c', e', r1, r2, r3, r4, r5⟩ := hrd
    obtain ⟨rfl, rfl⟩ : a = a' ∧ c = c' := by cases e'; exact ⟨rfl, rfl⟩
    clear e'
    cases a with
    | none => exact absurd (r4 rfl).1 hl
    | some b =>
      obtain ⟨bb, bo, bs⟩ := b
      obtain ⟨e1, e2, e3⟩ := r5 _ rfl
      dsimp only at e1 e2 e3
      subst e1
      clear r4 r5
      have hlz : zs.length = len := by simpa using r3
      have hn2 : bb ≠ s := Nat.ne_of_lt (hne _ rfl)
      have hml : k % len < len := Nat.mod_lt _ (by omega)
      have hcell : w.cell? ⟨bb, bo + k % len, none⟩ = some (.int .i64 (zs.getD (k % len) 0)) := e3 (k % len) _ (by simp [List.getD, show k % len < zs.length by omega])
      have hzk := hz (zs.getD (k % len) 0) (by simp [List.getD, show k % len < zs.length by omega])
      generalize zs.getD (k % len) 0 = z at hcell hzk
      have hb1 : IntKind.i64.wrap ((k : Int) + 1 - 1) = (k : Int) := by rw [show (k : Int) + 1 - 1 = k by omega]; exact IntWalk.i64_in _ (by omega)
      have hl0 : (((len : Nat) : Int) == 0) = false := by simp; omega
      have hl1 : (1 : Int) ≤ (len : Int) := by omega
      have hlm : len ≤ 9223372036854775807 := by simp only [maxLen] at r2; omega
      clear e3
      go_enter Tryd.func33, Tryd.ntmps33
      go_wp2_with fail
      go_quiet (fail)
      go_wp2_with fail
      go_quiet (fail)
      go_wp2_with fail
      refine (below_c _ _ _ (by omega) hzk).mono ?_; rintro e w' ⟨r, rfl, hr, rfl⟩
      go_wp2_with fail
      refine (below_c _ _ _ hn (wrap64_range _)).mono ?_; rintro e w' ⟨r, rfl, hr, rfl⟩
      go_wp2_with fail
      go_ret
      exact ⟨_, rfl, hr, B.1.drewN _, B.2.drewN _⟩

/-- 'Range' returns a number from low to high. -/
def RangePost (lo hi : Int) (s : Nat) (K : Nat) (w : World) (e : Ending) (w' : World) : Prop := ∃ r : Int, e = .returned (.int .i64 r) ∧ lo ≤ r ∧ (r ≤ hi ∨ r = lo) ∧ SB w' s (K + 1) ∧ G w w' (some s)
set_option maxHeartbeats 400000 in
theorem range_c (lo hi : Int) (w : World) (s : Nat) (K : Nat) (hs : SB w s K) (hk : K ≤ 1152921504606846976) (h1 : -1152921504606846976 ≤ lo) (h2 : lo ≤ 1152921504606846976) (h3 : hi ≤ 1152921504606846976) :
    Calls Tryd.prog 32 #[.pointer (some ⟨s, 0, none⟩), .int .i64 lo, .int .i64 hi] w (RangePost lo hi s K w) := by
  by_cases h : hi < lo
  · go_enter Tryd.func32, Tryd.ntmps32
    go_wp2_with fail
    go_ret
    exact ⟨_, rfl, by omega, .inr rfl, hs.le (by omega), G.refl _ _⟩
  · have hle : lo ≤ hi := by omega
    go_enter Tryd.func32, Tryd.ntmps32
    go_wp2_with fail
    refine (next_c _ _ _ _ hs hk (by omega)).mono ?_; rintro e w' ⟨r, rfl, hr, hp⟩
    obtain ⟨r0, r1⟩ := hr
    have r2 : r ≤ hi - lo := by omega
    clear r1
    go_wp2_with fail
    go_ret
    exact ⟨_, rfl, by omega, .inl (by omega), hp⟩

def FlipPost (s : Nat) (K : Nat) (w : World) (e : Ending) (w' : World) : Prop := ∃ b : Bool, e = .returned (.bool b) ∧ SB w' s (K + 1) ∧ G w w' (some s)
set_option maxHeartbeats 400000 in
theorem flip_c (n : Int) (w : World) (s : Nat) (K : Nat) (hs : SB w s K) (hk : K ≤ 1152921504606846976) (hn : n ≤ 4611686018427387904) :
    Calls Tryd.prog 7 #[.pointer (some ⟨s, 0, none⟩), .int .i64 n] w (FlipPost s K w) := by
  go_enter Tryd.func7, Tryd.ntmps7
  go_wp2_with fail
  refine (next_c _ _ _ _ hs hk hn).mono ?_; rintro e w' ⟨r, rfl, hr, hp⟩
  go_wp2_with fail
  go_ret
  exact ⟨_, rfl, hp⟩

/-- 'Pick' returns one of the numbers. -/
def PickPost (zs : List Int) (s : Nat) (K : Nat) (w : World) (e : Ending) (w' : World) : Prop := ∃ r : Int, e = .returned (.int .i64 r) ∧ r ∈ zs ∧ SB w' s (K + 1) ∧ G w w' (some s)
set_option maxHeartbeats 400000 in
theorem pick_c (a : Option Addr) (n c : Nat) (zs : List Int) (w : World) (s : Nat) (K : Nat) (hs : SB w s K) (hk : K ≤ 1152921504606846976) (hn : 0 < n) (hnm : n ≤ 1000000000) (hr : Rd w 1 (.slice a n c) n (zs.map (Value.int .i64))) (hv : (Value.slice a n c).ownBlock ≠ some s) :
    Calls Tryd.prog 6 #[.pointer (some ⟨s, 0, none⟩), .slice a n c] w (PickPost zs s K w) := by
  obtain ⟨_, hnc, hcm, hl, b, o, rfl, hb, hc⟩ := hr.elem hn
  simp only [List.length_map, Nat.mul_one] at hl
  have hbs : b ≠ s := fun e => hv (by rw [e]; rfl)
  have hlm : n ≤ 9223372036854775807 := by simp only [maxLen] at hcm; omega
  go_enter Tryd.func6, Tryd.ntmps6
  go_wp2_with fail
  refine (next_c _ _ _ _ hs hk (by omega)).mono ?_; rintro e w' ⟨r, rfl, hr, hp⟩
  obtain ⟨r0, r1⟩ := hr
  obtain ⟨i, rfl⟩ := Int.eq_ofNat_of_zero_le r0
  have hi : i < n := by omega
  obtain ⟨u, hu, hcu⟩ := hc i (by omega)
  have hcell := ((gcell_s hp.2).1 b (o + i) hb hbs).trans hcu
  obtain ⟨z, hz, rfl⟩ : ∃ z, zs[i]? = some z ∧ u = .int .i64 z := by
    rw [List.getElem?_map] at hu
    obtain ⟨z, h1, h2⟩ := Option.map_eq_some_iff.1 hu
    exact ⟨z, h1, h2.symm⟩
  have Hz : Hid (zs[i]? = some z) := Lib.hid hz
  clear hu hcu hz r1
  go_wp2_with fail
  go_ret
  exact ⟨_, rfl, List.mem_of_getElem? Hz.out, hp⟩

/-- 'Some' returns one of the strings. -/
def SomePost (zs : List ByteArray) (s : Nat) (K : Nat) (w : World) (e : Ending) (w' : World) : Prop := ∃ r : ByteArray, e = .returned (.string r) ∧ r ∈ zs ∧ SB w' s (K + 1) ∧ G w w' (some s)
set_option maxHeartbeats 400000 in
theorem some_c (a : Option Addr) (n c : Nat) (zs : List ByteArray) (w : World) (s : Nat) (K : Nat) (hs : SB w s K) (hk : K ≤ 1152921504606846976) (hn : 0 < n) (hnm : n ≤ 1000000000) (hr : Rd w 1 (.slice a n c) n (zs.map Value.string)) (hv : (Value.slice a n c).ownBlock ≠ some s) :
    Calls Tryd.prog 31 #[.pointer (some ⟨s, 0, none⟩), .slice a n c] w (SomePost zs s K w) := by
  obtain ⟨_, hnc, hcm, hl, b, o, rfl, hb, hc⟩ := hr.elem hn
  simp only [List.length_map, Nat.mul_one] at hl
  have hbs : b ≠ s := fun e => hv (by rw [e]; rfl)
  have hlm : n ≤ 9223372036854775807 := by simp only [maxLen] at hcm; omega
  go_enter Tryd.func31, Tryd.ntmps31
  go_wp2_with fail
  refine (next_c _ _ _ _ hs hk (by omega)).mono ?_; rintro e w' ⟨r, rfl, hr, hp⟩
  obtain ⟨r0, r1⟩ := hr
  obtain ⟨i, rfl⟩ := Int.eq_ofNat_of_zero_le r0
  have hi : i < n := by omega
  obtain ⟨u, hu, hcu⟩ := hc i (by omega)
  have hcell := ((gcell_s hp.2).1 b (o + i) hb hbs).trans hcu
  obtain ⟨z, hz, rfl⟩ : ∃ z, zs[i]? = some z ∧ u = .string z := by
    rw [List.getElem?_map] at hu
    obtain ⟨z, h1, h2⟩ := Option.map_eq_some_iff.1 hu
    exact ⟨z, h1, h2.symm⟩
  have Hz : Hid (zs[i]? = some z) := Lib.hid hz
  clear hu hcu hz r1
  go_wp2_with fail
  go_ret
  exact ⟨_, rfl, List.mem_of_getElem? Hz.out, hp⟩

/-- A new block is not the stream's. -/
theorem SB.new {w : World} {s K : Nat} (h : SB w s K) (n c : Nat) (o : Nat) : (Value.slice (some ⟨w.heap.size, o, none⟩) n c).ownBlock ≠ some s := by
  have := h.lt
  simp only [Value.ownBlock, ne_eq, Option.some.injEq]
  omega

/-- 'Odd': whatever it returns is of small size. -/
def OddPost (s : Nat) (K : Nat) (w : World) (e : Ending) (w' : World) : Prop := ∃ r : Int, e = .returned (.int .i64 r) ∧ -1099511627776 ≤ r ∧ r ≤ 1099511627776 ∧ SB w' s (K + 2) ∧ G w w' (some s)
set_option maxHeartbeats 400000 in
theorem odd_c (lo hi : Int) (w : World) (s : Nat) (K : Nat) (hs : SB w s K) (hk : K ≤ 1000000000000) (h1 : -1000000000 ≤ lo) (h2 : lo ≤ 1000000000) (h3 : hi ≤ 1000000000) (h4 : -1000000000 ≤ hi) :
    Calls Tryd.prog 8 #[.pointer (some ⟨s, 0, none⟩), .int .i64 lo, .int .i64 hi] w (OddPost s K w) := by
  go_enter Tryd.func8, Tryd.ntmps8
  go_wp2_with fail
  refine (flip_c _ _ _ _ hs (by omega) (by omega)).mono ?_; rintro e w' ⟨b, rfl, hp, hg⟩
  cases b with
  | true =>
    go_wp2_with fail
    refine (pick_c _ _ _ [lo - 1, hi + 1, lo, hi, -1099511627776, 1099511627776] _ _ _ (hp.alloc _) (by omega) (by decide) (by decide) (Rd.new _ rfl (by decide)) (hp.new _ _ _)).mono ?_
    rintro e w2 ⟨r, rfl, hr, hp2, hg2⟩
    go_wp2_with fail
    go_ret
    simp only [List.mem_cons, List.mem_nil_iff, or_false] at hr
    exact ⟨_, rfl, by omega, by omega, hp2, (hg.alloc _).trans hg2⟩
  | false =>
    go_wp2_with fail
    refine (range_c _ _ _ _ _ hp (by omega) (by omega) (by omega) (by omega)).mono ?_
    rintro e w2 ⟨r, rfl, hr1, hr2, hp2, hg2⟩
    go_wp2_with fail
    go_ret
    exact ⟨_, rfl, by omega, by omega, hp2, hg.trans hg2⟩
/-- Only a block behind the stream's may have turned. -/
theorem SB.far {w w' : World} {s K r : Nat} (h : SB w s K) (hg : G w w' (some r)) (hr : s < r) : SB w' s K := by
  obtain ⟨k, a, len, c, zs, hk, hrd, hne, hz, c0, c1, f1, hlt⟩ := h
  have e := hg.block s hlt (by simp; omega)
  refine ⟨k, a, len, c, zs, hk, hrd.grown hg (fun b e hb => ?_), hne, hz, (World.cell?_of_block (w := w) (a := ⟨s, 0, none⟩) e).trans c0, (World.cell?_of_block (w := w) (a := ⟨s, 1, none⟩) e).trans c1,
    (World.frozen?_of_block (w := w) (a := ⟨s, 1, none⟩) e).trans f1, Nat.lt_of_lt_of_le hlt hg.size⟩
  obtain rfl := Option.some.inj e
  cases a with
  | none => cases hb
  | some x => have h1 := hne x rfl; have h2 : x.block = r := Option.some.inj hb; omega
theorem SB.own {w w' : World} {s K : Nat} {o : Option Nat} (h : SB w s K) (hg : G w w' o) (ho : ∀ r, o = some r → s < r) : SB w' s K := by
  cases o with
  | none => exact h.quiet hg
  | some r => exact h.far hg (ho r rfl)
theorem SB.setRow {w : World} {s K r : Nat} (h : SB w s K) (hr : s < r) (cs : Array Value) : SB (w.setRow r cs) s K := h.far (grownBy_setRow w r cs) hr
/-- The same, the block's number written as the walk writes it. -/
theorem SB.newAt {w : World} {s K : Nat} (h : SB w s K) (n c o : Nat) {b : Nat} (hb : w.heap.size ≤ b) : (Value.slice (some ⟨b, o, none⟩) n c).ownBlock ≠ some s := by
  have := h.lt
  simp only [Value.ownBlock, ne_eq, Option.some.injEq]
  omega
end Go.Proofs.YtlnoafkepfgooaaDoor

/- Generators: Moment, Window, Station, Stations. -/
namespace Go.Proofs.YtlnoafkepfgooaaDoor
open Go.RowKit

def MomentPost (s K : Nat) (w : World) (e : Ending) (w' : World) : Prop := ∃ r : Int, e = .returned (.int .i64 r) ∧ -1 ≤ r ∧ r ≤ 5761440 ∧ SB w' s (K + 1) ∧ G w w' (some s)
/-- The fifteen cells of a station: its key, and the two ends of its hours on seven days. -/
def stC (r : ByteArray) (h : Nat → Int) : Array Value := #[.string r, .int .i64 (h 0), .int .i64 (h 1), .int .i64 (h 2), .int .i64 (h 3), .int .i64 (h 4), .int .i64 (h 5), .int .i64 (h 6), .int .i64 (h 7), .int .i64 (h 8), .int .i64 (h 9), .int .i64 (h 10), .int .i64 (h 11), .int .i64 (h 12), .int .i64 (h 13)]
def upd (h : Nat → Int) (i : Nat) (x : Int) : Nat → Int := fun j => if j = i then x else h j
def HB (h : Nat → Int) : Prop := ∀ j, -1099511627776 ≤ h j ∧ h j ≤ 1099511627776
theorem HB.upd {h : Nat → Int} (hh : HB h) (i : Nat) {x : Int} (h1 : -1099511627776 ≤ x) (h2 : x ≤ 1099511627776) : HB (upd h i x) := by
  intro j
  unfold Go.Proofs.YtlnoafkepfgooaaDoor.upd
  split
  · exact ⟨h1, h2⟩
  · exact hh j
theorem HB.zero : HB (fun _ => 0) := fun _ => ⟨by show (-1099511627776 : Int) ≤ 0; decide, by show (0 : Int) ≤ 1099511627776; decide⟩
theorem stC_zero (r : ByteArray) : #[Value.string r, .int .i64 0, .int .i64 0, .int .i64 0, .int .i64 0, .int .i64 0, .int .i64 0, .int .i64 0, .int .i64 0, .int .i64 0, .int .i64 0, .int .i64 0, .int .i64 0, .int .i64 0, .int .i64 0] = stC r (fun _ => 0) := rfl
theorem stC_set (r : ByteArray) (h : Nat → Int) (i : Nat) (hi : i < 14) (x : Int) : (stC r h).setIfInBounds (1 + i) (.int .i64 x) = stC r (upd h i x) := by
  match i, hi with
  | 0, _ => rfl
  | 1, _ => rfl
  | 2, _ => rfl
  | 3, _ => rfl
  | 4, _ => rfl
  | 5, _ => rfl
  | 6, _ => rfl
  | 7, _ => rfl
  | 8, _ => rfl
  | 9, _ => rfl
  | 10, _ => rfl
  | 11, _ => rfl
  | 12, _ => rfl
  | 13, _ => rfl
theorem stC_get (r : ByteArray) (h : Nat → Int) (i : Nat) (hi : i < 14) : (stC r h)[1 + i]? = some (.int .i64 (h i)) := by
  match i, hi with
  | 0, _ => rfl
  | 1, _ => rfl
  | 2, _ => rfl
  | 3, _ => rfl
  | 4, _ => rfl
  | 5, _ => rfl
  | 6, _ => rfl
  | 7, _ => rfl
  | 8, _ => rfl
  | 9, _ => rfl
  | 10, _ => rfl
  | 11, _ => rfl
  | 12, _ => rfl
  | 13, _ => rfl

theorem st_info (r : ByteArray) (h : Nat → Int) : (Tryd.prog.info? 94).map (·.size) = some (stC r h).size := (by kernel_rfl : (Tryd.prog.info? 94).map (·.size) = some 15)
theorem st_one (r : ByteArray) (h : Nat → Int) : (stC r h).all (·.oneCell') = true := by simp [stC, Value.oneCell']
def StationKeys : List ByteArray := [⟨#[115, 49]⟩, ⟨#[115, 49]⟩, ⟨#[115, 49]⟩, ⟨#[115, 49]⟩, ⟨#[]⟩, ⟨#[65]⟩]
def StationPost (s K : Nat) (w : World) (e : Ending) (w' : World) : Prop :=
  ∃ (r : ByteArray) (h : Nat → Int), e = .returned (.agg (stC r h)) ∧ r ∈ StationKeys ∧ HB h ∧ SB w' s (K + 40) ∧ G w w' (some s)
/-- What stands at the loop's head in 'Station'. -/
def StRel (w : World) (s K g : Nat) (r : ByteArray) (i : Value) (wr : World) : Prop :=
  ∃ (k : Nat) (h : Nat → Int), k ≤ 7 ∧ i = .int .i64 k ∧ HB h ∧ Bk wr g 94 (stC r h) ∧ SB wr s (K + 1 + 3 * k) ∧ G w wr (some s) ∧ Bk wr w.heap.size 94 (stC ⟨#[]⟩ (fun _ => 0)) ∧ w.heap.size < g

theorem wn_info (a b : Int) : (Tryd.prog.info? 31).map (·.size) = some #[Value.int .i64 a, .int .i64 b].size := (by kernel_rfl : (Tryd.prog.info? 31).map (·.size) = some 2)
theorem wn_one (a b : Int) : #[Value.int .i64 a, .int .i64 b].all (·.oneCell') = true := by simp [Value.oneCell']
def WindowPost (s K : Nat) (w : World) (e : Ending) (w' : World) : Prop :=
  ∃ a b : Int, e = .returned (.agg #[.int .i64 a, .int .i64 b]) ∧ -1099511627776 ≤ a ∧ a ≤ 1099511627776 ∧ -1099511627776 ≤ b ∧ b ≤ 1099511627776 ∧ SB w' s (K + 8) ∧ G w w' (some s)
end Go.Proofs.YtlnoafkepfgooaaDoor

/- Generator: Stations. -/
namespace Go.Proofs.YtlnoafkepfgooaaDoor
open Go.RowKit

/-- A station: its key, its hours. -/
abbrev Sta := ByteArray × (Nat → Int)
def stL (l : List Sta) : List Value := l.flatMap fun p => (stC p.1 p.2).toList
theorem stL_len (l : List Sta) : (stL l).length = l.length * 15 := by
  induction l with
  | nil => rfl
  | cons p l ih => rw [show stL (p :: l) = (stC p.1 p.2).toList ++ stL l from rfl, List.length_append, ih, List.length_cons, show (stC p.1 p.2).toList.length = 15 from rfl]; omega
theorem stL_snoc (l : List Sta) (p : Sta) : stL (l ++ [p]) = stL l ++ (stC p.1 p.2).toList := by simp [stL]
def StsKeys : List ByteArray := [⟨#[115, 49]⟩, ⟨#[115, 50]⟩, ⟨#[115, 51]⟩]
/-- A row of stations that the call owns. -/
def OwnSts (w : World) (base : Nat) (v : Value) (l : List Sta) : Prop := w.ownsRow base 94 15 v l.length (stL l)
def StationsPost (s K : Nat) (w : World) (e : Ending) (w' : World) : Prop :=
  ∃ (v : Value) (l : List Sta), e = .returned v ∧ l.length ≤ 3 ∧ OwnSts w' (w.heap.size + 1) v l ∧ (∀ p ∈ l, p.1 ∈ StsKeys ∧ HB p.2) ∧ SB w' s (K + 80) ∧ G w w' (some s)
def StsRel (w : World) (s K : Nat) (v i : Value) (wr : World) : Prop :=
  ∃ (k : Nat) (l : List Sta), k ≤ 3 ∧ l.length ≤ k ∧ i = .int .i64 k ∧ OwnSts wr (w.heap.size + 1) v l ∧ (∀ p ∈ l, p.1 ∈ StsKeys ∧ HB p.2) ∧ SB wr s (K + 25 * k) ∧ G w wr (some s) ∧ Bk wr w.heap.size 9 #[.string ⟨#[115, 49]⟩, .string ⟨#[115, 50]⟩, .string ⟨#[115, 51]⟩]
theorem st_row : (Tryd.prog.info? 94).map (fun i => (i.zero, i.size, i.bytes)) = some (some (.agg (stC ⟨#[]⟩ (fun _ => 0))), 15, 128) := by kernel_rfl
theorem stC_one (r : ByteArray) (h : Nat → Int) : ∀ u ∈ (stC r h).toList, u.oneCell' = true := by
  intro u hu
  simp [stC] at hu
  rcases hu with rfl | rfl | rfl | rfl | rfl | rfl | rfl | rfl | rfl | rfl | rfl | rfl | rfl | rfl | rfl <;> rfl
theorem Bk.at_ {w : World} {g : Nat} {T : TypeId} {cs : Array Value} (h : Bk w g T cs) : ∀ j u, cs.toList[j]? = some u → w.cell? ((⟨g, 0, none⟩ : Addr).add j) = some u := by
  intro j u hu
  rw [Addr.add_lit, h.cell]
  simpa using hu
/-- A station more behind a row of the call's own. -/
theorem wpList_append_sts {w : World} {ops : Array Oper} {rest : List Oper} {o : Oper} {a : Act} {Q : Exit → Act → World → Prop} (hgd : o.guard = none) (s x : Operand)
    (ho : o.op = .call { callee := .builtin .append, args := #[s, x], argTypes := #[95, 95] }) (base : Nat) (v : Value) (l : List Sta) (hs : a.eval s = v) (hown : OwnSts w base v l)
    (g : Nat) (r : ByteArray) (h : Nat → Int) (hx : a.eval x = .slice (some ⟨g, 0, none⟩) 1 1) (hb : Bk w g 94 (stC r h)) (hl : l.length ≤ 1000) (hbase : base ≤ w.heap.size)
    (hK : ∀ v' w', OwnSts w' base v' (l ++ [(r, h)]) → w.grownBy w' v.ownBlock → wpList Tryd.prog ops Q rest (a.put o.dst v') w') : wpList Tryd.prog ops Q (o :: rest) a w := by
  obtain ⟨i0, hi, hz0, hz1, hz2⟩ := info_parts st_row
  refine wpList_append_own w hgd s x 95 ho base 94 i0 _ 15 128 Tryd.underlying95 hi hz0 hz1 hz2 rfl (by decide) v l.length (stL l) hs hown ⟨g, 0, none⟩ 1 1 (stC r h).toList hx rfl hb.at_ (stC_one r h) (by unfold maxLen; omega) (by omega) hbase ?_
  intro v' w' h1 h2 _
  refine hK v' w' ?_ h2
  unfold OwnSts
  rw [List.length_append, stL_snoc]
  exact h1
/-- What stands at the head of the loop over a station's days. -/
def DayRel (w : World) (s K g : Nat) (key : ByteArray) (v : Value) (l : List Sta) (i : Value) (wr : World) : Prop :=
  ∃ (k : Nat) (hh : Nat → Int), k ≤ 7 ∧ i = .int .i64 k ∧ HB hh ∧ Bk wr g 94 (stC key hh) ∧ SB wr s (K + 3 * k) ∧ G w wr (some s) ∧ OwnSts wr (w.heap.size + 1) v l ∧ Bk wr w.heap.size 9 #[.string ⟨#[115, 49]⟩, .string ⟨#[115, 50]⟩, .string ⟨#[115, 51]⟩]
theorem OwnSts.kept {w w' : World} {base : Nat} {v : Value} {l : List Sta} {s : Nat} (h : OwnSts w base v l) (hg : G w w' (some s)) (hs : s < base) : OwnSts w' base v l := by
  refine World.ownsRow.kept h hg (.inr fun e => ?_)
  have := (World.ownsRow.lt h s e).1
  omega
theorem OwnSts.alloc {w : World} {base : Nat} {v : Value} {l : List Sta} (h : OwnSts w base v l) (o : Obj) : OwnSts (w.alloc o) base v l := World.ownsRow.alloc h o
theorem OwnSts.setCell {w : World} {base : Nat} {v : Value} {l : List Sta} (h : OwnSts w base v l) {p : Addr} (hp : v.ownBlock ≠ some p.block) (u : Value) : OwnSts (w.setCell p u) base v l :=
  World.ownsRow.kept h (grownBy_setCell_row w p u) (.inr hp)
end Go.Proofs.YtlnoafkepfgooaaDoor

/- basic.isSmall, isDigit, IsKey. -/
namespace Go.Proofs.YtlnoafkepfgooaaDoor
open Go.RowKit

def sm (c : Int) : Bool := decide (97 ≤ c) && decide (c ≤ 122)
def dg (c : Int) : Bool := decide (48 ≤ c) && decide (c ≤ 57)
def kc (c : Int) : Bool := sm c || dg c || c == 45 || c == 95
/-- Which strings are keys. -/
def keyB (s : ByteArray) : Bool := decide (1 ≤ s.size) && decide (s.size ≤ 40) && (match s.data.toList with | [] => false | c :: _ => sm c.toNat) && s.data.toList.all fun c => kc c.toNat
theorem ret_bool {a b : Bool} (h : a = b) : Ending.returned (.bool a) = .returned (.bool b) := by rw [h]

theorem small_c (c : Int) (w : World) : Calls Tryd.prog 67 #[.int .u8 c] w fun e w' => e = .returned (.bool (sm c)) ∧ w = w' := by
  by_cases h1 : 97 ≤ c <;> by_cases h2 : c ≤ 122
  all_goals
    have h3 : sm c = (decide (97 ≤ c) && decide (c ≤ 122)) := rfl
    simp only [h1, h2, decide_true, decide_false, Bool.and_true, Bool.and_false] at h3
    have H := Lib.hid h3
    clear h3
    go_enter Tryd.func67, Tryd.ntmps67
    go_wp2_with fail
    go_ret
    exact ⟨ret_bool H.out.symm, rfl⟩
theorem digit_c (c : Int) (w : World) : Calls Tryd.prog 68 #[.int .u8 c] w fun e w' => e = .returned (.bool (dg c)) ∧ w = w' := by
  by_cases h1 : 48 ≤ c <;> by_cases h2 : c ≤ 57
  all_goals
    have h3 : dg c = (decide (48 ≤ c) && decide (c ≤ 57)) := rfl
    simp only [h1, h2, decide_true, decide_false, Bool.and_true, Bool.and_false] at h3
    have H := Lib.hid h3
    clear h3
    go_enter Tryd.func68, Tryd.ntmps68
    go_wp2_with fail
    go_ret
    exact ⟨ret_bool H.out.symm, rfl⟩

theorem take_snoc (s : ByteArray) (k : Nat) (h : k < s.size) : s.data.toList.take (k + 1) = s.data.toList.take k ++ [s[k]] := by
  rw [List.take_succ_eq_append_getElem (by simpa using h)]; rfl
theorem len_data (s : ByteArray) : s.data.toList.length = s.size := by rw [Array.length_toList]; rfl
theorem get_data (s : ByteArray) (k : Nat) (h : k < s.size) : s.data.toList[k]? = some s[k] := by
  rw [List.getElem?_eq_getElem (by rw [len_data]; exact h)]; rfl
theorem keyB_of (s : ByteArray) (h0 : 0 < s.size) (h40 : s.size ≤ 40) (hs : sm (s[0].toNat : Int) = true) : keyB s = s.data.toList.all fun c => kc c.toNat := by
  unfold keyB
  have hl := len_data s
  cases hq : s.data.toList with
  | nil => rw [hq] at hl; simp at hl; omega
  | cons c r =>
    have hc : s[0] = c := by
      have := get_data s 0 h0
      rw [hq] at this
      simpa using this.symm
    rw [hc] at hs
    simp [hs, h40, show 1 ≤ s.size from h0]
theorem keyB_no (s : ByteArray) (h : s.size = 0 ∨ 40 < s.size) : keyB s = false := by
  unfold keyB
  rcases h with h | h
  · simp [h]
  · simp [show ¬ s.size ≤ 40 by omega]
theorem keyB_head (s : ByteArray) (h0 : 0 < s.size) (hs : sm (s[0].toNat : Int) = false) : keyB s = false := by
  unfold keyB
  have hl := len_data s
  cases hq : s.data.toList with
  | nil => rw [hq] at hl; simp at hl; omega
  | cons c r =>
    have hc : s[0] = c := by
      have := get_data s 0 h0
      rw [hq] at this
      simpa using this.symm
    rw [hc] at hs
    simp [hs]
theorem all_no (s : ByteArray) (k : Nat) (hk : k < s.size) (h : kc (s[k].toNat : Int) = false) : (s.data.toList.all fun c => kc c.toNat) = false := by
  rw [List.all_eq_false]
  refine ⟨s[k], ?_, by simp [h]⟩
  exact List.mem_of_getElem? (get_data s k hk)
theorem kc_sm {c : Int} (h : sm c = true) : kc c = true := by simp [kc, h]
theorem kc_dg {c : Int} (h : dg c = true) : kc c = true := by simp [kc, h]
theorem kc_no {c : Int} (h1 : sm c = false) (h2 : dg c = false) (h3 : (c == 45) = false) (h4 : (c == 95) = false) : kc c = false := by simp only [kc, h1, h2, h3, h4, Bool.or_false]

theorem empty_of {s : ByteArray} (h : s.size = 0) : s = ⟨#[]⟩ := by
  apply Go.WideShapes.bytes_inj
  exact List.eq_nil_of_length_eq_zero ((len_data s).trans h)
theorem isE_of {s : ByteArray} (h : 0 < s.size) : s.toList.isEmpty = false := by
  rw [ByteArray.toList_eq]
  have := len_data s
  cases hq : s.data.toList with
  | nil => rw [hq] at this; simp at this; omega
  | cons _ _ => rfl
set_option maxHeartbeats 1000000 in
theorem isKey_c (s : ByteArray) (w : World) (hs : s.size ≤ 9223372036854775807) : Calls Tryd.prog 61 #[.string s] w fun e w' => e = .returned (.bool (keyB s)) ∧ w = w' := by
  by_cases h0 : s.size = 0
  · obtain rfl := empty_of h0
    have H := Lib.hid (keyB_no ⟨#[]⟩ (.inl rfl))
    clear h0
    go_enter Tryd.func61, Tryd.ntmps61
    go_wp2_with fail
    go_ret
    exact ⟨ret_bool H.out.symm, rfl⟩
  have h0' : 0 < s.size := by omega
  have he := isE_of h0'
  by_cases h40 : 40 < s.size
  · have H := Lib.hid (keyB_no s (.inr h40))
    go_enter Tryd.func61, Tryd.ntmps61
    go_wp2_with fail
    go_ret
    exact ⟨ret_bool H.out.symm, rfl⟩
  have h41 : s.size ≤ 40 := by omega
  cases hsm : sm (s[0].toNat : Int) with
  | false =>
    have H := Lib.hid (keyB_head s h0' hsm)
    have H2 := Lib.hid hsm
    clear hsm
    go_enter Tryd.func61, Tryd.ntmps61
    go_wp2_with fail
    refine (small_c _ _).mono ?_; rintro e w' ⟨rfl, rfl⟩
    rw [H2.out]
    go_wp2_with fail
    go_ret
    exact ⟨ret_bool H.out.symm, rfl⟩
  | true =>
    have H := Lib.hid (keyB_of s h0' h41 hsm)
    have H2 := Lib.hid hsm
    clear hsm
    go_enter Tryd.func61, Tryd.ntmps61
    go_wp2_with fail
    refine (small_c _ _).mono ?_; rintro e w' ⟨rfl, rfl⟩
    rw [H2.out]
    go_wp2_with fail
    go_loop [20] (fun i => ∃ k : Nat, k ≤ s.size ∧ i = .int .i64 k ∧ (s.data.toList.take k).all (fun c => kc c.toNat) = true) (fun i => s.size - (intOf i).toNat)
    case atStart => exact ⟨0, Nat.zero_le _, rfl, by simp⟩
    case round =>
      obtain ⟨k, hk, rfl, hall⟩ := hrel
      have HA := Lib.hid hall
      clear hall
      by_cases hlt : k < s.size
      · cases hkc : kc (s[k].toNat : Int) with
        | false =>
          have HN := Lib.hid (all_no s k hlt hkc)
          have hn : sm (s[k].toNat : Int) = false ∧ dg (s[k].toNat : Int) = false ∧ ((s[k].toNat : Int) != 45) = true ∧ ((s[k].toNat : Int) != 95) = true := by
            simp only [kc, Bool.or_eq_false_iff] at hkc
            exact ⟨hkc.1.1.1, hkc.1.1.2, by simp only [bne, hkc.1.2, Bool.not_false], by simp only [bne, hkc.2, Bool.not_false]⟩
          obtain ⟨n1, n2, n3, n4⟩ := hn
          have N1 := Lib.hid n1
          have N2 := Lib.hid n2
          clear n1 n2 hkc
          go_wp2_with fail
          refine (small_c _ _).mono ?_; rintro e w' ⟨rfl, rfl⟩
          rw [N1.out]
          go_wp2_with fail
          refine (digit_c _ _).mono ?_; rintro e w' ⟨rfl, rfl⟩
          rw [N2.out]
          go_wp2_with fail
          go_ret
          exact ⟨ret_bool (by rw [H.out, HN.out]), rfl⟩
        | true =>
          have HN : Hid ((s.data.toList.take (k + 1)).all (fun c => kc c.toNat) = true) := Lib.hid (by rw [take_snoc s k hlt, List.all_append, HA.out, Bool.true_and, List.all_cons, hkc, List.all_nil]; rfl)
          have HK := Lib.hid hkc
          clear hkc
          go_wp2_with fail
          refine (small_c _ _).mono ?_; rintro e w' ⟨rfl, rfl⟩
          cases hsm : sm (s[k].toNat : Int) with
          | true =>
            clear hsm
            go_wp2_with fail
            go_round
            case rel => exact ⟨k + 1, by omega, by go_num, HN.out⟩
            case measure => simp [intOf]; omega
          | false =>
            have HS := Lib.hid hsm
            clear hsm
            go_wp2_with fail
            refine (digit_c _ _).mono ?_; rintro e w' ⟨rfl, rfl⟩
            cases hdg : dg (s[k].toNat : Int) with
            | true =>
              clear hdg
              go_wp2_with fail
              go_round
              case rel => exact ⟨k + 1, by omega, by go_num, HN.out⟩
              case measure => simp [intOf]; omega
            | false =>
              have HD := Lib.hid hdg
              clear hdg
              cases h45 : ((s[k].toNat : Int) != 45) with
              | false =>
                go_wp2_with fail
                go_round
                case rel => exact ⟨k + 1, by omega, by go_num, HN.out⟩
                case measure => simp [intOf]; omega
              | true =>
                have h95 : ((s[k].toNat : Int) != 95) = false := by
                  have := HK.out
                  simp only [kc, HS.out, HD.out, Bool.false_or] at this
                  have h45' : ((s[k].toNat : Int) == 45) = false := by simpa [bne] using h45
                  rw [h45', Bool.false_or] at this
                  simp only [bne, this, Bool.not_true]
                go_wp2_with fail
                go_round
                case rel => exact ⟨k + 1, by omega, by go_num, HN.out⟩
                case measure => simp [intOf]; omega
      · go_wp2_with fail
        go_ret
        exact ⟨ret_bool (by rw [H.out, ← HA.out, List.take_of_length_le (by rw [len_data]; omega)]), rfl⟩
end Go.Proofs.YtlnoafkepfgooaaDoor

/- The reference's 'in', 'only', 'Key'. -/
namespace Go.Proofs.YtlnoafkepfgooaaDoor
open Go.RowKit Go.Shelf

/-- 'a' from 'lo' to 'hi'. -/
def inB (a lo hi : Int) : Bool := decide (lo ≤ a) && decide (a ≤ hi)
theorem in_c (a lo hi : Int) (w : World) : Calls Tryd.prog 42 #[.int .i64 a, .int .i64 lo, .int .i64 hi] w fun e w' => e = .returned (.bool (inB a lo hi)) ∧ w = w' := by
  by_cases h1 : lo ≤ a <;> by_cases h2 : a ≤ hi
  all_goals
    have h3 : inB a lo hi = (decide (lo ≤ a) && decide (a ≤ hi)) := rfl
    simp only [h1, h2, decide_true, decide_false, Bool.and_true, Bool.and_false] at h3
    have H := Lib.hid h3
    clear h3
    go_enter Tryd.func42, Tryd.ntmps42
    go_wp2_with fail
    go_ret
    exact ⟨ret_bool H.out.symm, rfl⟩

theorem dropWhile_nil {α : Type} (p : α → Bool) (l : List α) : (l.dropWhile p).isEmpty = l.all p := by
  induction l with
  | nil => rfl
  | cons a l ih =>
    rw [List.dropWhile_cons]
    cases h : p a with
    | true => simp [ih, h]
    | false => simp [h]
theorem dropWhile_all {α : Type} (p : α → Bool) (l : List α) : (l.dropWhile p).all p = l.all p := by
  induction l with
  | nil => rfl
  | cons a l ih =>
    rw [List.dropWhile_cons]
    cases h : p a with
    | true => simp [ih, h]
    | false => simp [h]
theorem trimS_nil (l cs : List UInt8) : (Lib.trimS l cs).isEmpty = l.all (cs.contains ·) := by
  unfold Lib.trimS Lib.trimLeftS Lib.trimRightS
  rw [dropWhile_nil, List.all_reverse, dropWhile_all, List.all_reverse]
def ASC (cs : ByteArray) : Prop := cs.size < 4294967281 ∧ ∀ (j : Nat) (b : UInt8), cs.data.toList[j]? = some b → b.toNat < 128
theorem only_c (s cs : ByteArray) (w : World) (hs : s.size ≤ 9223372036854775807) (hcs : ASC cs) :
    Calls Tryd.prog 60 #[.string s, .string cs] w fun e w' => e = .returned (.bool (s.data.toList.all (cs.data.toList.contains ·))) ∧ G w w' none := by
  have hcon := Any.strings_Trim_laid Tryd.lays160 (by kernel_rfl) s cs w hs hcs.1 hcs.2
  change Calls Tryd.prog 66 _ _ (fun e w' => e = .returned (.string ⟨(Lib.trimS s.data.toList cs.data.toList).toArray⟩) ∧ Below w.heap.size w w') at hcon
  have ht : (⟨(Lib.trimS s.data.toList cs.data.toList).toArray⟩ : ByteArray).toList.isEmpty = s.data.toList.all (cs.data.toList.contains ·) := by
    rw [ByteArray.toList_eq]
    exact trimS_nil _ _
  generalize (⟨(Lib.trimS s.data.toList cs.data.toList).toArray⟩ : ByteArray) = r at hcon ht
  have HT := Lib.hid ht
  clear ht
  go_enter Tryd.func60, Tryd.ntmps60
  go_wp2_with fail
  refine hcon.mono ?_; rintro e w' ⟨rfl, hB⟩
  go_wp2_with fail
  go_ret
  exact ⟨ret_bool HT.out, Below.G hB rfl⟩

def smallsS : ByteArray := ⟨#[97, 98, 99, 100, 101, 102, 103, 104, 105, 106, 107, 108, 109, 110, 111, 112, 113, 114, 115, 116, 117, 118, 119, 120, 121, 122]⟩
def keyS : ByteArray := ⟨#[97, 98, 99, 100, 101, 102, 103, 104, 105, 106, 107, 108, 109, 110, 111, 112, 113, 114, 115, 116, 117, 118, 119, 120, 121, 122, 48, 49, 50, 51, 52, 53, 54, 55, 56, 57, 45, 95]⟩
theorem asc_of {cs : ByteArray} (h : cs.size < 4294967281) (h2 : cs.data.toList.all (fun b => decide (b.toNat < 128)) = true) : ASC cs := by
  refine ⟨h, fun j b hj => ?_⟩
  have := List.all_eq_true.1 h2 b (List.mem_of_getElem? hj)
  simpa using this
theorem smalls_asc : ASC smallsS := asc_of (by decide) (by decide)
theorem key_asc : ASC keyS := asc_of (by decide) (by decide)
theorem smalls_has (c : UInt8) : smallsS.data.toList.contains c = sm (c.toNat : Int) := by
  have h : ∀ n : Fin 256, smallsS.data.toList.contains (UInt8.ofNat n.val) = sm (n.val : Int) := by decide +kernel
  have := h ⟨c.toNat, c.toNat_lt⟩
  simpa using this
theorem key_has (c : UInt8) : keyS.data.toList.contains c = kc (c.toNat : Int) := by
  have h : ∀ n : Fin 256, keyS.data.toList.contains (UInt8.ofNat n.val) = kc (n.val : Int) := by decide +kernel
  have := h ⟨c.toNat, c.toNat_lt⟩
  simpa using this
set_option maxRecDepth 100000 in
set_option maxHeartbeats 1000000 in
theorem rkey_c (s : ByteArray) (w : World) (hs : s.size ≤ 9223372036854775807) : Calls Tryd.prog 41 #[.string s] w fun e w' => e = .returned (.bool (keyB s)) ∧ G w w' none := by
  by_cases hin : 1 ≤ s.size ∧ s.size ≤ 40
  · obtain ⟨h1, h40⟩ := hin
    have hb : inB (s.size : Int) 1 40 = true := by simp [inB]; omega
    have HB := Lib.hid hb
    clear hb
    go_enter Tryd.func41, Tryd.ntmps41
    go_wp2_with fail
    refine (in_c _ _ _ _).mono ?_; rintro e w' ⟨rfl, rfl⟩
    rw [HB.out]
    go_wp2_with fail
    have hx0 : (s.extract 0 1).data.toList = [s[0]] := by
      rw [ByteArray.data_extract, Array.toList_extract, List.extract_eq_take_drop, List.drop_zero]
      have := get_data s 0 h1
      cases hq : s.data.toList with
      | nil => rw [hq] at this; simp at this
      | cons c r => rw [hq] at this; simp at this; simp [this]
    refine (only_c (s.extract 0 1) smallsS _ (by have h8 := len_data (s.extract 0 1); rw [hx0] at h8; have h9 : [s[0]].length = 1 := rfl; omega) smalls_asc).mono ?_; rintro e w2 ⟨rfl, hG⟩
    have hall : ((s.extract 0 1).data.toList.all fun c => smallsS.data.toList.contains c) = sm (s[0].toNat : Int) := by rw [hx0, List.all_cons, List.all_nil, Bool.and_true, smalls_has]
    rw [hall]
    clear hall hx0
    cases hsm : sm (s[0].toNat : Int) with
    | false =>
      have H := Lib.hid (keyB_head s h1 hsm)
      clear hsm
      go_wp2_with fail
      go_ret
      exact ⟨ret_bool H.out.symm, hG⟩
    | true =>
      have H := Lib.hid (keyB_of s h1 h40 hsm)
      clear hsm
      go_wp2_with fail
      refine (only_c s keyS _ hs key_asc).mono ?_; rintro e w3 ⟨rfl, hG3⟩
      have hall : (s.data.toList.all fun c => keyS.data.toList.contains c) = (s.data.toList.all fun c => kc c.toNat) := by
        congr 1; funext c; exact key_has c
      rw [hall, ← H.out]
      go_wp2_with fail
      go_ret
      exact ⟨rfl, hG.trans hG3⟩
  · have hb : inB (s.size : Int) 1 40 = false := by simp [inB]; omega
    have HB := Lib.hid hb
    have H := Lib.hid (keyB_no s (by omega))
    clear hb
    go_enter Tryd.func41, Tryd.ntmps41
    go_wp2_with fail
    refine (in_c _ _ _ _).mono ?_; rintro e w' ⟨rfl, rfl⟩
    rw [HB.out]
    go_wp2_with fail
    go_ret
    exact ⟨ret_bool H.out.symm, G.refl _ _⟩
def bnd (n : Int) : Prop := -1099511627776 ≤ n ∧ n ≤ 1099511627776
set_option maxRecDepth 100000 in
theorem within_c (a lo hi : Int) (w : World) : Calls Tryd.prog 39 #[.int .i64 a, .int .i64 lo, .int .i64 hi] w fun e w' => e = .returned (.bool (inB a lo hi)) ∧ w = w' := by
  have h3 : inB a lo hi = (decide (lo ≤ a) && decide (a ≤ hi)) := rfl
  by_cases h1 : lo ≤ a
  · by_cases h2 : a ≤ hi
    · have H : Hid (inB a lo hi = true) := Lib.hid (by simp [h3, h1, h2])
      clear h3
      go_enter Tryd.func39, Tryd.ntmps39
      go_wp2_with fail
      go_ret
      exact ⟨ret_bool H.out.symm, rfl⟩
    · have H : Hid (inB a lo hi = false) := Lib.hid (by simp [h3, h2])
      clear h3
      go_enter Tryd.func39, Tryd.ntmps39
      go_wp2_with fail
      go_ret
      exact ⟨ret_bool (by rw [H.out] <;> exact decide_eq_false h2), rfl⟩
  · have H : Hid (inB a lo hi = false) := Lib.hid (by simp [h3, h1])
    have h1' : a < lo := by omega
    clear h3 h1
    go_enter Tryd.func39, Tryd.ntmps39
    go_wp2_with fail
    go_ret
    exact ⟨ret_bool H.out.symm, rfl⟩
end Go.Proofs.YtlnoafkepfgooaaDoor

/- Stations: rightHours, CheckStations, StationsFault. -/
namespace Go.Proofs.YtlnoafkepfgooaaDoor
open Go.RowKit

/-- The fourteen cells of a station's hours. -/
def hrC (h : Nat → Int) : Array Value := #[.int .i64 (h 0), .int .i64 (h 1), .int .i64 (h 2), .int .i64 (h 3), .int .i64 (h 4), .int .i64 (h 5), .int .i64 (h 6), .int .i64 (h 7), .int .i64 (h 8), .int .i64 (h 9), .int .i64 (h 10), .int .i64 (h 11), .int .i64 (h 12), .int .i64 (h 13)]
/-- The hours of a day are right. -/
def okDay (h : Nat → Int) (i : Nat) : Bool := inB (h (i * 2)) 0 (h (i * 2 + 1)) && decide (h (i * 2 + 1) ≤ 1440)
def okHrs (h : Nat → Int) : Bool := (List.range 7).all (okDay h)
theorem okHrs_no {h : Nat → Int} {k : Nat} (hk : k < 7) (hd : okDay h k = false) : okHrs h = false := by
  unfold okHrs
  rw [List.all_eq_false]
  exact ⟨k, List.mem_range.2 hk, by simp [hd]⟩
theorem okHrs_yes {h : Nat → Int} (hd : (List.range 7).all (okDay h) = true) : okHrs h = true := hd
theorem range_snoc (h : Nat → Int) (k : Nat) : (List.range (k + 1)).all (okDay h) = ((List.range k).all (okDay h) && okDay h k) := by
  rw [List.range_succ, List.all_append, List.all_cons, List.all_nil, Bool.and_true]
theorem index_hr (h : Nat → Int) (k : Nat) (hk : k < 7) (w : World) : (Instr.index 92 (.agg (hrC h)) (.int .i64 (k : Int))).run Tryd.prog w = .ok (.agg #[.int .i64 (h (k * 2)), .int .i64 (h (k * 2 + 1))]) w := by
  match k, hk with
  | 0, _ => show _ = _; kernel_rfl
  | 1, _ => show _ = _; kernel_rfl
  | 2, _ => show _ = _; kernel_rfl
  | 3, _ => show _ = _; kernel_rfl
  | 4, _ => show _ = _; kernel_rfl
  | 5, _ => show _ = _; kernel_rfl
  | 6, _ => show _ = _; kernel_rfl
theorem hr_info (h : Nat → Int) : (Tryd.prog.info? 92).map (·.size) = some (hrC h).size := (by kernel_rfl : (Tryd.prog.info? 92).map (·.size) = some 14)

def DaysRel (w : World) (h : Nat → Int) (i : Value) (wr : World) : Prop := ∃ k : Nat, k ≤ 7 ∧ i = .int .i64 k ∧ (List.range k).all (okDay h) = true ∧ G w wr none
set_option maxRecDepth 100000 in
set_option maxHeartbeats 1000000 in
theorem rightHours_c (h : Nat → Int) (w : World) : Calls Tryd.prog 100 #[.agg (hrC h)] w fun e w' => e = .returned (.bool (okHrs h)) ∧ G w w' none := by
  go_enter Tryd.func100, Tryd.ntmps100
  go_wp2_with (refine wpList_load_row rfl 92 _ rfl w.heap.size rfl 92 (hrC h) (0, 0) _ (Bk.new w _ _) Tryd.underlying92 rfl (hr_info _) ?_)
  go_loopw [6] (DaysRel w h) (fun i _ => 7 - (intOf i).toNat)
  case atStart => exact ⟨0, by omega, rfl, rfl, (G.refl _ _).alloc _⟩
  case round =>
    obtain ⟨k, hk7, rfl, hall, hG⟩ := hrel
    have HA := Lib.hid hall
    clear hall
    by_cases hk : k < 7
    · have hix := index_hr h k hk wr
      have hd : okDay h k = (decide (0 ≤ h (k * 2)) && decide (h (k * 2) ≤ h (k * 2 + 1)) && decide (h (k * 2 + 1) ≤ 1440)) := rfl
      have HD := Lib.hid hd
      clear hd
      by_cases h1 : 0 ≤ h (k * 2)
      · by_cases h2 : h (k * 2) ≤ h (k * 2 + 1)
        · by_cases h3 : h (k * 2 + 1) ≤ 1440
          · have hok : okDay h k = true := by rw [HD.out]; simp [h1, h2, h3]
            have HN := Lib.hid (show (List.range (k + 1)).all (okDay h) = true by rw [range_snoc, HA.out, hok]; rfl)
            clear hok
            go_wp2_with fail
            go_roundw
            case rel => exact ⟨k + 1, by omega, by go_num, HN.out, hG.alloc _⟩
            case measure => simp [intOf]; omega
          · have H := Lib.hid (okHrs_no hk (show okDay h k = false by rw [HD.out]; simp [h3]))
            go_wp2_with fail
            go_ret
            exact ⟨ret_bool H.out.symm, hG.alloc _⟩
        · have H := Lib.hid (okHrs_no hk (show okDay h k = false by rw [HD.out]; simp [h2]))
          go_wp2_with fail
          go_ret
          exact ⟨ret_bool H.out.symm, hG.alloc _⟩
      · have H := Lib.hid (okHrs_no hk (show okDay h k = false by rw [HD.out]; simp [h1]))
        go_wp2_with fail
        go_ret
        exact ⟨ret_bool H.out.symm, hG.alloc _⟩
    · obtain rfl : k = 7 := by omega
      go_wp2_with fail
      go_ret
      exact ⟨ret_bool HA.out.symm, hG⟩

/-! ### CheckStations, StationsFault -/
/-- Go's '<=' of strings. -/
def leB (a b : ByteArray) : Bool := Op.bytesLess a.toList b.toList || a.toList == b.toList
def staErr (before : ByteArray) : List Sta → Int
  | [] => 0
  | p :: r => if keyB p.1 = false then 5 else if leB p.1 before = true then 7 else if okHrs p.2 = false then 1 else staErr p.1 r
def stErr (l : List Sta) : Int := if 50 < l.length then 2 else staErr ⟨#[]⟩ l
theorem stL_at (l : List Sta) (k : Nat) (p : Sta) (hp : l[k]? = some p) : ∀ j v, (stC p.1 p.2).toList[j]? = some v → (stL l)[k * 15 + j]? = some v := by
  induction l generalizing k with
  | nil => simp at hp
  | cons q r ih =>
    intro j v hv
    have hl : (stC q.1 q.2).toList.length = 15 := rfl
    rw [show stL (q :: r) = (stC q.1 q.2).toList ++ stL r from rfl]
    cases k with
    | zero =>
      obtain rfl : q = p := by simpa using hp
      have hj : j < 15 := by rw [← hl]; exact (List.getElem?_eq_some_iff.1 hv).1
      rw [Nat.zero_mul, Nat.zero_add, List.getElem?_append_left (by rw [hl]; exact hj)]
      exact hv
    | succ k =>
      rw [List.getElem?_append_right (by rw [hl]; omega), hl, show (k + 1) * 15 + j - 15 = k * 15 + j by omega]
      exact ih k (by simpa using hp) j v hv
/-- What every key of such a list meets. -/
def KeysOk (l : List Sta) : Prop := ∀ p ∈ l, p.1.size ≤ 9223372036854775807 ∧ HB p.2
def ChkRel (w : World) (l : List Sta) (v i : Value) (wr : World) : Prop :=
  ∃ (k : Nat) (b : ByteArray), k ≤ l.length ∧ i = .int .i64 k ∧ v = .string b ∧ staErr ⟨#[]⟩ l = staErr b (l.drop k) ∧ G w wr none
set_option maxRecDepth 100000 in
set_option maxHeartbeats 2000000 in
theorem checkStations_c (v : Value) (l : List Sta) (w : World) (hr : Rd w 15 v l.length (stL l)) (hl : KeysOk l) (hn : l.length ≤ 1000) :
    Calls Tryd.prog 90 #[v] w fun e w' => e = .returned (.int .i64 (stErr l)) ∧ G w w' none := by
  obtain ⟨a, cap, rfl, hcap, hm, hlen, hnil, hcell⟩ := hr
  by_cases h50 : 50 < l.length
  · have H := Lib.hid (show stErr l = 2 by simp [stErr, h50])
    go_enter Tryd.func90, Tryd.ntmps90
    go_wp2_with fail
    go_ret
    exact ⟨by rw [H.out]; rfl, G.refl _ _⟩
  · have H := Lib.hid (show stErr l = staErr ⟨#[]⟩ l by simp [stErr, h50])
    go_enter Tryd.func90, Tryd.ntmps90
    go_wp2_with fail
    go_loopw [3, 11] (ChkRel w l) (fun _ i _ => l.length - (intOf i).toNat)
    case atStart => exact ⟨0, ⟨#[]⟩, by omega, rfl, rfl, rfl, G.refl _ _⟩
    case round =>
      obtain ⟨k, b, hkl, rfl, rfl, heq, hG⟩ := hrel
      have HE := Lib.hid heq
      clear heq
      by_cases hk : k < l.length
      · obtain ⟨p, hp⟩ : ∃ p, l[k]? = some p := ⟨_, List.getElem?_eq_getElem hk⟩
        have hdrop : l.drop k = p :: l.drop (k + 1) := by rw [List.drop_eq_getElem_cons hk, ← (List.getElem?_eq_some_iff.1 hp).2]
        have hpl := hl p (List.mem_of_getElem? hp)
        cases a with
        | none => have := (hnil rfl).1; omega
        | some ad =>
          obtain ⟨bb, bo, bs⟩ := ad
          obtain ⟨e1, e2, e3⟩ := hcell _ rfl
          dsimp only at e1 e2 e3
          subst e1
          have hrow : ∀ j v, (stC p.1 p.2).toList[j]? = some v → wr.cell? ((⟨bb, bo + k * 15, none⟩ : Addr).add j) = some v := by
            intro j v hv
            rw [add_at]
            have h1 := e3 (k * 15 + j) v (stL_at l k p hp j v hv)
            rw [← Nat.add_assoc] at h1
            exact ((gcell hG).1 bb _ e2).trans h1
          have HR := Lib.hid hrow
          clear hrow hcell e3 hnil
          have hs1 := hpl.1
          have HS : Hid (staErr b (l.drop k) = if keyB p.1 = false then 5 else if leB p.1 b = true then 7 else if okHrs p.2 = false then 1 else staErr p.1 (l.drop (k + 1))) := Lib.hid (by rw [hdrop]; rfl)
          clear hdrop
          go_wp2_with (refine wpList_load_at rfl 94 _ rfl ⟨bb, bo + k * 15, none⟩ rfl #[.string p.1, .int .i64 (p.2 0), .int .i64 (p.2 1), .int .i64 (p.2 2), .int .i64 (p.2 3), .int .i64 (p.2 4), .int .i64 (p.2 5), .int .i64 (p.2 6), .int .i64 (p.2 7), .int .i64 (p.2 8), .int .i64 (p.2 9), .int .i64 (p.2 10), .int .i64 (p.2 11), .int .i64 (p.2 12), .int .i64 (p.2 13)] _ HR.out Tryd.underlying94 rfl (st_info _ _) ?_)
          refine (isKey_c _ _ hs1).mono ?_; rintro e w' ⟨rfl, rfl⟩
          cases hkb : keyB p.1 with
          | false =>
            have HF : Hid (stErr l = 5) := Lib.hid (by rw [H.out, HE.out, HS.out, if_pos hkb])
            clear hkb
            go_wp2_with fail
            go_ret
            exact ⟨by rw [HF.out]; rfl, hG.alloc _⟩
          | true =>
            cases hle : leB p.1 b with
            | true =>
              have HF : Hid (stErr l = 7) := Lib.hid (by rw [H.out, HE.out, HS.out, if_neg (by simp [hkb]), if_pos hle])
              unfold leB at hle
              clear hkb
              go_wp2_with fail
              go_ret
              exact ⟨by rw [HF.out]; rfl, hG.alloc _⟩
            | false =>
              have HL := Lib.hid hle
              have HK := Lib.hid hkb
              unfold leB at hle
              clear hkb
              go_wp2_with fail
              refine (rightHours_c p.2 _).mono ?_; rintro e w2 ⟨rfl, hG2⟩
              have hc0 : w2.cell? ⟨wr.heap.size, 0, none⟩ = some (.string p.1) := ((gcell hG2).1 _ 0 (by simp)).trans ((Bk.new wr 94 #[.string p.1, .int .i64 (p.2 0), .int .i64 (p.2 1), .int .i64 (p.2 2), .int .i64 (p.2 3), .int .i64 (p.2 4), .int .i64 (p.2 5), .int .i64 (p.2 6), .int .i64 (p.2 7), .int .i64 (p.2 8), .int .i64 (p.2 9), .int .i64 (p.2 10), .int .i64 (p.2 11), .int .i64 (p.2 12), .int .i64 (p.2 13)]).cell 0)
              have hG3 := (hG.alloc _).trans hG2
              clear hG2
              cases hok : okHrs p.2 with
              | false =>
                have HF : Hid (stErr l = 1) := Lib.hid (by rw [H.out, HE.out, HS.out, if_neg (by simp [HK.out]), if_neg (by simp [HL.out]), if_pos hok])
                clear hok
                go_wp2_with fail
                go_ret
                exact ⟨by rw [HF.out]; rfl, hG3⟩
              | true =>
                have HF : Hid (staErr ⟨#[]⟩ l = staErr p.1 (l.drop (k + 1))) := Lib.hid (by rw [HE.out, HS.out, if_neg (by simp [HK.out]), if_neg (by simp [HL.out]), if_neg (by simp [hok])])
                clear hok
                go_wp2_with fail
                go_roundw
                case rel => exact ⟨k + 1, p.1, by omega, by go_num, rfl, HF.out, hG3⟩
                case measure => simp [intOf]; omega
      · obtain rfl : k = l.length := by omega
        have HE2 : Hid (stErr l = 0) := Lib.hid (by rw [H.out, HE.out, List.drop_length]; rfl)
        go_wp2_with fail
        go_ret
        exact ⟨by rw [HE2.out]; rfl, hG⟩
end Go.Proofs.YtlnoafkepfgooaaDoor

/- The reference's StationsFault; one station alone. -/
namespace Go.Proofs.YtlnoafkepfgooaaDoor
open Go.RowKit

end Go.Proofs.YtlnoafkepfgooaaDoor

/- One station: hoursOn, overlap, checkMoment, checkStationAt, IsOpen, NextOpen, OpenMinutes. -/
namespace Go.Proofs.YtlnoafkepfgooaaDoor
open Go.RowKit

/-- When a station opens and closes on a day, as moments. -/
def dFrom (h : Nat → Int) (d : Nat) : Int := (d : Int) * 1440 + h (d % 7 * 2)
def dTo (h : Nat → Int) (d : Nat) : Int := (d : Int) * 1440 + h (d % 7 * 2 + 1)
theorem stC_pair (r : ByteArray) (h : Nat → Int) {w : World} {g : Nat} (hb : Bk w g 94 (stC r h)) (i : Nat) (hi : i < 7) :
    ∀ j v, (#[Value.int .i64 (h (i * 2)), .int .i64 (h (i * 2 + 1))] : Array Value).toList[j]? = some v → w.cell? ((⟨g, 1 + i * 2, none⟩ : Addr).add j) = some v := by
  intro j v hv
  rw [add_at, hb.cell]
  match j with
  | 0 =>
    obtain rfl : Value.int .i64 (h (i * 2)) = v := by simpa using hv
    exact stC_get r h (i * 2) (by omega)
  | 1 =>
    obtain rfl : Value.int .i64 (h (i * 2 + 1)) = v := by simpa using hv
    exact stC_get r h (i * 2 + 1) (by omega)
  | j + 2 => simp at hv
theorem ret_int {k : IntKind} {a b : Int} (h : a = b) : Ending.returned (.int k a) = .returned (.int k b) := by rw [h]
/-- How many moments two windows share. -/
def ovl (a b c d : Int) : Int := max 0 (min b d - max a c)
def small (x : Int) : Prop := -1099600000000 ≤ x ∧ x ≤ 1099600000000
/-! ### Moments, windows -/
def momB (t : Int) : Bool := decide (0 ≤ t) && decide (t < 5761440)
def momE (t : Int) : Int := if momB t = true then 0 else 1
theorem isMoment_c (t : Int) (w : World) : Calls Tryd.prog 71 #[.int .i64 t] w fun e w' => e = .returned (.bool (momB t)) ∧ w = w' := by
  by_cases h1 : 0 ≤ t <;> by_cases h2 : t < 5761440
  all_goals
    have h3 : momB t = (decide (0 ≤ t) && decide (t < 5761440)) := rfl
    simp only [h1, h2, decide_true, decide_false, Bool.and_true, Bool.and_false] at h3
    have H := Lib.hid h3
    clear h3
    go_enter Tryd.func71, Tryd.ntmps71
    go_wp2_with fail
    go_ret
    exact ⟨ret_bool H.out.symm, rfl⟩
theorem checkMoment_c (t : Int) (w : World) : Calls Tryd.prog 63 #[.int .i64 t] w fun e w' => e = .returned (.int .i64 (momE t)) ∧ w = w' := by
  go_enter Tryd.func63, Tryd.ntmps63
  go_wp2_with fail
  refine (isMoment_c _ _).mono ?_; rintro e w' ⟨rfl, rfl⟩
  cases hm : momB t with
  | true =>
    have H : Hid (momE t = 0) := Lib.hid (by simp [momE, hm])
    clear hm
    go_wp2_with fail
    go_ret
    exact ⟨ret_int H.out.symm, rfl⟩
  | false =>
    have H : Hid (momE t = 1) := Lib.hid (by simp [momE, hm])
    clear hm
    go_wp2_with fail
    go_ret
    exact ⟨ret_int H.out.symm, rfl⟩
theorem when_c (b : Bool) (n : Int) (w : World) : Calls Tryd.prog 14 #[.bool b, .int .i64 n] w fun e w' => e = .returned (.int .i64 (if b = true then n else 0)) ∧ w = w' := by
  cases b
  all_goals
    go_enter Tryd.func14, Tryd.ntmps14
    go_wp2_with fail
    go_ret
    exact ⟨rfl, rfl⟩
def winB (a b : Int) : Bool := decide (0 ≤ a) && decide (a ≤ b) && decide (b ≤ 5761440)
def winE (a b : Int) : Int := if winB a b = true then 0 else 1
end Go.Proofs.YtlnoafkepfgooaaDoor

/- basic.Has: is a moment in a window. -/
namespace Go.Proofs.YtlnoafkepfgooaaDoor
open Go.RowKit

def hasB (x y t : Int) : Bool := decide (x ≤ t) && decide (t < y)
end Go.Proofs.YtlnoafkepfgooaaDoor

/- checkStationAt, IsOpen, NextOpen; OpenAt, NextOpenOf. -/
namespace Go.Proofs.YtlnoafkepfgooaaDoor
open Go.RowKit

/-- The error of one station and a moment. -/
def atE (r : ByteArray) (h : Nat → Int) (t : Int) : Int := if stErr [(r, h)] = 0 then momE t else stErr [(r, h)]
theorem rd_one {w : World} {b : Nat} (r : ByteArray) (h : Nat → Int) (hb : w.heap.size = b) : Rd (w.alloc (.cells (stC r h) 94)) 15 (.slice (some ⟨b, 0, none⟩) 1 1) [(r, h)].length (stL [(r, h)]) := by
  have := Rd.newAt (w := w) (z := 15) (n := 1) (T := 94) (stC r h) hb rfl (by decide)
  rw [show stL [(r, h)] = (stC r h).toList from by simp [stL]]
  exact this
theorem staErr_le (b : ByteArray) (l : List Sta) : 0 ≤ staErr b l ∧ staErr b l ≤ 10 := by
  induction l generalizing b with
  | nil => simp [staErr]
  | cons p r ih =>
    unfold staErr
    split
    · omega
    · split
      · omega
      · split
        · omega
        · exact ih _
/-- Whether it is open at a moment. -/
def opB (h : Nat → Int) (t : Nat) : Bool := decide (dFrom h (t / 1440) ≤ (t : Int)) && decide ((t : Int) < dTo h (t / 1440))
theorem atE_mom {r : ByteArray} {h : Nat → Int} {t : Int} (h0 : atE r h t = 0) : 0 ≤ t ∧ t < 5761440 ∧ stErr [(r, h)] = 0 := by
  unfold atE at h0
  split at h0
  · rename_i hs
    unfold momE at h0
    split at h0
    · rename_i hm
      simp only [momB, Bool.and_eq_true, decide_eq_true_eq] at hm
      exact ⟨hm.1, hm.2, hs⟩
    · omega
  · exact absurd h0 (by assumption)
theorem okHrs_of {r : ByteArray} {h : Nat → Int} (h0 : stErr [(r, h)] = 0) : okHrs h = true := by
  simp only [stErr, staErr, List.length_singleton, show ¬ 50 < 1 by omega, if_false] at h0
  split at h0
  · omega
  · split at h0
    · omega
    · split at h0
      · omega
      · rename_i hx
        simpa using hx
theorem okDay_of {h : Nat → Int} (hh : okHrs h = true) (d : Nat) : 0 ≤ h (d % 7 * 2) ∧ h (d % 7 * 2) ≤ h (d % 7 * 2 + 1) ∧ h (d % 7 * 2 + 1) ≤ 1440 := by
  have := List.all_eq_true.1 hh (d % 7) (List.mem_range.2 (Nat.mod_lt _ (by omega)))
  simp only [okDay, inB, Bool.and_eq_true, decide_eq_true_eq] at this
  exact ⟨this.1.1, this.1.2, this.2⟩
def isOpenR (r : ByteArray) (h : Nat → Int) (t : Int) : Bool := if atE r h t = 0 then opB h t.toNat else false
end Go.Proofs.YtlnoafkepfgooaaDoor

/- NextOpen; OpenAt, NextOpenOf. -/
namespace Go.Proofs.YtlnoafkepfgooaaDoor
open Go.RowKit

/-- The first of so many days at which something is so. -/
def find (c : Nat → Bool) (v : Nat → Int) : Nat → Nat → Option Int
  | 0, _ => none
  | n + 1, d => if c d = true then some (v d) else find c v n (d + 1)
def cC (h : Nat → Int) (t : Nat) (d : Nat) : Bool := decide (max (t : Int) (dFrom h d) < dTo h d)
def vC (h : Nat → Int) (t : Nat) (d : Nat) : Int := max (t : Int) (dFrom h d)
def kC (t : Nat) : Nat := min 7 (4000 - t / 1440) + 1
def nextO (h : Nat → Int) (t : Nat) : Option Int := find (cC h t) (vC h t) (kC t) (t / 1440)
/-- What NextOpen returns. -/
def nextR (r : ByteArray) (h : Nat → Int) (t : Int) : Int × Int :=
  if atE r h t = 0 then (match nextO h t.toNat with | some n => (n, 0) | none => (0, 8)) else (0, atE r h t)
theorem dFrom_bd {h : Nat → Int} (hb : HB h) (d : Nat) : (d : Int) * 1440 - 1099511627776 ≤ dFrom h d ∧ dFrom h d ≤ (d : Int) * 1440 + 1099511627776 := by
  have := hb (d % 7 * 2); unfold dFrom; omega
theorem dTo_bd {h : Nat → Int} (hb : HB h) (d : Nat) : (d : Int) * 1440 - 1099511627776 ≤ dTo h d ∧ dTo h d ≤ (d : Int) * 1440 + 1099511627776 := by
  have := hb (d % 7 * 2 + 1); unfold dTo; omega
def NextRel (w : World) (r : ByteArray) (h : Nat → Int) (t d0 : Nat) (i : Value) (wr : World) : Prop :=
  ∃ k : Nat, k ≤ kC t ∧ i = .int .i64 ((d0 : Int) + (k : Int)) ∧ nextO h t = find (cC h t) (vC h t) (kC t - k) (d0 + k) ∧ G w wr none ∧ Bk wr w.heap.size 94 (stC r h)
/-! ### The reference's -/
end Go.Proofs.YtlnoafkepfgooaaDoor

/- NextOpenOf, OpenMinutes, OpenIn. -/
namespace Go.Proofs.YtlnoafkepfgooaaDoor
open Go.RowKit

def cR (h : Nat → Int) (t : Nat) (d : Nat) : Bool := decide ((t : Int) < dFrom h d) && decide (dFrom h d < 5761440) && decide (h (d % 7 * 2) < h (d % 7 * 2 + 1))
def refO (h : Nat → Int) (t : Nat) : Option Int := if opB h t = true then some (t : Int) else find (cR h t) (dFrom h) 8 (t / 1440)
theorem find_congr {c c' : Nat → Bool} {v v' : Nat → Int} (n : Nat) : ∀ d, (∀ i, i < n → c (d + i) = c' (d + i) ∧ (c' (d + i) = true → v (d + i) = v' (d + i))) → find c v n d = find c' v' n d := by
  induction n with
  | zero => intro d _; rfl
  | succ n ih =>
    intro d hd
    obtain ⟨h1, h2⟩ := hd 0 (by omega)
    have h3 := ih (d + 1) (fun i hi => by have := hd (i + 1) (by omega); rw [show d + 1 + i = d + (i + 1) by omega]; exact this)
    simp only [Nat.add_zero] at h1 h2
    unfold find
    rw [h1, h3]
    by_cases hc : c' d = true
    · rw [if_pos hc, if_pos hc, h2 hc]
    · rw [if_neg hc, if_neg hc]
theorem find_more {c : Nat → Bool} {v : Nat → Int} (n m : Nat) : ∀ d, (∀ i, n ≤ i → i < n + m → c (d + i) = false) → find c v (n + m) d = find c v n d := by
  induction n with
  | zero =>
    induction m with
    | zero => intro d _; rfl
    | succ m ihm =>
      intro d hd
      have h0 := hd 0 (by omega) (by omega)
      simp only [Nat.add_zero] at h0
      rw [show 0 + (m + 1) = (0 + m) + 1 by omega]
      unfold find
      rw [if_neg (by simp [h0]), ihm (d + 1) (fun i _ hi => by have := hd (i + 1) (by omega) (by omega); rw [show d + 1 + i = d + (i + 1) by omega]; exact this)]
      rfl
  | succ n ih =>
    intro d hd
    rw [show n + 1 + m = (n + m) + 1 by omega]
    unfold find
    rw [ih (d + 1) (fun i h1 h2 => by have := hd (i + 1) (by omega) (by omega); rw [show d + 1 + i = d + (i + 1) by omega]; exact this)]
theorem nextO_ref (h : Nat → Int) (t : Nat) (hh : okHrs h = true) (ht : t < 5761440) : nextO h t = refO h t := by
  have hK : kC t = min 7 (4000 - t / 1440) + 1 := rfl
  unfold nextO refO
  by_cases ho : opB h t = true
  · rw [if_pos ho]
    simp only [opB, Bool.and_eq_true, decide_eq_true_eq] at ho
    rw [hK]
    unfold find
    rw [if_pos (by unfold cC; exact decide_eq_true (by omega))]
    unfold vC
    congr 1
    omega
  · rw [if_neg ho]
    have hno : ¬ (dFrom h (t / 1440) ≤ (t : Int) ∧ (t : Int) < dTo h (t / 1440)) := by
      intro hc; apply ho; simp [opB, hc.1, hc.2]
    obtain ⟨m, hm⟩ : ∃ m, 8 = kC t + m := ⟨8 - kC t, by omega⟩
    rw [hm, find_more (kC t) m (t / 1440) (fun i h1 h2 => ?_)]
    · refine find_congr _ _ fun i hi => ?_
      have hd := okDay_of hh (t / 1440 + i)
      have hF : dFrom h (t / 1440 + i) = ((t / 1440 + i : Nat) : Int) * 1440 + h ((t / 1440 + i) % 7 * 2) := rfl
      have hT : dTo h (t / 1440 + i) = ((t / 1440 + i : Nat) : Int) * 1440 + h ((t / 1440 + i) % 7 * 2 + 1) := rfl
      have hle : t / 1440 + i ≤ 4000 := by omega
      have hno' : i = 0 → ¬ (dFrom h (t / 1440 + i) ≤ (t : Int) ∧ (t : Int) < dTo h (t / 1440 + i)) := by
        intro h0; subst h0; exact hno
      unfold cC cR vC
      generalize h ((t / 1440 + i) % 7 * 2) = x at hd hF ⊢
      generalize h ((t / 1440 + i) % 7 * 2 + 1) = y at hd hT ⊢
      generalize dFrom h (t / 1440 + i) = F at hF hno' ⊢
      generalize dTo h (t / 1440 + i) = T at hT hno' ⊢
      have hiff : (max (t : Int) F < T) ↔ ((t : Int) < F ∧ F < 5761440 ∧ x < y) := by
        rcases Nat.eq_zero_or_pos i with h0 | h0
        · have := hno' h0; omega
        · omega
      constructor
      · rw [Bool.eq_iff_iff]
        simp only [decide_eq_true_eq, Bool.and_eq_true]
        omega
      · simp only [decide_eq_true_eq, Bool.and_eq_true]
        omega
    · have hd := okDay_of hh (t / 1440 + i)
      have hF : dFrom h (t / 1440 + i) = ((t / 1440 + i : Nat) : Int) * 1440 + h ((t / 1440 + i) % 7 * 2) := rfl
      have hge : 4001 ≤ t / 1440 + i := by omega
      unfold cR
      have : ¬ dFrom h (t / 1440 + i) < 5761440 := by omega
      simp [this]
end Go.Proofs.YtlnoafkepfgooaaDoor

/- Regions that draw their order and whose calls make memory: one walk in the order of the text, over the class of the worlds in which nothing old has turned. No program. -/
namespace Go.Proofs.YtlnoafkepfgooaaDoor
open Go.RowKit
section
variable {P : Program} {o : Oper} {a : Act} {C : World → Prop} {K : Act → Prop}
theorem quiet_value (v : Value) (hv : ∀ w, C w → (execOp a.eval o).run P w = .ok (.value v) w) (hK : K (a.put o.dst v)) : o.quiet P a C K :=
  ⟨v, fun w hw => by unfold Oper.quietAt; rw [hv w hw]; exact ⟨rfl, rfl⟩, hK⟩
theorem quiet_call (f : FuncId) (args : Array Value) (v : Value) (hrun : ∀ w, (execOp a.eval o).run P w = .ok (.enter f args) w) (hc : ∀ w, C w → Calls P f args w fun e w' => e = .returned v ∧ C w') (hK : K (a.put o.dst v)) : o.quiet P a C K :=
  ⟨v, fun w hw => by unfold Oper.quietAt; rw [hrun w]; exact ⟨rfl, hc w hw⟩, hK⟩
theorem quiet_load_row (ty : TypeId) (x : Operand) (ho : o.op = .load ty x) (g : Nat) (hx : a.eval x = .pointer (some ⟨g, 0, none⟩)) (t : TypeId) (cs : Array Value) (d : TypeDesc) (hg : ∀ w, C w → Bk w g t cs)
    (hu : P.underlying ty = some d) (hd : (match d with | .struct _ | .array _ _ => true | _ => false) = true) (hi : (P.info? ty).map (·.size) = some cs.size) (hK : K (a.put o.dst (.agg cs))) : o.quiet P a C K :=
  quiet_value _ (fun w hw => by
    unfold execOp
    simp only [ho, hx, Instr.loadAt, Instr.sureAddr, Sem.run_bind, Sem.run_pure, Result.andThen_ok, run_loadVar_row w g t ty cs (0, 0) d (hg w hw) hu hd hi]) hK
theorem G.callNone {A w : World} {f : FuncId} {args : Array Value} {v : Value} (hG : G A w none) (h : Calls P f args w fun e w' => e = .returned v ∧ G w w' none) : Calls P f args w fun e w' => e = .returned v ∧ G A w' none :=
  h.mono fun _ _ ⟨he, hg⟩ => ⟨he, hG.trans hg⟩
theorem wpQuiet_op {ops : Array Oper} {Q : Act → Prop} {rest : List Oper} (hg : o.guard = none) (h : ∀ K : Act → Prop, (∀ a, wpQuiet P ops C Q rest a → K a) → o.quiet P a C K) : wpQuiet P ops C Q (o :: rest) a :=
  wpQuiet_step fun K hK => by
    rw [if_pos (by simp [Region.wanted, hg])]
    exact h K hK
end
end Go.Proofs.YtlnoafkepfgooaaDoor

/- The walks of NextOpenOf, OpenIn, OpenMinutes. -/
namespace Go.Proofs.YtlnoafkepfgooaaDoor
open Go.RowKit

/-- What the reference's NextOpenOf returns. -/
def nofV (o : Option Int) : Value := match o with | some n => .tuple #[.int .i64 n, .bool true] | none => .tuple #[.int .i64 0, .bool false]
def NofRel (w : World) (r : ByteArray) (h : Nat → Int) (t d0 : Nat) (o : Option Int) (i : Value) (wr : World) : Prop :=
  ∃ k : Nat, k ≤ 8 ∧ i = .int .i64 ((d0 : Int) + (k : Int)) ∧ o = find (cR h t) (dFrom h) (8 - k) (d0 + k) ∧ G w wr none ∧ Bk wr w.heap.size 94 (stC r h)
/-! ### The minutes of a window -/
/-- How many moments it is open in the first so many days of a window. -/
def accD (h : Nat → Int) (a b : Int) (d0 : Nat) : Nat → Int
  | 0 => 0
  | k + 1 => accD h a b d0 k + ovl (dFrom h (d0 + k)) (dTo h (d0 + k)) a b
def nD (a b : Nat) : Nat := (b + 1439) / 1440 - a / 1440
def openIn (h : Nat → Int) (a b : Nat) : Int := accD h a b (a / 1440) (nD a b)
theorem accD_bd (h : Nat → Int) (a b : Nat) (d0 k : Nat) (hab : a ≤ b) : 0 ≤ accD h a b d0 k ∧ accD h a b d0 k ≤ (k : Int) * ((b : Int) - (a : Int)) := by
  induction k with
  | zero => simp [accD]
  | succ k ih =>
    have h1 : 0 ≤ ovl (dFrom h (d0 + k)) (dTo h (d0 + k)) a b ∧ ovl (dFrom h (d0 + k)) (dTo h (d0 + k)) a b ≤ (b : Int) - (a : Int) := by unfold ovl; omega
    unfold accD
    have h2 : ((k + 1 : Nat) : Int) * ((b : Int) - (a : Int)) = (k : Int) * ((b : Int) - (a : Int)) + ((b : Int) - (a : Int)) := by
      rw [Int.natCast_add, Int.add_mul]; simp
    omega
theorem accD_le (h : Nat → Int) (a b : Nat) (d0 k : Nat) (hab : a ≤ b) (hb : b ≤ 5761440) (hk : k ≤ 4010) : 0 ≤ accD h a b d0 k ∧ accD h a b d0 k ≤ 100000000000 := by
  have h1 := accD_bd h a b d0 k hab
  have h2 : (k : Int) * ((b : Int) - (a : Int)) ≤ 4010 * 5761440 := by
    have h3 : (k : Int) * ((b : Int) - (a : Int)) ≤ 4010 * ((b : Int) - (a : Int)) := Int.mul_le_mul_of_nonneg_right (by omega) (by omega)
    omega
  omega
theorem nD_lt {a b : Nat} (k : Nat) : k < nD a b ↔ (a / 1440 + k) * 1440 < b := by unfold nD; omega
theorem nD_le {a b : Nat} (hb : b ≤ 5761440) : nD a b ≤ 4001 := by unfold nD; omega
def MinRel (w : World) (r : ByteArray) (h : Nat → Int) (a b d0 : Nat) (v i : Value) (wr : World) : Prop :=
  ∃ k : Nat, k ≤ nD a b ∧ i = .int .i64 ((d0 : Int) + (k : Int)) ∧ v = .int .i64 (accD h a b d0 k) ∧ G w wr none ∧ Bk wr w.heap.size 94 (stC r h) ∧ Bk wr (w.heap.size + 1) 31 #[.int .i64 (a : Int), .int .i64 (b : Int)]
def minE (r : ByteArray) (h : Nat → Int) (a b : Int) : Int := if stErr [(r, h)] = 0 then winE a b else stErr [(r, h)]
def minR (r : ByteArray) (h : Nat → Int) (a b : Int) : Int := if minE r h a b = 0 then openIn h a.toNat b.toNat else 0
end Go.Proofs.YtlnoafkepfgooaaDoor

/- The law's own 'errs'. -/
namespace Go.Proofs.YtlnoafkepfgooaaDoor
open Go.RowKit

/-- The first error of some. -/
def errsOf : List Int → Int
  | [] => 0
  | e :: r => if e = 0 then errsOf r else e
def ErrsRel (es : List Int) (i : Value) : Prop := ∃ k : Nat, k ≤ es.length ∧ i = .int .i64 k ∧ errsOf es = errsOf (es.drop k)
set_option maxRecDepth 100000 in
set_option maxHeartbeats 1000000 in
theorem errs_c (es : List Int) (v : Value) (w : World) (hr : Rd w 1 v es.length (es.map (Value.int .i64))) (hn : es.length ≤ 1000) :
    Calls Tryd.prog 12 #[v] w fun e w' => e = .returned (.int .i64 (errsOf es)) ∧ w = w' := by
  obtain ⟨a, cap, rfl, hcap, hm, hlen, hnil, hcell⟩ := hr
  go_enter Tryd.func12, Tryd.ntmps12
  go_wp2_with fail
  go_loop [7] (ErrsRel es) (fun i => es.length - (intOf i).toNat)
  case atStart => exact ⟨0, by omega, rfl, rfl⟩
  case round =>
    obtain ⟨k, hk, rfl, heq⟩ := hrel
    have HE := Lib.hid heq
    clear heq
    by_cases hlt : k < es.length
    · obtain ⟨x, hx⟩ : ∃ x, es[k]? = some x := ⟨_, List.getElem?_eq_getElem hlt⟩
      have HD : Hid (errsOf es = if x = 0 then errsOf (es.drop (k + 1)) else x) := Lib.hid (by
        rw [HE.out, List.drop_eq_getElem_cons hlt, (List.getElem?_eq_some_iff.1 hx).2]; rfl)
      cases a with
      | none => have := (hnil rfl).1; omega
      | some ad =>
        obtain ⟨bb, bo, bs⟩ := ad
        obtain ⟨e1, e2, e3⟩ := hcell _ rfl
        dsimp only at e1 e2 e3
        subst e1
        have hc := e3 k (.int .i64 x) (by rw [List.getElem?_map, hx]; rfl)
        clear hcell e3 hnil hx
        by_cases h0 : x = 0
        · subst h0
          have HF : Hid (errsOf es = errsOf (es.drop (k + 1))) := Lib.hid (by rw [HD.out, if_pos rfl])
          go_wp2_with fail
          go_round
          case rel => exact ⟨k + 1, by omega, by go_num, HF.out⟩
          case measure => simp [intOf]; omega
        · have HF : Hid (errsOf es = x) := Lib.hid (by rw [HD.out, if_neg h0])
          have h1 : (x != 0) = true := by rw [bne_iff_ne]; exact h0
          clear h0
          go_wp2_with fail
          go_ret
          exact ⟨ret_int HF.out.symm, rfl⟩
    · obtain rfl : k = es.length := by omega
      have HF : Hid (errsOf es = 0) := Lib.hid (by rw [HE.out, List.drop_length]; rfl)
      go_wp2_with fail
      go_ret
      exact ⟨ret_int HF.out.symm, rfl⟩
theorem errs_at (r : ByteArray) (h : Nat → Int) (t : Int) : errsOf [stErr [(r, h)], momE t] = atE r h t := by
  unfold atE
  show (if stErr [(r, h)] = 0 then (if momE t = 0 then 0 else momE t) else stErr [(r, h)]) = _
  by_cases h1 : stErr [(r, h)] = 0
  · rw [if_pos h1, if_pos h1]
    split
    · omega
    · rfl
  · rw [if_neg h1, if_neg h1]
theorem errs_min (r : ByteArray) (h : Nat → Int) (x y : Int) : errsOf [stErr [(r, h)], winE x y] = minE r h x y := by
  unfold minE
  show (if stErr [(r, h)] = 0 then (if winE x y = 0 then 0 else winE x y) else stErr [(r, h)]) = _
  by_cases h1 : stErr [(r, h)] = 0
  · rw [if_pos h1, if_pos h1]
    split
    · omega
    · rfl
  · rw [if_neg h1, if_neg h1]
end Go.Proofs.YtlnoafkepfgooaaDoor

/- A map keyed by strings, told by a function from its keys to the values that stand at them, and by how many there are. No program. -/
namespace Go.Proofs.YtlnoafkepfgooaaDoor
open Go.RowKit Go.ChangeMaps Go.MapKept
open Go.Maps (Keyed IsMap Tidy has size)

/-- Each value reads as itself. -/
def RV (v : Value) : Option (DataW Value × List MemPlace) := some (.held v, [])
def kL (s : ByteArray) : Lit := .string s.data.toList
theorem kL_inj {s t : ByteArray} (h : s ≠ t) : kL s ≠ kL t := fun e => h (Go.WideShapes.bytes_inj (by unfold kL at e; injection e))
theorem kL_key (s : ByteArray) : WideAt.IsKeyLit (kL s) := trivial
abbrev Fn := ByteArray → Option Value
/-- What a map holds, as a datum. -/
def MapIs (D : DataW Value) (c : Nat) (f : Fn) : Prop := Tidy D ∧ size D = c ∧ ∀ s, has D (kL s) = (f s).isSome ∧ ∀ v, f s = some v → ∀ z, D.atKey (kL s) z = .held v
/-- Block 'b' is a map of 'c' keys that holds what 'f' says. -/
def OwnM (P : Program) (k : TypeId) (w : World) (b c : Nat) (f : Fn) : Prop := ∃ D n, w.ownsMap P k RV b n D ∧ n ≤ c ∧ MapIs D c f
def fput (f : Fn) (s : ByteArray) (v : Value) : Fn := fun t => if t = s then some v else f t
def fdel (f : Fn) (s : ByteArray) : Fn := fun t => if t = s then none else f t
def cput (c : Nat) (f : Fn) (s : ByteArray) : Nat := if (f s).isSome = true then c else c + 1
theorem MapIs.empty : MapIs (.map []) 0 (fun _ => none) := ⟨Maps.tidy_empty, rfl, fun _ => ⟨rfl, fun _ h => by cases h⟩⟩
theorem MapIs.put {D : DataW Value} {c : Nat} {f : Fn} (h : MapIs D c f) (s : ByteArray) (v : Value) : MapIs (D.put (kL s) (.held v)) (cput c f s) (fput f s v) := by
  obtain ⟨h1, h2, h3⟩ := h
  refine ⟨h1.put (kL_key s) _, ?_, fun t => ?_⟩
  · rw [Maps.size_put h1, (h3 s).1, h2]
    rfl
  · by_cases e : t = s
    · subst e
      simp only [fput, if_pos]
      exact ⟨by rw [Maps.has_put_same h1.isMap (kL_key t)]; rfl, fun u hu z => by cases hu; exact Maps.atKey_put_same h1.isMap (kL_key t) _ _⟩
    · simp only [fput, if_neg e]
      exact ⟨by rw [Maps.has_put_other (kL_inj e)]; exact (h3 t).1, fun u hu z => by rw [Maps.atKey_put_other (kL_inj e)]; exact (h3 t).2 u hu z⟩
theorem MapIs.del {D : DataW Value} {c : Nat} {f : Fn} (h : MapIs D c f) (s : ByteArray) : MapIs (D.del (kL s)) (if (f s).isSome = true then c - 1 else c) (fdel f s) := by
  obtain ⟨h1, h2, h3⟩ := h
  refine ⟨h1.del _, ?_, fun t => ?_⟩
  · have := Maps.size_del h1 (k := kL s)
    rw [(h3 s).1, h2] at this
    split at this <;> simp_all <;> omega
  · by_cases e : t = s
    · subst e
      simp only [fdel, if_pos]
      exact ⟨by rw [Maps.has_del_same]; rfl, fun u hu => by cases hu⟩
    · simp only [fdel, if_neg e]
      exact ⟨by rw [Maps.has_del_other (kL_inj e)]; exact (h3 t).1, fun u hu z => by rw [Maps.atKey_del_other (kL_inj e)]; exact (h3 t).2 u hu z⟩

section
variable {P : Program} {k : TypeId} {w : World} {b c : Nat} {f : Fn}
theorem OwnM.made (w : World) (P : Program) (k : TypeId) {b : Nat} (hb : w.heap.size = b) : OwnM P k (w.alloc (.map #[] 0)) b 0 (fun _ => none) := by
  subst hb
  exact ⟨_, 0, World.ownsMap_made w P k RV, Nat.le_refl _, MapIs.empty⟩
theorem OwnM.lt (h : OwnM P k w b c f) : b < w.heap.size := by obtain ⟨D, n, h, _⟩ := h; exact h.lt
theorem OwnM.grown {w' : World} {s : Option Nat} (h : OwnM P k w b c f) (hg : G w w' s) (hs : some b ≠ s) : OwnM P k w' b c f := by obtain ⟨D, n, h, r⟩ := h; exact ⟨D, n, h.kept hg hs, r⟩
theorem OwnM.quiet {w' : World} (h : OwnM P k w b c f) (hg : G w w' none) : OwnM P k w' b c f := h.grown hg (by simp)
theorem OwnM.alloc (h : OwnM P k w b c f) (o : Obj) : OwnM P k (w.alloc o) b c f := h.quiet ((G.refl _ _).alloc o)
theorem OwnM.drewN (h : OwnM P k w b c f) (n : Nat) : OwnM P k (w.drewN n) b c f := h.quiet ((G.refl _ _).drewN n)
theorem OwnM.setCell (h : OwnM P k w b c f) {p : Addr} (hp : b ≠ p.block) (u : Value) : OwnM P k (w.setCell p u) b c f := h.grown (grownBy_setCell_row w p u) (by simpa using hp)
theorem OwnM.setRow (h : OwnM P k w b c f) {g : Nat} (hp : b ≠ g) (cs : Array Value) : OwnM P k (w.setRow g cs) b c f := h.grown (grownBy_setRow w g cs) (by simpa using hp)
theorem OwnM.look {t e : TypeId} (h : OwnM P k w b c f) (hk : P.underlying k = some .string) (ht : P.underlying t = some (.map k e)) {z : Value} (hz : (zeroValue e).run P w = .ok z w) {s : ByteArray} (hs : s.size ≤ maxLen) :
    (Instr.lookup t (.map (some b)) (.string s) false).run P w = .ok ((f s).getD z) w := by
  obtain ⟨D, n, h, _, h1, h2, h3⟩ := h
  obtain ⟨v, ps, hrun, hv⟩ := h.lookup (Maps.string_keyed hk) ht hz (zd := .held z) (zp := []) rfl (Go.WideMaps.keyOf_string_mk hk hs)
  rw [hrun]
  have e : DataW.held v = D.atKey (kL s) (.held z) := by have := congrArg (fun o => o.map Prod.fst) hv; simpa [RV, kL] using this
  cases hf : f s with
  | none =>
    have hn := (h3 s).1
    rw [hf] at hn
    rw [Maps.atKey_of_not_has hn] at e
    injection e with e
    rw [e]; rfl
  | some u =>
    rw [(h3 s).2 u hf] at e
    injection e with e
    rw [e]; rfl
theorem OwnM.look_ok {t e : TypeId} (h : OwnM P k w b c f) (hk : P.underlying k = some .string) (ht : P.underlying t = some (.map k e)) {z : Value} (hz : (zeroValue e).run P w = .ok z w) {s : ByteArray} (hs : s.size ≤ maxLen) :
    (Instr.lookup t (.map (some b)) (.string s) true).run P w = .ok (.tuple #[(f s).getD z, .bool (f s).isSome]) w := by
  obtain ⟨D, n, h, _, h1, h2, h3⟩ := h
  obtain ⟨v, ps, hrun, hv⟩ := h.look_ok (Maps.string_keyed hk) ht hz (zd := .held z) (zp := []) rfl (Go.WideMaps.keyOf_string_mk hk hs)
  rw [hrun]
  have e : DataW.held v = D.atKey (kL s) (.held z) := by have := congrArg (fun o => o.map Prod.fst) hv; simpa [RV, kL] using this
  have hb : has D (kL s) = (f s).isSome := (h3 s).1
  rw [show Maps.has D (Lit.string s.data.toList) = (f s).isSome from hb]
  cases hf : f s with
  | none =>
    have hn := (h3 s).1
    rw [hf] at hn
    rw [Maps.atKey_of_not_has hn] at e
    injection e with e
    rw [e]; rfl
  | some u =>
    rw [(h3 s).2 u hf] at e
    injection e with e
    rw [e]; rfl
theorem OwnM.store {t e : TypeId} (h : OwnM P k w b c f) (hk : P.underlying k = some .string) (ht : P.underlying t = some (.map k e)) (hc : c < maxLen) {s : ByteArray} (hs : s.size ≤ maxLen) (v : Value) :
    ∃ w', (Instr.mapUpdate t (.map (some b)) (.string s) v).run P w = .ok () w' ∧ OwnM P k w' b (cput c f s) (fput f s v) ∧ w.grownBy w' (some b) := by
  obtain ⟨D, n, h, hn, hM⟩ := h
  obtain ⟨w', hrun, h1, h2⟩ := h.update (Maps.string_keyed hk) ht (Nat.lt_of_le_of_lt hn hc) (Go.WideMaps.keyOf_string_mk hk hs) (val := v) (d := .held v) (ps := []) rfl
  have hM' := hM.put s v
  refine ⟨w', hrun, ⟨_, size (D.put (kL s) (.held v)), ?_, Nat.le_of_eq hM'.2.1, hM'⟩, h2⟩
  obtain ⟨es, clock, hb, F, _, hD⟩ := h1
  have hD' : D.put (kL s) (.held v) = .map ((es.toList.map (Go.WideElems.rg P k RV)).foldr DataW.insert []) := hD
  refine ⟨es, clock, hb, F, ?_, hD⟩
  rw [hD']
  simp [size, length_sorted]
theorem OwnM.drop {t e : TypeId} (h : OwnM P k w b c f) (hk : P.underlying k = some .string) (ht : P.underlying t = some (.map k e)) {s : ByteArray} (hs : s.size ≤ maxLen) (ty : TypeId) :
    ∃ w', (Builtin.delete_ #[t, k] ty #[.map (some b), .string s]).run P w = .ok (.tuple #[]) w' ∧ OwnM P k w' b (if (f s).isSome = true then c - 1 else c) (fdel f s) ∧ w.grownBy w' (some b) := by
  obtain ⟨D, n, h, hn, hM⟩ := h
  obtain ⟨w', hrun, h1, h2⟩ := h.drop (Maps.string_keyed hk) ht (Go.WideMaps.keyOf_string_mk hk hs) ty
  have hM' := hM.del s
  refine ⟨w', hrun, ⟨_, size (D.del (kL s)), ?_, Nat.le_of_eq hM'.2.1, hM'⟩, h2.grown⟩
  obtain ⟨es, clock, hb, F, _, hD⟩ := h1
  have hD' : D.del (kL s) = .map ((es.toList.map (Go.WideElems.rg P k RV)).foldr DataW.insert []) := hD
  refine ⟨es, clock, hb, F, ?_, hD⟩
  rw [hD']
  simp [size, length_sorted]
end

/-! ### At the operation, for the walk -/
section
variable {P : Program} {w : World} {ops : Array Oper} {rest : List Oper} {o : Oper} {a : Act} {Q : Exit → Act → World → Prop}
theorem wpM_look (hg : o.guard = none) (m x : Operand) (t : TypeId) (hop : o.op = Op.lookup t m x false) (k e : TypeId) (hk : P.underlying k = some .string) (ht : P.underlying t = some (.map k e)) (z : Value) (hz : (zeroValue e).run P w = .ok z w)
    (b c : Nat) (f : Fn) (hm : a.eval m = .map (some b)) (hown : OwnM P k w b c f) (s : ByteArray) (hx : a.eval x = .string s) (hs : s.size ≤ maxLen) (hK : wpList P ops Q rest (a.put o.dst ((f s).getD z)) w) : wpList P ops Q (o :: rest) a w := by
  refine wpList_plain hg fun K' hK' => ?_
  unfold Oper.wp
  simp [execOp, hop, hm, hx, hown.look hk ht hz hs, Result.andThen]
  exact hK' _ _ hK
theorem wpM_look_ok (hg : o.guard = none) (m x : Operand) (t : TypeId) (hop : o.op = Op.lookup t m x true) (k e : TypeId) (hk : P.underlying k = some .string) (ht : P.underlying t = some (.map k e)) (z : Value) (hz : (zeroValue e).run P w = .ok z w)
    (b c : Nat) (f : Fn) (hm : a.eval m = .map (some b)) (hown : OwnM P k w b c f) (s : ByteArray) (hx : a.eval x = .string s) (hs : s.size ≤ maxLen) (hK : wpList P ops Q rest (a.put o.dst (.tuple #[(f s).getD z, .bool (f s).isSome])) w) : wpList P ops Q (o :: rest) a w := by
  refine wpList_plain hg fun K' hK' => ?_
  unfold Oper.wp
  simp [execOp, hop, hm, hx, hown.look_ok hk ht hz hs, Result.andThen]
  exact hK' _ _ hK
theorem wpM_store (hg : o.guard = none) (m x v : Operand) (t : TypeId) (hop : o.op = Op.mapUpdate t m x v) (k e : TypeId) (hk : P.underlying k = some .string) (ht : P.underlying t = some (.map k e))
    (b c : Nat) (f : Fn) (hm : a.eval m = .map (some b)) (hown : OwnM P k w b c f) (hc : c < maxLen) (s : ByteArray) (hx : a.eval x = .string s) (hs : s.size ≤ maxLen) (u : Value) (hv : a.eval v = u)
    (hK : ∀ w', OwnM P k w' b (cput c f s) (fput f s u) → w.grownBy w' (some b) → wpList P ops Q rest (a.put o.dst undef) w') : wpList P ops Q (o :: rest) a w := by
  refine wpList_plain hg fun K' hK' => ?_
  obtain ⟨w', hrun, r1, r2⟩ := hown.store hk ht hc hs u
  unfold Oper.wp
  simp [execOp, hop, hm, hx, hv, hrun, Result.andThen]
  exact hK' _ _ (hK w' r1 r2)
theorem wpM_delete (hg : o.guard = none) (m x : Operand) (t k : TypeId) (hop : o.op = Op.call { callee := Callee.builtin Builtin.delete, args := #[m, x], argTypes := #[t, k] }) (e : TypeId) (hk : P.underlying k = some .string) (ht : P.underlying t = some (.map k e))
    (b c : Nat) (f : Fn) (hm : a.eval m = .map (some b)) (hown : OwnM P k w b c f) (s : ByteArray) (hx : a.eval x = .string s) (hs : s.size ≤ maxLen)
    (hK : ∀ w', OwnM P k w' b (if (f s).isSome = true then c - 1 else c) (fdel f s) → w.grownBy w' (some b) → wpList P ops Q rest (a.put o.dst (.tuple #[])) w') : wpList P ops Q (o :: rest) a w := by
  refine wpList_plain hg fun K' hK' => ?_
  obtain ⟨w', hrun, r1, r2⟩ := hown.drop hk ht hs o.type
  unfold Oper.wp
  simp [execOp, hop, resolve, invoke, builtin, hm, hx, hrun, Result.andThen]
  exact hK' _ _ (hK w' r1 r2)
theorem wpM_len (hg : o.guard = none) (m : Operand) (t : TypeId) (hop : o.op = Op.call { callee := Callee.builtin Builtin.len, args := #[m], argTypes := #[t] }) (k e : TypeId) (ht : P.underlying t = some (.map k e))
    (b c : Nat) (f : Fn) (hm : a.eval m = .map (some b)) (hown : OwnM P k w b c f) (hK : wpList P ops Q rest (a.put o.dst (.int .i64 c)) w) : wpList P ops Q (o :: rest) a w := by
  obtain ⟨D, n, h, _, h1, h2, h3⟩ := hown
  refine wpList_len_own w hg m t hop k e ht RV b n D hm h ?_
  rw [h2]
  exact hK
end
end Go.Proofs.YtlnoafkepfgooaaDoor

/- Classes: checkClassKeys, upsOf, comesBack, CheckClasses. -/
namespace Go.Proofs.YtlnoafkepfgooaaDoor
open Go.RowKit

/-- A class: its key, the key of the one above. -/
abbrev Cla := ByteArray × ByteArray
def clC (p : Cla) : Array Value := #[.string p.1, .string p.2]
def clL (l : List Cla) : List Value := l.flatMap fun p => (clC p).toList
theorem clL_len (l : List Cla) : (clL l).length = l.length * 2 := by
  induction l with
  | nil => rfl
  | cons p l ih => rw [show clL (p :: l) = (clC p).toList ++ clL l from rfl, List.length_append, ih, List.length_cons, show (clC p).toList.length = 2 from rfl]; omega
theorem clL_at (l : List Cla) (k : Nat) (p : Cla) (hp : l[k]? = some p) : ∀ j v, (clC p).toList[j]? = some v → (clL l)[k * 2 + j]? = some v := by
  induction l generalizing k with
  | nil => simp at hp
  | cons q r ih =>
    intro j v hv
    have hl : (clC q).toList.length = 2 := rfl
    rw [show clL (q :: r) = (clC q).toList ++ clL r from rfl]
    cases k with
    | zero =>
      obtain rfl : q = p := by simpa using hp
      have hj : j < 2 := by rw [← hl]; exact (List.getElem?_eq_some_iff.1 hv).1
      rw [Nat.zero_mul, Nat.zero_add, List.getElem?_append_left (by rw [hl]; exact hj)]
      exact hv
    | succ k =>
      rw [List.getElem?_append_right (by rw [hl]; omega), hl, show (k + 1) * 2 + j - 2 = k * 2 + j by omega]
      exact ih k (by simpa using hp) j v hv
theorem cl_info (p : Cla) : (Tryd.prog.info? 82).map (·.size) = some (clC p).size := (by kernel_rfl : (Tryd.prog.info? 82).map (·.size) = some 2)
def Small (s : ByteArray) : Prop := s.size ≤ 9223372036854775807
def ClsOk (l : List Cla) : Prop := ∀ p ∈ l, Small p.1 ∧ Small p.2
/-- Not the empty string, and no key. -/
def badUp (u : ByteArray) : Bool := !u.toList.isEmpty && !keyB u
def ckErr (before : ByteArray) : List Cla → Int
  | [] => 0
  | p :: r => if keyB p.1 = false then 5 else if leB p.1 before = true then 7 else if badUp p.2 = true then 5 else ckErr p.1 r
def CkRel (w : World) (l : List Cla) (v i : Value) (wr : World) : Prop :=
  ∃ (k : Nat) (b : ByteArray), k ≤ l.length ∧ i = .int .i64 k ∧ v = .string b ∧ ckErr ⟨#[]⟩ l = ckErr b (l.drop k) ∧ G w wr none
set_option maxRecDepth 100000 in
set_option maxHeartbeats 2000000 in
theorem checkClassKeys_c (v : Value) (l : List Cla) (w : World) (hr : Rd w 2 v l.length (clL l)) (hl : ClsOk l) (hn : l.length ≤ 1000) :
    Calls Tryd.prog 54 #[v] w fun e w' => e = .returned (.int .i64 (ckErr ⟨#[]⟩ l)) ∧ G w w' none := by
  obtain ⟨a, cap, rfl, hcap, hm, hlen, hnil, hcell⟩ := hr
  go_enter Tryd.func54, Tryd.ntmps54
  go_wp2_with fail
  go_loopw [3, 8] (CkRel w l) (fun _ i _ => l.length - (intOf i).toNat)
  case atStart => exact ⟨0, ⟨#[]⟩, by omega, rfl, rfl, rfl, G.refl _ _⟩
  case round =>
    obtain ⟨k, b, hkl, rfl, rfl, heq, hG⟩ := hrel
    have HE := Lib.hid heq
    clear heq
    by_cases hk : k < l.length
    · obtain ⟨p, hp⟩ : ∃ p, l[k]? = some p := ⟨_, List.getElem?_eq_getElem hk⟩
      have hdrop : l.drop k = p :: l.drop (k + 1) := by rw [List.drop_eq_getElem_cons hk, ← (List.getElem?_eq_some_iff.1 hp).2]
      have hpl := hl p (List.mem_of_getElem? hp)
      cases a with
      | none => have := (hnil rfl).1; omega
      | some ad =>
        obtain ⟨bb, bo, bs⟩ := ad
        obtain ⟨e1, e2, e3⟩ := hcell _ rfl
        dsimp only at e1 e2 e3
        subst e1
        have hrow : ∀ j v, (clC p).toList[j]? = some v → wr.cell? ((⟨bb, bo + k * 2, none⟩ : Addr).add j) = some v := by
          intro j v hv
          rw [add_at]
          have h1 := e3 (k * 2 + j) v (clL_at l k p hp j v hv)
          rw [← Nat.add_assoc] at h1
          exact ((gcell hG).1 bb _ e2).trans h1
        have HR := Lib.hid hrow
        clear hrow hcell e3 hnil
        have hs1 := hpl.1
        have hs2 := hpl.2
        unfold Small at hs1 hs2
        have HS : Hid (ckErr b (l.drop k) = if keyB p.1 = false then 5 else if leB p.1 b = true then 7 else if badUp p.2 = true then 5 else ckErr p.1 (l.drop (k + 1))) := Lib.hid (by rw [hdrop]; rfl)
        clear hdrop
        go_wp2_with (refine wpList_load_at rfl 82 _ rfl ⟨bb, bo + k * 2, none⟩ rfl #[.string p.1, .string p.2] _ HR.out Tryd.underlying82 rfl (cl_info p) ?_)
        refine (isKey_c _ _ hs1).mono ?_; rintro e w' ⟨rfl, rfl⟩
        cases hkb : keyB p.1 with
        | false =>
          have HF : Hid (ckErr ⟨#[]⟩ l = 5) := Lib.hid (by rw [HE.out, HS.out, if_pos hkb])
          clear hkb
          go_wp2_with fail
          go_ret
          exact ⟨by rw [HF.out]; rfl, hG.alloc _⟩
        | true =>
          cases hle : leB p.1 b with
          | true =>
            have HF : Hid (ckErr ⟨#[]⟩ l = 7) := Lib.hid (by rw [HE.out, HS.out, if_neg (by simp [hkb]), if_pos hle])
            unfold leB at hle
            clear hkb
            go_wp2_with fail
            go_ret
            exact ⟨by rw [HF.out]; rfl, hG.alloc _⟩
          | false =>
            have HL := Lib.hid hle
            have HK := Lib.hid hkb
            unfold leB at hle
            clear hkb
            have hbu : badUp p.2 = (!p.2.toList.isEmpty && !keyB p.2) := rfl
            cases hem : p.2.toList.isEmpty with
            | true =>
              have HF : Hid (ckErr ⟨#[]⟩ l = ckErr p.1 (l.drop (k + 1))) := Lib.hid (by rw [HE.out, HS.out, if_neg (by simp [HK.out]), if_neg (by simp [HL.out]), if_neg (by simp [hbu, hem])])
              clear hbu
              go_wp2_with fail
              go_roundw
              case rel => exact ⟨k + 1, p.1, by omega, by go_num, rfl, HF.out, hG.alloc _⟩
              case measure => simp [intOf]; omega
            | false =>
              cases hk2 : keyB p.2 with
              | false =>
                have HF : Hid (ckErr ⟨#[]⟩ l = 5) := Lib.hid (by rw [HE.out, HS.out, if_neg (by simp [HK.out]), if_neg (by simp [HL.out]), if_pos (by simp [hbu, hem, hk2])])
                have HK2 := Lib.hid hk2
                clear hbu hk2
                go_wp2_with fail
                refine (isKey_c _ _ hs2).mono ?_; rintro e w' ⟨rfl, rfl⟩
                rw [HK2.out]
                go_wp2_with fail
                go_ret
                exact ⟨by rw [HF.out]; rfl, hG.alloc _⟩
              | true =>
                have HF : Hid (ckErr ⟨#[]⟩ l = ckErr p.1 (l.drop (k + 1))) := Lib.hid (by rw [HE.out, HS.out, if_neg (by simp [HK.out]), if_neg (by simp [HL.out]), if_neg (by simp [hbu, hk2])])
                have HK2 := Lib.hid hk2
                clear hbu hk2
                go_wp2_with fail
                refine (isKey_c _ _ hs2).mono ?_; rintro e w' ⟨rfl, rfl⟩
                rw [HK2.out]
                go_wp2_with fail
                go_roundw
                case rel => exact ⟨k + 1, p.1, by omega, by go_num, rfl, HF.out, hG.alloc _⟩
                case measure => simp [intOf]; omega
    · obtain rfl : k = l.length := by omega
      have HE2 : Hid (ckErr ⟨#[]⟩ l = 0) := Lib.hid (by rw [HE.out, List.drop_length]; rfl)
      go_wp2_with fail
      go_ret
      exact ⟨by rw [HE2.out]; rfl, hG⟩
end Go.Proofs.YtlnoafkepfgooaaDoor

/- Classes: upsOf, comesBack, CheckClasses. -/
namespace Go.Proofs.YtlnoafkepfgooaaDoor
open Go.RowKit

/-- What a list of classes says of the class above. -/
def upS : List Cla → ByteArray → Option ByteArray
  | [], _ => none
  | p :: r, s => match upS r s with | some u => some u | none => if s = p.1 then some p.2 else none
def sv (o : ByteArray → Option ByteArray) : Fn := fun s => (o s).map Value.string
def eF : Fn := fun _ => none
def upF (f : Fn) : List Cla → Fn
  | [] => f
  | p :: r => upF (fput f p.1 (.string p.2)) r
def upC (c : Nat) (f : Fn) : List Cla → Nat
  | [] => c
  | p :: r => upC (cput c f p.1) (fput f p.1 (.string p.2)) r
theorem upS_cons (p : Cla) (r : List Cla) (s : ByteArray) : upS (p :: r) s = match upS r s with | some u => some u | none => if s = p.1 then some p.2 else none := rfl
theorem upF_eq (f : Fn) (l : List Cla) (s : ByteArray) : upF f l s = match upS l s with | some u => some (.string u) | none => f s := by
  induction l generalizing f with
  | nil => rfl
  | cons p r ih =>
    show upF (fput f p.1 (.string p.2)) r s = _
    rw [ih, upS_cons]
    cases h : upS r s with
    | some u => rfl
    | none =>
      simp only [fput]
      by_cases e : s = p.1
      · simp [e]
      · simp [e]
theorem upF_sv (l : List Cla) : upF eF l = sv (upS l) := by
  funext s
  rw [upF_eq]
  unfold sv eF
  cases upS l s <;> rfl
theorem upC_le (c : Nat) (f : Fn) (l : List Cla) : upC c f l ≤ c + l.length := by
  induction l generalizing c f with
  | nil => simp [upC]
  | cons p r ih =>
    have h1 := ih (cput c f p.1) (fput f p.1 (.string p.2))
    have h2 : cput c f p.1 ≤ c + 1 := by unfold cput; split <;> omega
    show upC (cput c f p.1) (fput f p.1 (.string p.2)) r ≤ _
    simp only [List.length_cons]
    omega
theorem upF_snoc (f : Fn) (l : List Cla) (p : Cla) : upF f (l ++ [p]) = fput (upF f l) p.1 (.string p.2) := by
  induction l generalizing f with
  | nil => rfl
  | cons q r ih => exact ih _
theorem upC_snoc (c : Nat) (f : Fn) (l : List Cla) (p : Cla) : upC c f (l ++ [p]) = cput (upC c f l) (upF f l) p.1 := by
  induction l generalizing c f with
  | nil => rfl
  | cons q r ih => exact ih _ _
abbrev MapOf (w : World) (b c : Nat) (f : Fn) : Prop := OwnM Tryd.prog 9 w b c f
theorem zs_run (w : World) : (zeroValue 9).run Tryd.prog w = .ok (.string ⟨#[]⟩) w := by kernel_rfl
def UpsPost (l : List Cla) (w : World) (e : Ending) (w' : World) : Prop := ∃ b : Nat, e = .returned (.map (some b)) ∧ w.heap.size ≤ b ∧ MapOf w' b (upC 0 eF l) (upF eF l) ∧ G w w' none
def UpsRel (w : World) (l : List Cla) (g : Nat) (i : Value) (wr : World) : Prop :=
  ∃ k : Nat, k ≤ l.length ∧ i = .int .i64 k ∧ MapOf wr g (upC 0 eF (l.take k)) (upF eF (l.take k)) ∧ G w wr none
theorem take_snoc' {α : Type} (l : List α) (k : Nat) (p : α) (h : l[k]? = some p) : l.take (k + 1) = l.take k ++ [p] := by
  have hk := (List.getElem?_eq_some_iff.1 h).1
  rw [List.take_succ_eq_append_getElem hk, (List.getElem?_eq_some_iff.1 h).2]
set_option maxRecDepth 100000 in
set_option maxHeartbeats 2000000 in
theorem upsOf_c (v : Value) (l : List Cla) (w : World) (hr : Rd w 2 v l.length (clL l)) (hl : ClsOk l) (hn : l.length ≤ 1000) :
    Calls Tryd.prog 48 #[v] w (UpsPost l w) := by
  obtain ⟨a, cap, rfl, hcap, hm, hlen, hnil, hcell⟩ := hr
  have hmm : ∀ (n : Nat) (w : World), (Instr.makeMap 83 (some (.int .i64 (n : Int)))).run Tryd.prog w = .ok (.map (some w.heap.size)) (w.alloc (.map #[] 0)) := fun _ _ => rfl
  go_enter Tryd.func48, Tryd.ntmps48
  go_wp2_with fail
  go_loopw [11] (UpsRel w l w.heap.size) (fun i _ => l.length - (intOf i).toNat)
  case atStart => exact ⟨0, by omega, rfl, OwnM.made _ _ _ rfl, (G.refl _ _).alloc _⟩
  case round =>
    obtain ⟨k, hkl, rfl, hM, hG⟩ := hrel
    by_cases hk : k < l.length
    · obtain ⟨p, hp⟩ : ∃ p, l[k]? = some p := ⟨_, List.getElem?_eq_getElem hk⟩
      have hpl := hl p (List.mem_of_getElem? hp)
      cases a with
      | none => have := (hnil rfl).1; omega
      | some ad =>
        obtain ⟨bb, bo, bs⟩ := ad
        obtain ⟨e1, e2, e3⟩ := hcell _ rfl
        dsimp only at e1 e2 e3
        subst e1
        have hrow : ∀ j v, (clC p).toList[j]? = some v → wr.cell? ((⟨bb, bo + k * 2, none⟩ : Addr).add j) = some v := by
          intro j v hv
          rw [add_at]
          have h1 := e3 (k * 2 + j) v (clL_at l k p hp j v hv)
          rw [← Nat.add_assoc] at h1
          exact ((gcell hG).1 bb _ e2).trans h1
        have HR := Lib.hid hrow
        clear hrow hcell e3 hnil
        have hs1 := hpl.1
        unfold Small at hs1
        have hcc := upC_le 0 eF (l.take k)
        have hct : (l.take k).length ≤ k := List.length_take_le _ _
        have HT : Hid (cput (upC 0 eF (l.take k)) (upF eF (l.take k)) p.1 = upC 0 eF (l.take (k + 1)) ∧ fput (upF eF (l.take k)) p.1 (.string p.2) = upF eF (l.take (k + 1))) := Lib.hid (by rw [take_snoc' l k p hp, upC_snoc, upF_snoc]; exact ⟨rfl, rfl⟩)
        have hclt : upC 0 eF (l.take k) < maxLen := by unfold maxLen; omega
        have hgl := hM.lt
        clear hp hcc hct
        go_wp2_with (first | (refine wpList_load_at rfl 82 _ rfl ⟨bb, bo + k * 2, none⟩ rfl #[.string p.1, .string p.2] _ HR.out Tryd.underlying82 rfl (cl_info p) ?_) | (at_mapUpdate; refine wpM_store rfl _ _ _ 83 rfl 9 9 Tryd.underlying9 Tryd.underlying83 w.heap.size _ _ rfl (hM.alloc _) hclt p.1 rfl hs1 (.string p.2) rfl ?_; intro w1 hM1 hG1))
        rw [HT.out.1, HT.out.2] at hM1
        refine ⟨⟨k + 1, by omega, by go_num, hM1, ?_⟩, by simp only [intOf]; omega⟩
        exact (hG.alloc _).other hG1 (fun j e => .inl (by obtain rfl := Option.some.inj e; exact Nat.le_refl _))
    · obtain rfl : k = l.length := by omega
      rw [List.take_length] at hM
      go_wp2_with fail
      go_ret
      exact ⟨_, rfl, Nat.le_refl _, hM, hG⟩
end Go.Proofs.YtlnoafkepfgooaaDoor

/- Classes: comesBack, CheckClasses. -/
namespace Go.Proofs.YtlnoafkepfgooaaDoor
open Go.RowKit

def eS : ByteArray := ⟨#[]⟩
abbrev Up := ByteArray → Option ByteArray
def UpOk (u : Up) : Prop := ∀ s t, u s = some t → Small t
theorem sv_getD (u : Up) (s : ByteArray) : (sv u s).getD (.string ⟨#[]⟩) = .string ((u s).getD eS) := by unfold sv eS; cases u s <;> rfl
theorem sv_isSome (u : Up) (s : ByteArray) : (sv u s).isSome = (u s).isSome := by unfold sv; cases u s <;> rfl
theorem Small.eS : Small eS := by show (0 : Nat) ≤ _; omega
theorem UpOk.get {u : Up} (h : UpOk u) (s : ByteArray) : Small ((u s).getD eS) := by
  cases hu : u s with
  | none => exact Small.eS
  | some t => exact h s t hu
theorem upS_ok {l : List Cla} (h : ClsOk l) : UpOk (upS l) := by
  induction l with
  | nil => intro s t e; cases e
  | cons p r ih =>
    intro s t e
    rw [upS_cons] at e
    cases hr : upS r s with
    | some v => rw [hr] at e; cases e; exact ih (fun q hq => h q (List.mem_cons_of_mem _ hq)) s _ hr
    | none =>
      rw [hr] at e
      dsimp only at e
      split at e
      · cases e; exact (h p (by simp)).2
      · cases e
section
variable {w : World} {ops : Array Oper} {rest : List Oper} {o : Oper} {a : Act} {Q : Exit → Act → World → Prop}
theorem wpS_look (hg : o.guard = none) (m x : Operand) (hop : o.op = Op.lookup 83 m x false) (b c : Nat) (u : Up) (hm : a.eval m = .map (some b)) (hown : MapOf w b c (sv u)) (s : ByteArray) (hx : a.eval x = .string s) (hs : Small s)
    (hK : wpList Tryd.prog ops Q rest (a.put o.dst (.string ((u s).getD eS))) w) : wpList Tryd.prog ops Q (o :: rest) a w :=
  wpM_look hg m x 83 hop 9 9 Tryd.underlying9 Tryd.underlying83 _ (zs_run w) b c _ hm hown s hx hs (by rw [sv_getD]; exact hK)
theorem wpS_look_ok (hg : o.guard = none) (m x : Operand) (hop : o.op = Op.lookup 83 m x true) (b c : Nat) (u : Up) (hm : a.eval m = .map (some b)) (hown : MapOf w b c (sv u)) (s : ByteArray) (hx : a.eval x = .string s) (hs : Small s)
    (hK : wpList Tryd.prog ops Q rest (a.put o.dst (.tuple #[.string ((u s).getD eS), .bool (u s).isSome])) w) : wpList Tryd.prog ops Q (o :: rest) a w :=
  wpM_look_ok hg m x 83 hop 9 9 Tryd.underlying9 Tryd.underlying83 _ (zs_run w) b c _ hm hown s hx hs (by rw [sv_getD, sv_isSome]; exact hK)
theorem wpS_len (hg : o.guard = none) (m : Operand) (hop : o.op = Op.call { callee := Callee.builtin Builtin.len, args := #[m], argTypes := #[83] }) (b c : Nat) (u : Up) (hm : a.eval m = .map (some b)) (hown : MapOf w b c (sv u))
    (hK : wpList Tryd.prog ops Q rest (a.put o.dst (.int .i64 c)) w) : wpList Tryd.prog ops Q (o :: rest) a w :=
  wpM_len hg m 83 hop 9 9 Tryd.underlying83 b c _ hm hown hK
end
def eqB (a b : ByteArray) : Bool := a.toList == b.toList
theorem eqB_iff {a b : ByteArray} : eqB a b = true ↔ a = b := by
  unfold eqB
  rw [beq_iff_eq]
  constructor
  · intro h
    apply Go.WideShapes.bytes_inj
    rw [ByteArray.toList_eq, ByteArray.toList_eq] at h
    exact h
  · intro h; rw [h]
/-- So many steps up come to the key. -/
def cbk (u : Up) (key : ByteArray) : Nat → ByteArray → Bool
  | 0, _ => false
  | n + 1, up => if eqB up key = true then true else cbk u key n ((u up).getD eS)
def cbB (u : Up) (c : Nat) (key : ByteArray) : Bool := cbk u key c ((u key).getD eS)
def CbRel (u : Up) (c : Nat) (key : ByteArray) (v i : Value) : Prop :=
  ∃ (k : Nat) (up : ByteArray), k ≤ c ∧ i = .int .i64 k ∧ v = .string up ∧ Small up ∧ cbB u c key = cbk u key (c - k) up
set_option maxRecDepth 100000 in
set_option maxHeartbeats 2000000 in
theorem comesBack_c (b c : Nat) (u : Up) (key : ByteArray) (w : World) (hM : MapOf w b c (sv u)) (hu : UpOk u) (hk : Small key) (hc : c ≤ 1000) :
    Calls Tryd.prog 55 #[.map (some b), .string key] w fun e w' => e = .returned (.bool (cbB u c key)) ∧ w = w' := by
  have hg0 := hu.get key
  go_enter Tryd.func55, Tryd.ntmps55
  go_wp2_with (first | (at_lookup; refine wpS_look rfl _ _ rfl b c u rfl hM key rfl hk ?_) | (at_len; refine wpS_len rfl _ rfl b c u rfl hM ?_))
  go_loop [5, 11] (CbRel u c key) (fun _ i => c - (intOf i).toNat)
  case atStart => exact ⟨0, _, by omega, rfl, rfl, hg0, rfl⟩
  case round =>
    clear hg0
    obtain ⟨k, up, hkc, rfl, rfl, hup, heq⟩ := hrel
    have HE := Lib.hid heq
    clear heq
    by_cases hlt : k < c
    · have HF : Hid (cbB u c key = if eqB up key = true then true else cbk u key (c - (k + 1)) ((u up).getD eS)) := Lib.hid (by rw [HE.out, show c - k = (c - (k + 1)) + 1 by omega]; rfl)
      cases he : eqB up key with
      | true =>
        have HN : Hid (cbB u c key = true) := Lib.hid (by rw [HF.out, if_pos he])
        unfold eqB at he
        go_wp2_with fail
        go_ret
        exact ⟨ret_bool HN.out.symm, rfl⟩
      | false =>
        have HN : Hid (cbB u c key = cbk u key (c - (k + 1)) ((u up).getD eS)) := Lib.hid (by rw [HF.out, if_neg (by simp [he])])
        unfold eqB at he
        have hg1 := hu.get up
        go_wp2_with (at_lookup; refine wpS_look rfl _ _ rfl b c u rfl hM up rfl hup ?_)
        go_round
        case rel => exact ⟨k + 1, _, by omega, by go_num, rfl, hg1, HN.out⟩
        case measure => simp [intOf]; omega
    · obtain rfl : k = c := by omega
      have HN : Hid (cbB u k key = false) := Lib.hid (by rw [HE.out, Nat.sub_self]; rfl)
      go_wp2_with fail
      go_ret
      exact ⟨ret_bool HN.out.symm, rfl⟩

/-! ### CheckClasses -/
def badKnown (u : Up) (p : Cla) : Bool := !p.2.toList.isEmpty && !(u p.2).isSome
def clTail (u : Up) (c : Nat) (l : List Cla) : Int := if l.any (badKnown u) = true then 8 else if l.any (fun p => cbB u c p.1) = true then 14 else 0
def clErr (l : List Cla) : Int :=
  if 30 < l.length then 2 else if ckErr ⟨#[]⟩ l = 0 then clTail (upS l) (upC 0 eF l) l else ckErr ⟨#[]⟩ l
def C1Rel (w : World) (l : List Cla) (u : Up) (c g : Nat) (i : Value) (wr : World) : Prop :=
  ∃ k : Nat, k ≤ l.length ∧ i = .int .i64 k ∧ (l.take k).any (badKnown u) = false ∧ MapOf wr g c (sv u) ∧ G w wr none
def C2Rel (w : World) (l : List Cla) (u : Up) (c g : Nat) (i : Value) (wr : World) : Prop :=
  ∃ k : Nat, k ≤ l.length ∧ i = .int .i64 k ∧ (l.take k).any (fun p => cbB u c p.1) = false ∧ MapOf wr g c (sv u) ∧ G w wr none
theorem any_of_at {α : Type} (q : α → Bool) (l : List α) (k : Nat) (p : α) (hp : l[k]? = some p) (hq : q p = true) : l.any q = true := List.any_eq_true.2 ⟨p, List.mem_of_getElem? hp, hq⟩
set_option maxRecDepth 100000 in
set_option maxHeartbeats 4000000 in
theorem checkClasses_c (v : Value) (l : List Cla) (w : World) (hr : Rd w 2 v l.length (clL l)) (hl : ClsOk l) (hn : l.length ≤ 1000) :
    Calls Tryd.prog 26 #[v] w fun e w' => e = .returned (.int .i64 (clErr l)) ∧ G w w' none := by
  by_cases h30 : 30 < l.length
  · have H := Lib.hid (show clErr l = 2 by simp [clErr, h30])
    obtain ⟨a, cap, rfl, hcap, hm, hlen, hnil, hcell⟩ := hr
    go_enter Tryd.func26, Tryd.ntmps26
    go_wp2_with fail
    go_ret
    exact ⟨by rw [H.out]; rfl, G.refl _ _⟩
  · by_cases hck : ckErr ⟨#[]⟩ l = 0
    · have H := Lib.hid (show clErr l = clTail (upS l) (upC 0 eF l) l by simp [clErr, h30, hck])
      have HCK := Lib.hid hck
      clear hck
      have HR := Lib.hid hr
      obtain ⟨a, cap, rfl, hcap, hm, hlen, hnil, hcell⟩ := hr
      have hcc := upC_le 0 eF l
      have HU := Lib.hid (upS_ok hl)
      go_enter Tryd.func26, Tryd.ntmps26
      go_wp2_with fail
      refine (checkClassKeys_c _ l _ HR.out hl hn).mono ?_; rintro e w1 ⟨rfl, hG1⟩
      rw [HCK.out]
      go_wp2_with fail
      refine (upsOf_c _ l _ (HR.out.quiet hG1) hl hn).mono ?_; rintro e w2 ⟨b, rfl, hb, hM, hG2⟩
      rw [upF_sv] at hM
      have hG := hG1.trans hG2
      clear hG1 hG2 hb
      generalize upS l = u at hM HU H
      generalize upC 0 eF l = c at hM hcc H
      go_wp2_with fail
      go_loopw [23] (C1Rel w l u c b) (fun i _ => l.length - (intOf i).toNat)
      case atStart => exact ⟨0, by omega, rfl, rfl, hM, hG⟩
      case round =>
        clear hM hG
        obtain ⟨k, hkl, rfl, hany, hM, hG⟩ := hrel
        have HA := Lib.hid hany
        clear hany
        by_cases hk : k < l.length
        · obtain ⟨p, hp⟩ : ∃ p, l[k]? = some p := ⟨_, List.getElem?_eq_getElem hk⟩
          have hpl := hl p (List.mem_of_getElem? hp)
          cases a with
          | none => have := (hnil rfl).1; omega
          | some ad =>
            obtain ⟨bb, bo, bs⟩ := ad
            obtain ⟨e1, e2, e3⟩ := hcell _ rfl
            dsimp only at e1 e2 e3
            subst e1
            have hrow : ∀ j v, (clC p).toList[j]? = some v → wr.cell? ((⟨bb, bo + k * 2, none⟩ : Addr).add j) = some v := by
              intro j v hv
              rw [add_at]
              have h1 := e3 (k * 2 + j) v (clL_at l k p hp j v hv)
              rw [← Nat.add_assoc] at h1
              exact ((gcell hG).1 bb _ e2).trans h1
            have HW := Lib.hid hrow
            clear hrow hcell e3 hnil
            have hs2 := hpl.2
            have HP := Lib.hid hp
            clear hp
            have hbk : badKnown u p = (!p.2.toList.isEmpty && !(u p.2).isSome) := rfl
            have HB := Lib.hid hbk
            clear hbk
            have hM' := hM.alloc (.cells #[.string p.1, .string p.2] 82)
            cases hem : p.2.toList.isEmpty with
            | true =>
              have HN : Hid ((l.take (k + 1)).any (badKnown u) = false) := Lib.hid (by rw [take_snoc' l k p HP.out, List.any_append, HA.out, List.any_cons, HB.out, hem]; rfl)
              go_wp2_with (first | (refine wpList_load_at rfl 82 _ rfl ⟨bb, bo + k * 2, none⟩ rfl #[.string p.1, .string p.2] _ HW.out Tryd.underlying82 rfl (cl_info p) ?_) | (at_lookup; refine wpS_look_ok rfl _ _ rfl b c u rfl hM' p.2 rfl hs2 ?_))
              go_roundw
              case rel => exact ⟨k + 1, by omega, by go_num, HN.out, hM', hG.alloc _⟩
              case measure => simp [intOf]; omega
            | false =>
              cases hso : (u p.2).isSome with
              | true =>
                have HN : Hid ((l.take (k + 1)).any (badKnown u) = false) := Lib.hid (by rw [take_snoc' l k p HP.out, List.any_append, HA.out, List.any_cons, HB.out, hso, hem]; rfl)
                go_wp2_with (first | (refine wpList_load_at rfl 82 _ rfl ⟨bb, bo + k * 2, none⟩ rfl #[.string p.1, .string p.2] _ HW.out Tryd.underlying82 rfl (cl_info p) ?_) | (at_lookup; refine wpS_look_ok rfl _ _ rfl b c u rfl hM' p.2 rfl hs2 ?_))
                go_roundw
                case rel => exact ⟨k + 1, by omega, by go_num, HN.out, hM', hG.alloc _⟩
                case measure => simp [intOf]; omega
              | false =>
                have HN : Hid (clErr l = 8) := Lib.hid (by rw [H.out, clTail, if_pos (any_of_at _ l k p HP.out (by rw [HB.out, hso, hem]; rfl))])
                go_wp2_with (first | (refine wpList_load_at rfl 82 _ rfl ⟨bb, bo + k * 2, none⟩ rfl #[.string p.1, .string p.2] _ HW.out Tryd.underlying82 rfl (cl_info p) ?_) | (at_lookup; refine wpS_look_ok rfl _ _ rfl b c u rfl hM' p.2 rfl hs2 ?_))
                go_ret
                exact ⟨ret_int HN.out.symm, hG.alloc _⟩
        · obtain rfl : k = l.length := by omega
          rw [List.take_length] at HA
          have HH : Hid (clErr l = if l.any (fun p => cbB u c p.1) = true then 14 else 0) := Lib.hid (by rw [H.out, clTail, if_neg (by simp [HA.out])])
          clear hk hkl
          go_wp2_with fail
          go_loopw [44] (C2Rel w l u c b) (fun i _ => l.length - (intOf i).toNat)
          case atStart => exact ⟨0, by omega, rfl, rfl, hM, hG⟩
          case round =>
            clear hM hG HA
            obtain ⟨k, hkl, rfl, hany, hM, hG⟩ := hrel
            have HA := Lib.hid hany
            clear hany
            by_cases hk : k < l.length
            · obtain ⟨p, hp⟩ : ∃ p, l[k]? = some p := ⟨_, List.getElem?_eq_getElem hk⟩
              have hpl := hl p (List.mem_of_getElem? hp)
              cases a with
              | none => have := (hnil rfl).1; omega
              | some ad =>
                obtain ⟨bb, bo, bs⟩ := ad
                obtain ⟨e1, e2, e3⟩ := hcell _ rfl
                dsimp only at e1 e2 e3
                subst e1
                have hrow : ∀ j v, (clC p).toList[j]? = some v → wr.cell? ((⟨bb, bo + k * 2, none⟩ : Addr).add j) = some v := by
                  intro j v hv
                  rw [add_at]
                  have h1 := e3 (k * 2 + j) v (clL_at l k p hp j v hv)
                  rw [← Nat.add_assoc] at h1
                  exact ((gcell hG).1 bb _ e2).trans h1
                have HW := Lib.hid hrow
                clear hrow hcell e3 hnil
                have hs1 := hpl.1
                have HP := Lib.hid hp
                clear hp
                have hM' := hM.alloc (.cells #[.string p.1, .string p.2] 82)
                go_wp2_with (refine wpList_load_at rfl 82 _ rfl ⟨bb, bo + k * 2, none⟩ rfl #[.string p.1, .string p.2] _ HW.out Tryd.underlying82 rfl (cl_info p) ?_)
                refine (comesBack_c b c u p.1 _ hM' HU.out hs1 (by omega)).mono ?_; rintro e w3 ⟨rfl, rfl⟩
                cases hcb : cbB u c p.1 with
                | true =>
                  have HN : Hid (clErr l = 14) := Lib.hid (by rw [HH.out, if_pos (any_of_at _ l k p HP.out hcb)])
                  clear hcb
                  go_wp2_with fail
                  go_ret
                  exact ⟨ret_int HN.out.symm, hG.alloc _⟩
                | false =>
                  have HN : Hid ((l.take (k + 1)).any (fun p => cbB u c p.1) = false) := Lib.hid (by rw [take_snoc' l k p HP.out, List.any_append, HA.out, List.any_cons, hcb]; rfl)
                  clear hcb
                  go_wp2_with fail
                  go_roundw
                  case rel => exact ⟨k + 1, by omega, by go_num, HN.out, hM', hG.alloc _⟩
                  case measure => simp [intOf]; omega
            · obtain rfl : k = l.length := by omega
              rw [List.take_length] at HA
              have HN : Hid (clErr l = 0) := Lib.hid (by rw [HH.out, if_neg (by simp [HA.out])])
              go_wp2_with fail
              go_ret
              exact ⟨ret_int HN.out.symm, hG⟩
    · have H := Lib.hid (show clErr l = ckErr ⟨#[]⟩ l by simp [clErr, h30, hck])
      have h1 : (ckErr ⟨#[]⟩ l != 0) = true := by rw [bne_iff_ne]; exact hck
      clear hck
      have HR := Lib.hid hr
      obtain ⟨a, cap, rfl, hcap, hm, hlen, hnil, hcell⟩ := hr
      go_enter Tryd.func26, Tryd.ntmps26
      go_wp2_with fail
      refine (checkClassKeys_c _ l _ HR.out hl hn).mono ?_; rintro e w1 ⟨rfl, hG1⟩
      go_wp2_with fail
      go_ret
      exact ⟨ret_int H.out.symm, hG1⟩
end Go.Proofs.YtlnoafkepfgooaaDoor
