/- Base, Stream, GenS, GenT, Key, Rkey, Sta, Stb, Hrs, Has, Open, Next, Min, Quiet, Nof, Hrm, Row, Errs, Map, Cls, Ups, Chk. -/
import Derived.WalkKit
import Derived.WalkSpells
import Derived.WalkLawsBesides
import Derived.Deep.LoopGhost
import Derived.Deep.Light
import Derived.Deep.QuietTactic
import Derived.BigQuiet
import Derived.Lib.Hide
import Derived.Maps.RangeWalk
import Derived.Test.YtbddcbbjmgepnaaRows
import Derived.Outline
import Derived.Test.YtbddcbbjmgepnaaShelf
import Derived.Deep.RegionHeld3
import Derived.Maps.OwnSet
import Derived.Maps.OwnOps
import Derived.StringKeys
/- Small lemmas on worlds: what a call may have written ('grownBy'), cells behind it, slices that read as lists of cells. No program. -/
namespace Go.Proofs.Ytbddcbbjmgepnaa
open Go.RowKit

/-- Nothing that was there has turned, but block 's'. -/
abbrev G (w w' : World) (s : Option Nat) : Prop := w.grownBy w' s

theorem G.refl (w : World) (s : Option Nat) : G w w s := World.grownBy.refl w s
theorem G.trans {a b c : World} {s : Option Nat} (h : G a b s) (k : G b c s) : G a c s := World.grownBy.trans h k
theorem G.but {a b : World} (h : G a b none) (s : Option Nat) : G a b s := World.grownBy.but h s
theorem G.trans0 {a b c : World} {s : Option Nat} (h : G a b s) (k : G b c none) : G a c s := World.grownBy.trans h (World.grownBy.but k s)
theorem G.drew {a b : World} {s : Option Nat} (h : G a b s) : G a b.drew s := ⟨h.os, h.tape, h.output, h.size, h.block⟩
theorem G.drewN {a b : World} {s : Option Nat} (h : G a b s) (n : Nat) : G a (b.drewN n) s := ⟨h.os, h.tape, h.output, h.size, h.block⟩
theorem G.alloc {a b : World} {s : Option Nat} (h : G a b s) (o : Obj) : G a (b.alloc o) s := h.trans (World.grownBy_alloc b o s)
theorem grownBy_setCell_row (w : World) (p : Addr) (u : Value) : w.grownBy (w.setCell p u) (some p.block) :=
  ⟨rfl, rfl, rfl, by simp [World.setCell], fun k _ hk => Below.heap_setCell _ _ _ _ (fun e => hk (by rw [e]))⟩
/-- A store into a block that was made since, or into the one that may be written. -/
theorem G.setCell {a b : World} {s : Option Nat} (h : G a b s) {p : Addr} (hp : a.heap.size ≤ p.block ∨ s = some p.block) (u : Value) : G a (b.setCell p u) s :=
  ⟨h.os, h.tape, h.output, by simp [World.setCell]; exact h.size, fun k hk hne => (Below.heap_setCell _ _ _ _ (by
    rcases hp with hp | hp
    · omega
    · intro e; exact hne (by rw [hp, e]))).trans (h.block k hk hne)⟩
/-- Another block may be written, if it was made since. -/
theorem G.other {a b c : World} {s r : Option Nat} (h : G a b s) (k : G b c r) (hr : ∀ j, r = some j → a.heap.size ≤ j ∨ s = some j) : G a c s := World.grownBy.andThen h k hr
/-- What was made since may be written: then nothing that was there has turned. -/
theorem G.own {a b : World} {s : Nat} (h : G a b (some s)) (hs : a.heap.size ≤ s) : G a b none :=
  ⟨h.os, h.tape, h.output, h.size, fun k hk _ => h.block k hk (fun e => by have := Option.some.inj e; omega)⟩
theorem G.below {a b : World} (h : G a b none) : Below a.heap.size a b := ⟨h.os, h.tape, h.output, h.size, fun k hk => h.block k hk (by simp)⟩
theorem Below.G {a b : World} {B : Nat} (h : Below B a b) (hB : B = a.heap.size) : G a b none := ⟨h.os, h.tape, h.output, h.size, fun k hk _ => h.block k (by omega)⟩

/-- The walk's two rules behind a call that writes nothing old: cells, marks. -/
theorem gcell {W w1 : World} (h : G W w1 none) : (∀ b o, b < W.heap.size → w1.cell? ⟨b, o, none⟩ = W.cell? ⟨b, o, none⟩) ∧ (∀ b o, b < W.heap.size → w1.frozen? ⟨b, o, none⟩ = W.frozen? ⟨b, o, none⟩) :=
  ⟨fun b o hb => World.cell?_of_block (w := W) (h.block b hb (by simp)), fun b o hb => World.frozen?_of_block (w := W) (h.block b hb (by simp))⟩
theorem gcell_s {W w1 : World} {s : Nat} (h : G W w1 (some s)) : (∀ b o, b < W.heap.size → b ≠ s → w1.cell? ⟨b, o, none⟩ = W.cell? ⟨b, o, none⟩) ∧ (∀ b o, b < W.heap.size → b ≠ s → w1.frozen? ⟨b, o, none⟩ = W.frozen? ⟨b, o, none⟩) :=
  ⟨fun b o hb hs => World.cell?_of_block (w := W) (h.block b hb (by simpa using hs)), fun b o hb hs => World.frozen?_of_block (w := W) (h.block b hb (by simpa using hs))⟩

theorem wrap64_range (n : Int) : -9223372036854775808 ≤ wrap64 n ∧ wrap64 n ≤ 9223372036854775807 := by unfold wrap64; omega

/-- 'n' elements of 'z' cells each, from an address on, are these cells. -/
def Rd (w : World) (z : Nat) (v : Value) (n : Nat) (cs : List Value) : Prop :=
  ∃ a cap, v = .slice a n cap ∧ n ≤ cap ∧ cap ≤ maxLen ∧ cs.length = n * z ∧ (a = none → n = 0 ∧ cap = 0) ∧
    ∀ b, a = some b → b.spot = none ∧ b.block < w.heap.size ∧ ∀ j u, cs[j]? = some u → w.cell? ⟨b.block, b.off + j, none⟩ = some u

theorem Rd.of_eq {w w' : World} {z : Nat} {v : Value} {n : Nat} {cs : List Value} (h : Rd w z v n cs) (hb : ∀ b, v.ownBlock = some b → b < w.heap.size → b < w'.heap.size ∧ w'.heap[b]? = w.heap[b]?) : Rd w' z v n cs := by
  obtain ⟨a, cap, rfl, h1, h2, h3, h4, h5⟩ := h
  refine ⟨a, cap, rfl, h1, h2, h3, h4, fun b hab => ?_⟩
  obtain ⟨q1, q2, q3⟩ := h5 b hab
  subst hab
  obtain ⟨k1, k2⟩ := hb b.block rfl q2
  exact ⟨q1, k1, fun j u hj => (World.cell?_of_block (w := w) (a := ⟨b.block, b.off + j, none⟩) k2).trans (q3 j u hj)⟩

theorem Rd.grown {w w' : World} {z : Nat} {v : Value} {n : Nat} {cs : List Value} {s : Option Nat} (h : Rd w z v n cs) (hg : G w w' s) (hs : ∀ k, s = some k → v.ownBlock ≠ some k) : Rd w' z v n cs := by
  refine h.of_eq fun b hv hb => ⟨Nat.lt_of_lt_of_le hb hg.size, hg.block b hb fun e => ?_⟩
  exact hs b e.symm hv
theorem Rd.quiet {w w' : World} {z : Nat} {v : Value} {n : Nat} {cs : List Value} (h : Rd w z v n cs) (hg : G w w' none) : Rd w' z v n cs := h.grown hg (fun k e => by cases e)

theorem Rd.of_owns {w : World} {base : Nat} {e : TypeId} {z : Nat} {v : Value} {n : Nat} {cs : List Value} (h : w.ownsRow base e z v n cs) : Rd w z v n cs := by
  have hc := h.cells (g := (v.ownBlock).getD 0)
  obtain ⟨h1, h2⟩ := h
  rcases h2 with ⟨rfl, rfl⟩ | ⟨g, cap, cur, rfl, hb, hg, hn, hm, hs, ht⟩
  · exact ⟨none, 0, rfl, Nat.le_refl _, Nat.zero_le _, h1, fun _ => ⟨rfl, rfl⟩, fun b hb => by cases hb⟩
  · refine ⟨_, cap, rfl, hn, hm, h1, (fun e => by cases e), fun b hb' => ?_⟩
    obtain rfl := Option.some.inj hb'
    refine ⟨rfl, (Array.getElem?_eq_some_iff.1 hg).1, fun j u hj => ?_⟩
    have := hc rfl j u hj
    simp only [Value.ownBlock, Option.getD_some] at this
    rw [Addr.add_lit] at this
    exact this

/-- The element at 'i' of such a slice: its address, its first cell. -/
theorem Rd.elem {w : World} {z : Nat} {a : Option Addr} {n cap m : Nat} {cs : List Value} (h : Rd w z (.slice a n cap) m cs) (hn : 0 < n) :
    m = n ∧ n ≤ cap ∧ cap ≤ maxLen ∧ cs.length = n * z ∧ ∃ b o, a = some ⟨b, o, none⟩ ∧ b < w.heap.size ∧ ∀ j, j < n * z → ∃ u, cs[j]? = some u ∧ w.cell? ⟨b, o + j, none⟩ = some u := by
  obtain ⟨a', c', e', r1, r2, r3, r4, r5⟩ := h
  obtain ⟨rfl, rfl, rfl⟩ : a = a' ∧ n = m ∧ cap = c' := by cases e'; exact ⟨rfl, rfl, rfl⟩
  cases a with
  | none => exact absurd (r4 rfl).1 (by omega)
  | some b =>
    obtain ⟨bb, bo, bs⟩ := b
    obtain ⟨e1, e2, e3⟩ := r5 _ rfl
    dsimp only at e1 e2 e3
    subst e1
    refine ⟨rfl, r1, r2, r3, bb, bo, rfl, e2, fun j hj => ?_⟩
    exact ⟨cs[j]'(by omega), List.getElem?_eq_getElem (by omega), e3 j _ (List.getElem?_eq_getElem (by omega))⟩

/-- A row of cells that was just laid. -/
theorem Rd.new {w : World} {z n : Nat} {T : TypeId} (cs : Array Value) (hc : cs.size = n * z) (hn : n ≤ maxLen) : Rd (w.alloc (.cells cs T)) z (.slice (some ⟨w.heap.size, 0, none⟩) n n) n cs.toList := by
  refine ⟨_, n, rfl, Nat.le_refl _, hn, by simpa using hc, (fun e => by cases e), fun b hb => ?_⟩
  obtain rfl := Option.some.inj hb
  refine ⟨rfl, by simp, fun j u hj => ?_⟩
  rw [Nat.zero_add, cell_of_row (w.alloc (.cells cs T)) w.heap.size j cs T (0, 0) (heap_alloc_new w _)]
  simpa using hj

/-- The same, its block's number written as the walk writes it. -/
theorem Rd.newAt {w : World} {z n b : Nat} {T : TypeId} (cs : Array Value) (hb : w.heap.size = b) (hc : cs.size = n * z) (hn : n ≤ maxLen) : Rd (w.alloc (.cells cs T)) z (.slice (some ⟨b, 0, none⟩) n n) n cs.toList := by
  subst hb
  exact Rd.new cs hc hn

/-- A block that is known whole, nothing of it frozen. -/
def Bk (w : World) (g : Nat) (T : TypeId) (cs : Array Value) : Prop := w.heap[g]? = some (.cells cs T (0, 0))
theorem Bk.lt {w : World} {g : Nat} {T : TypeId} {cs : Array Value} (h : Bk w g T cs) : g < w.heap.size := by
  unfold Bk at h
  exact (Array.getElem?_eq_some_iff.1 h).1
theorem Bk.cell {w : World} {g : Nat} {T : TypeId} {cs : Array Value} (h : Bk w g T cs) (i : Nat) : w.cell? ⟨g, i, none⟩ = cs[i]? := cell_of_row w g i cs T (0, 0) h
theorem Bk.free {w : World} {g : Nat} {T : TypeId} {cs : Array Value} (h : Bk w g T cs) (i : Nat) : w.frozen? ⟨g, i, none⟩ = false := by
  unfold Bk at h
  simp [World.frozen?, h]
theorem Bk.new (w : World) (T : TypeId) (cs : Array Value) : Bk (w.alloc (.cells cs T)) w.heap.size T cs := heap_alloc_new w _
theorem Bk.newAt {w : World} {b : Nat} (hb : w.heap.size = b) (T : TypeId) (cs : Array Value) : Bk (w.alloc (.cells cs T)) b T cs := by
  subst hb
  exact Bk.new w T cs
theorem Bk.grown {w w' : World} {g : Nat} {T : TypeId} {cs : Array Value} {s : Option Nat} (h : Bk w g T cs) (hg : G w w' s) (hs : some g ≠ s) : Bk w' g T cs := (hg.block g h.lt hs).trans h
theorem Bk.quiet {w w' : World} {g : Nat} {T : TypeId} {cs : Array Value} (h : Bk w g T cs) (hg : G w w' none) : Bk w' g T cs := h.grown hg (by simp)
theorem Bk.alloc {w : World} {g : Nat} {T : TypeId} {cs : Array Value} (h : Bk w g T cs) (o : Obj) : Bk (w.alloc o) g T cs := (Below.heap_alloc w o g h.lt).trans h
theorem Bk.drewN {w : World} {g : Nat} {T : TypeId} {cs : Array Value} (h : Bk w g T cs) (n : Nat) : Bk (w.drewN n) g T cs := h
theorem Bk.set {w : World} {g : Nat} {T : TypeId} {cs : Array Value} (h : Bk w g T cs) (i : Nat) (u : Value) : Bk (w.setCell ⟨g, i, none⟩ u) g T (cs.setIfInBounds i u) := by
  unfold Bk at h ⊢
  simp [World.setCell, Array.getElem?_modify, h]
theorem Bk.far {w : World} {g : Nat} {T : TypeId} {cs : Array Value} (h : Bk w g T cs) {p : Addr} (hp : g ≠ p.block) (u : Value) : Bk (w.setCell p u) g T cs := (Below.heap_setCell w p u g hp).trans h

/-! A whole row stored anew. -/
theorem grownBy_setRow (w : World) (g : Nat) (cs : Array Value) : w.grownBy (w.setRow g cs) (some g) :=
  ⟨rfl, rfl, rfl, by simp, fun k _ hk => setRow_other w g k cs (fun e => hk (by rw [e]))⟩
theorem G.setRow {a b : World} {s : Option Nat} (h : G a b s) {g : Nat} (hp : a.heap.size ≤ g ∨ s = some g) (cs : Array Value) : G a (b.setRow g cs) s :=
  h.other (grownBy_setRow b g cs) (fun j e => by obtain rfl := Option.some.inj e; exact hp)
theorem Bk.setRow {w : World} {g : Nat} {T : TypeId} {cs : Array Value} (h : Bk w g T cs) (ds : Array Value) : Bk (w.setRow g ds) g T ds := setRow_heap w g cs ds T (0, 0) h
theorem Bk.farRow {w : World} {g : Nat} {T : TypeId} {cs : Array Value} (h : Bk w g T cs) {k : Nat} (hk : g ≠ k) (ds : Array Value) : Bk (w.setRow k ds) g T cs := (setRow_other w k g ds hk).trans h

theorem add_at (b o j : Nat) : (⟨b, o, none⟩ : Addr).add j = ⟨b, o + j, none⟩ := by unfold Addr.add; split <;> simp_all
/-! A struct or an array read out of the middle of a row. -/
theorem run_loadVar_at {P : Program} (w : World) (a : Addr) (ty : TypeId) (cs : Array Value) (d : TypeDesc) (hc : ∀ j v, cs.toList[j]? = some v → w.cell? (a.add j) = some v)
    (hu : P.underlying ty = some d) (hd : (match d with | .struct _ | .array _ _ => true | _ => false) = true) (hi : (P.info? ty).map (·.size) = some cs.size) :
    (loadVar ty a).run P w = .ok (.agg cs) w := by
  have hl : (loadCells a cs.toList.length).run P w = .ok cs.toList.toArray w := run_loadCells_list (P := P) w a cs.toList hc
  obtain ⟨i, hq, hs⟩ := Option.map_eq_some_iff.1 hi
  have hagg : (isAgg ty).run P w = .ok true w := by
    unfold isAgg
    rw [Sem.run_bind, run_underlying hu w]
    cases d <;> simp_all
  simp only [Array.length_toList, Array.toArray_toList] at hl
  simp [loadVar, Sem.run_bind, hagg, sizeOf, typeInfo, hq, hs, hl]
theorem wpList_load_at {P : Program} {ops : Array Oper} {rest : List Oper} {o : Oper} {a : Act} {w : World} {Q : Exit → Act → World → Prop} (hgd : o.guard = none) (ty : TypeId) (x : Operand) (ho : o.op = .load ty x)
    (ad : Addr) (hx : a.eval x = .pointer (some ad)) (cs : Array Value) (d : TypeDesc) (hc : ∀ j v, cs.toList[j]? = some v → w.cell? (ad.add j) = some v)
    (hu : P.underlying ty = some d) (hd : (match d with | .struct _ | .array _ _ => true | _ => false) = true) (hi : (P.info? ty).map (·.size) = some cs.size)
    (h : wpList P ops Q rest (a.put o.dst (.agg cs)) w) : wpList P ops Q (o :: rest) a w :=
  wpList_plain hgd fun K hK => by
    unfold Oper.wp execOp
    simp only [ho, hx, Instr.loadAt, Instr.sureAddr, Sem.run_bind, Sem.run_pure, Result.andThen_ok, run_loadVar_at w ad ty cs d hc hu hd hi]
    exact hK _ _ h

end Go.Proofs.Ytbddcbbjmgepnaa

/- The stream of raw numbers: Below, Next, Range, Flip, Pick, Some, Odd. Any list, any numbers. -/
namespace Go.Proofs.Ytbddcbbjmgepnaa
open Go.RowKit

/-- 'Below' returns a number from 0 to n-1; 0, if n is less than 1. -/
def InR (n r : Int) : Prop := 0 ≤ r ∧ (r < n ∨ (r = 0 ∧ n < 1))
def BelowPost (n : Int) (w : World) (e : Ending) (w' : World) : Prop := ∃ r : Int, e = .returned (.int .i64 r) ∧ InR n r ∧ w = w'

set_option maxHeartbeats 400000 in
theorem below_c (x n : Int) (w : World) (hn : n ≤ 4611686018427387904) (hx : -9223372036854775808 ≤ x ∧ x ≤ 9223372036854775807) :
    Calls Try.prog 46 #[.int .i64 x, .int .i64 n] w (BelowPost n w) := by
  have H : Hid (-9223372036854775808 ≤ x ∧ x ≤ 9223372036854775807) := Lib.hid hx
  clear hx
  by_cases h1 : n < 1
  · go_enter Try.func46, Try.ntmps46
    go_wp2
    go_ret
    exact ⟨0, rfl, ⟨by omega, .inr ⟨rfl, h1⟩⟩, rfl⟩
  · have hn1 : 1 ≤ n := by omega
    have ha : x.tmod n < n := Int.tmod_lt_of_pos _ (by omega)
    have hb : -n < x.tmod n := by have := Int.lt_tmod_of_pos x (show 0 < n by omega); omega
    have Ha : Hid (x.tmod n < n ∧ -n < x.tmod n) := Lib.hid ⟨ha, hb⟩
    clear ha hb
    go_enter Try.func46, Try.ntmps46
    go_wp2
    · go_ret
      obtain ⟨q1, q2⟩ := Ha.out
      have q3 : x.tmod n < 0 := by assumption
      exact ⟨_, rfl, (by rw [IntWalk.wrap64_in (x.tmod n + n) ⟨by omega, by omega⟩]; exact ⟨by omega, .inl (by omega)⟩), rfl⟩
    · go_ret
      obtain ⟨q1, q2⟩ := Ha.out
      have q3 : 0 ≤ x.tmod n := by assumption
      exact ⟨x.tmod n, rfl, ⟨by omega, .inl (by omega)⟩, rfl⟩

/-- A stream at block 's' that has handed out 'K' numbers at most. -/
def SB (w : World) (s : Nat) (K : Nat) : Prop :=
  ∃ (k : Nat) (a : Option Addr) (n c : Nat) (zs : List Int), k ≤ K ∧ Rd w 1 (.slice a n c) n (zs.map (Value.int .i64)) ∧ (∀ b, a = some b → b.block < s) ∧ (∀ z ∈ zs, -9223372036854775808 ≤ z ∧ z ≤ 9223372036854775807) ∧
    w.cell? ⟨s, 0, none⟩ = some (.slice a n c) ∧ w.cell? ⟨s, 1, none⟩ = some (.int .i64 k) ∧ w.frozen? ⟨s, 1, none⟩ = false ∧ s < w.heap.size

theorem SB.quiet {w w' : World} {s K : Nat} (h : SB w s K) (hg : G w w' none) : SB w' s K := by
  obtain ⟨k, a, len, c, zs, hk, hrd, hne, hz, c0, c1, f1, hlt⟩ := h
  have e := hg.block s hlt (by simp)
  exact ⟨k, a, len, c, zs, hk, hrd.quiet hg, hne, hz, (World.cell?_of_block (w := w) (a := ⟨s, 0, none⟩) e).trans c0, (World.cell?_of_block (w := w) (a := ⟨s, 1, none⟩) e).trans c1,
    (World.frozen?_of_block (w := w) (a := ⟨s, 1, none⟩) e).trans f1, Nat.lt_of_lt_of_le hlt hg.size⟩
theorem SB.lt {w : World} {s K : Nat} (h : SB w s K) : s < w.heap.size := by obtain ⟨_, _, _, _, _, _, _, _, _, _, _, _, h⟩ := h; exact h
theorem SB.le {w : World} {s K L : Nat} (h : SB w s K) (hl : K ≤ L) : SB w s L := by
  obtain ⟨k, a, len, c, zs, hk, h⟩ := h
  exact ⟨k, a, len, c, zs, Nat.le_trans hk hl, h⟩
theorem SB.alloc {w : World} {s K : Nat} (h : SB w s K) (o : Obj) : SB (w.alloc o) s K := h.quiet ((G.refl _ _).alloc o)
theorem SB.drewN {w : World} {s K : Nat} (h : SB w s K) (n : Nat) : SB (w.drewN n) s K := h.quiet ((G.refl _ _).drewN n)
/-- A store into a block behind the stream's. -/
theorem SB.setCell {w : World} {s K : Nat} (h : SB w s K) {p : Addr} (hp : s < p.block) (u : Value) : SB (w.setCell p u) s K := by
  obtain ⟨k, a, len, c, zs, hk, hrd, hne, hz, c0, c1, f1, hlt⟩ := h
  have hg : G w (w.setCell p u) (some p.block) := (G.refl w _).setCell (.inr rfl) _
  refine ⟨k, a, len, c, zs, hk, hrd.grown hg (fun b e hb => ?_), hne, hz, ?_, ?_, ?_, Nat.lt_of_lt_of_le hlt hg.size⟩
  · obtain rfl := Option.some.inj e
    cases a with
    | none => cases hb
    | some x => have h1 := hne x rfl; have h2 : x.block = p.block := Option.some.inj hb; omega
  · rw [World.cell?_setCell_other w _ _ _ (by intro e; rw [e] at hp; exact Nat.lt_irrefl _ hp)]; exact c0
  · rw [World.cell?_setCell_other w _ _ _ (by intro e; rw [e] at hp; exact Nat.lt_irrefl _ hp)]; exact c1
  · rw [World.frozen?_setCell]; exact f1

theorem SB.bump {w : World} {s : Nat} {k K : Nat} (hk : k ≤ K) {a : Option Addr} {n c : Nat} {zs : List Int} (hrd : Rd w 1 (.slice a n c) n (zs.map (Value.int .i64))) (hne : ∀ b, a = some b → b.block < s) (hz : ∀ z ∈ zs, -9223372036854775808 ≤ z ∧ z ≤ 9223372036854775807)
    (c0 : w.cell? ⟨s, 0, none⟩ = some (.slice a n c)) (c1 : w.cell? ⟨s, 1, none⟩ = some (.int .i64 k)) (f1 : w.frozen? ⟨s, 1, none⟩ = false) (hlt : s < w.heap.size) :
    SB (w.setCell ⟨s, 1, none⟩ (.int .i64 ((k : Int) + 1))) s (K + 1) ∧ G w (w.setCell ⟨s, 1, none⟩ (.int .i64 ((k : Int) + 1))) (some s) := by
  have hg : G w (w.setCell ⟨s, 1, none⟩ (.int .i64 ((k : Int) + 1))) (some s) := (G.refl w _).setCell (.inr rfl) _
  refine ⟨⟨k + 1, a, n, c, zs, by omega, hrd.grown hg (fun b e hb => ?_), hne, hz, ?_, ?_, ?_, Nat.lt_of_lt_of_le hlt hg.size⟩, hg⟩
  · obtain rfl := Option.some.inj e
    cases a with
    | none => cases hb
    | some x => have h1 := hne x rfl; have h2 : x.block = s := Option.some.inj hb; omega
  · rw [World.cell?_setCell_other w _ _ _ (by simp)]; exact c0
  · rw [World.cell?_setCell_same w _ _ c1]; rfl
  · rw [World.frozen?_setCell]; exact f1

def NextPost (n : Int) (s : Nat) (K : Nat) (w : World) (e : Ending) (w' : World) : Prop := ∃ r : Int, e = .returned (.int .i64 r) ∧ InR n r ∧ SB w' s (K + 1) ∧ G w w' (some s)

set_option maxHeartbeats 400000 in
theorem next_c (n : Int) (w : World) (s : Nat) (K : Nat) (hs : SB w s K) (hk : K ≤ 1152921504606846976) (hn : n ≤ 4611686018427387904) :
    Calls Try.prog 20 #[.pointer (some ⟨s, 0, none⟩), .int .i64 n] w (NextPost n s K w) := by
  obtain ⟨k, a, len, c, zs, hkK, hrd, hne, hz, c0, c1, f1, hlt⟩ := hs
  have B := SB.bump hkK hrd hne hz c0 c1 f1 hlt
  by_cases hl : len = 0
  · subst hl
    go_enter Try.func20, Try.ntmps20
    go_wp2_with (go_at_call 46; refine (below_c _ _ _ hn (wrap64_range _)).mono ?_; rintro e w' ⟨r, rfl, hr, rfl⟩)
    go_ret
    exact ⟨_, rfl, hr, B⟩
  · obtain ⟨a', c', e', r1, r2, r3, r4, r5⟩ := hrd
    obtain ⟨rfl, rfl⟩ : a = a' ∧ c = c' := by cases e'; exact ⟨rfl, rfl⟩
    clear e'
    cases a with
    | none => exact absurd (r4 rfl).1 hl
    | some b =>
      obtain ⟨bb, bo, bs⟩ := b
      obtain ⟨e1, e2, e3⟩ := r5 _ rfl
      dsimp only at e1 e2 e3
      subst e1
      clear r4 r5
      have hlz : zs.length = len := by simpa using r3
      have hn2 : bb ≠ s := Nat.ne_of_lt (hne _ rfl)
      have hml : k % len < len := Nat.mod_lt _ (by omega)
      have hcell : w.cell? ⟨bb, bo + k % len, none⟩ = some (.int .i64 (zs.getD (k % len) 0)) := e3 (k % len) _ (by simp [List.getD, show k % len < zs.length by omega])
      have hzk := hz (zs.getD (k % len) 0) (by simp [List.getD, show k % len < zs.length by omega])
      generalize zs.getD (k % len) 0 = z at hcell hzk
      have hb1 : IntKind.i64.wrap ((k : Int) + 1 - 1) = (k : Int) := by rw [show (k : Int) + 1 - 1 = k by omega]; exact IntWalk.i64_in _ (by omega)
      have hl0 : (((len : Nat) : Int) == 0) = false := by simp; omega
      have hl1 : (1 : Int) ≤ (len : Int) := by omega
      have hlm : len ≤ 9223372036854775807 := by simp only [maxLen] at r2; omega
      clear e3
      go_enter Try.func20, Try.ntmps20
      go_wp2_with fail
      go_quiet (fail)
      go_wp2_with fail
      go_quiet (fail)
      go_wp2_with fail
      refine (below_c _ _ _ (by omega) hzk).mono ?_; rintro e w' ⟨r, rfl, hr, rfl⟩
      go_wp2_with fail
      refine (below_c _ _ _ hn (wrap64_range _)).mono ?_; rintro e w' ⟨r, rfl, hr, rfl⟩
      go_wp2_with fail
      go_ret
      exact ⟨_, rfl, hr, B.1.drewN _, B.2.drewN _⟩

/-- 'Range' returns a number from low to high. -/
def RangePost (lo hi : Int) (s : Nat) (K : Nat) (w : World) (e : Ending) (w' : World) : Prop := ∃ r : Int, e = .returned (.int .i64 r) ∧ lo ≤ r ∧ (r ≤ hi ∨ r = lo) ∧ SB w' s (K + 1) ∧ G w w' (some s)
set_option maxHeartbeats 400000 in
theorem range_c (lo hi : Int) (w : World) (s : Nat) (K : Nat) (hs : SB w s K) (hk : K ≤ 1152921504606846976) (h1 : -1152921504606846976 ≤ lo) (h2 : lo ≤ 1152921504606846976) (h3 : hi ≤ 1152921504606846976) :
    Calls Try.prog 6 #[.pointer (some ⟨s, 0, none⟩), .int .i64 lo, .int .i64 hi] w (RangePost lo hi s K w) := by
  by_cases h : hi < lo
  · go_enter Try.func6, Try.ntmps6
    go_wp2_with fail
    go_ret
    exact ⟨_, rfl, by omega, .inr rfl, hs.le (by omega), G.refl _ _⟩
  · have hle : lo ≤ hi := by omega
    go_enter Try.func6, Try.ntmps6
    go_wp2_with fail
    refine (next_c _ _ _ _ hs hk (by omega)).mono ?_; rintro e w' ⟨r, rfl, hr, hp⟩
    obtain ⟨r0, r1⟩ := hr
    have r2 : r ≤ hi - lo := by omega
    clear r1
    go_wp2_with fail
    go_ret
    exact ⟨_, rfl, by omega, .inl (by omega), hp⟩

def FlipPost (s : Nat) (K : Nat) (w : World) (e : Ending) (w' : World) : Prop := ∃ b : Bool, e = .returned (.bool b) ∧ SB w' s (K + 1) ∧ G w w' (some s)
set_option maxHeartbeats 400000 in
theorem flip_c (n : Int) (w : World) (s : Nat) (K : Nat) (hs : SB w s K) (hk : K ≤ 1152921504606846976) (hn : n ≤ 4611686018427387904) :
    Calls Try.prog 17 #[.pointer (some ⟨s, 0, none⟩), .int .i64 n] w (FlipPost s K w) := by
  go_enter Try.func17, Try.ntmps17
  go_wp2_with fail
  refine (next_c _ _ _ _ hs hk hn).mono ?_; rintro e w' ⟨r, rfl, hr, hp⟩
  go_wp2_with fail
  go_ret
  exact ⟨_, rfl, hp⟩

/-- 'Pick' returns one of the numbers. -/
def PickPost (zs : List Int) (s : Nat) (K : Nat) (w : World) (e : Ending) (w' : World) : Prop := ∃ r : Int, e = .returned (.int .i64 r) ∧ r ∈ zs ∧ SB w' s (K + 1) ∧ G w w' (some s)
set_option maxHeartbeats 400000 in
theorem pick_c (a : Option Addr) (n c : Nat) (zs : List Int) (w : World) (s : Nat) (K : Nat) (hs : SB w s K) (hk : K ≤ 1152921504606846976) (hn : 0 < n) (hnm : n ≤ 1000000000) (hr : Rd w 1 (.slice a n c) n (zs.map (Value.int .i64))) (hv : (Value.slice a n c).ownBlock ≠ some s) :
    Calls Try.prog 18 #[.pointer (some ⟨s, 0, none⟩), .slice a n c] w (PickPost zs s K w) := by
  obtain ⟨_, hnc, hcm, hl, b, o, rfl, hb, hc⟩ := hr.elem hn
  simp only [List.length_map, Nat.mul_one] at hl
  have hbs : b ≠ s := fun e => hv (by rw [e]; rfl)
  have hlm : n ≤ 9223372036854775807 := by simp only [maxLen] at hcm; omega
  go_enter Try.func18, Try.ntmps18
  go_wp2_with fail
  refine (next_c _ _ _ _ hs hk (by omega)).mono ?_; rintro e w' ⟨r, rfl, hr, hp⟩
  obtain ⟨r0, r1⟩ := hr
  obtain ⟨i, rfl⟩ := Int.eq_ofNat_of_zero_le r0
  have hi : i < n := by omega
  obtain ⟨u, hu, hcu⟩ := hc i (by omega)
  have hcell := ((gcell_s hp.2).1 b (o + i) hb hbs).trans hcu
  obtain ⟨z, hz, rfl⟩ : ∃ z, zs[i]? = some z ∧ u = .int .i64 z := by
    rw [List.getElem?_map] at hu
    obtain ⟨z, h1, h2⟩ := Option.map_eq_some_iff.1 hu
    exact ⟨z, h1, h2.symm⟩
  have Hz : Hid (zs[i]? = some z) := Lib.hid hz
  clear hu hcu hz r1
  go_wp2_with fail
  go_ret
  exact ⟨_, rfl, List.mem_of_getElem? Hz.out, hp⟩

/-- 'Some' returns one of the strings. -/
def SomePost (zs : List ByteArray) (s : Nat) (K : Nat) (w : World) (e : Ending) (w' : World) : Prop := ∃ r : ByteArray, e = .returned (.string r) ∧ r ∈ zs ∧ SB w' s (K + 1) ∧ G w w' (some s)
set_option maxHeartbeats 400000 in
theorem some_c (a : Option Addr) (n c : Nat) (zs : List ByteArray) (w : World) (s : Nat) (K : Nat) (hs : SB w s K) (hk : K ≤ 1152921504606846976) (hn : 0 < n) (hnm : n ≤ 1000000000) (hr : Rd w 1 (.slice a n c) n (zs.map Value.string)) (hv : (Value.slice a n c).ownBlock ≠ some s) :
    Calls Try.prog 16 #[.pointer (some ⟨s, 0, none⟩), .slice a n c] w (SomePost zs s K w) := by
  obtain ⟨_, hnc, hcm, hl, b, o, rfl, hb, hc⟩ := hr.elem hn
  simp only [List.length_map, Nat.mul_one] at hl
  have hbs : b ≠ s := fun e => hv (by rw [e]; rfl)
  have hlm : n ≤ 9223372036854775807 := by simp only [maxLen] at hcm; omega
  go_enter Try.func16, Try.ntmps16
  go_wp2_with fail
  refine (next_c _ _ _ _ hs hk (by omega)).mono ?_; rintro e w' ⟨r, rfl, hr, hp⟩
  obtain ⟨r0, r1⟩ := hr
  obtain ⟨i, rfl⟩ := Int.eq_ofNat_of_zero_le r0
  have hi : i < n := by omega
  obtain ⟨u, hu, hcu⟩ := hc i (by omega)
  have hcell := ((gcell_s hp.2).1 b (o + i) hb hbs).trans hcu
  obtain ⟨z, hz, rfl⟩ : ∃ z, zs[i]? = some z ∧ u = .string z := by
    rw [List.getElem?_map] at hu
    obtain ⟨z, h1, h2⟩ := Option.map_eq_some_iff.1 hu
    exact ⟨z, h1, h2.symm⟩
  have Hz : Hid (zs[i]? = some z) := Lib.hid hz
  clear hu hcu hz r1
  go_wp2_with fail
  go_ret
  exact ⟨_, rfl, List.mem_of_getElem? Hz.out, hp⟩

/-- A new block is not the stream's. -/
theorem SB.new {w : World} {s K : Nat} (h : SB w s K) (n c : Nat) (o : Nat) : (Value.slice (some ⟨w.heap.size, o, none⟩) n c).ownBlock ≠ some s := by
  have := h.lt
  simp only [Value.ownBlock, ne_eq, Option.some.injEq]
  omega

/-- 'Odd': whatever it returns is of small size. -/
def OddPost (s : Nat) (K : Nat) (w : World) (e : Ending) (w' : World) : Prop := ∃ r : Int, e = .returned (.int .i64 r) ∧ -1099511627776 ≤ r ∧ r ≤ 1099511627776 ∧ SB w' s (K + 2) ∧ G w w' (some s)
set_option maxHeartbeats 400000 in
theorem odd_c (lo hi : Int) (w : World) (s : Nat) (K : Nat) (hs : SB w s K) (hk : K ≤ 1000000000000) (h1 : -1000000000 ≤ lo) (h2 : lo ≤ 1000000000) (h3 : hi ≤ 1000000000) (h4 : -1000000000 ≤ hi) :
    Calls Try.prog 19 #[.pointer (some ⟨s, 0, none⟩), .int .i64 lo, .int .i64 hi] w (OddPost s K w) := by
  go_enter Try.func19, Try.ntmps19
  go_wp2_with fail
  refine (flip_c _ _ _ _ hs (by omega) (by omega)).mono ?_; rintro e w' ⟨b, rfl, hp, hg⟩
  cases b with
  | true =>
    go_wp2_with fail
    refine (pick_c _ _ _ [lo - 1, hi + 1, lo, hi, -1099511627776, 1099511627776] _ _ _ (hp.alloc _) (by omega) (by decide) (by decide) (Rd.new _ rfl (by decide)) (hp.new _ _ _)).mono ?_
    rintro e w2 ⟨r, rfl, hr, hp2, hg2⟩
    go_wp2_with fail
    go_ret
    simp only [List.mem_cons, List.mem_nil_iff, or_false] at hr
    exact ⟨_, rfl, by omega, by omega, hp2, (hg.alloc _).trans hg2⟩
  | false =>
    go_wp2_with fail
    refine (range_c _ _ _ _ _ hp (by omega) (by omega) (by omega) (by omega)).mono ?_
    rintro e w2 ⟨r, rfl, hr1, hr2, hp2, hg2⟩
    go_wp2_with fail
    go_ret
    exact ⟨_, rfl, by omega, by omega, hp2, hg.trans hg2⟩
/-- Only a block behind the stream's may have turned. -/
theorem SB.far {w w' : World} {s K r : Nat} (h : SB w s K) (hg : G w w' (some r)) (hr : s < r) : SB w' s K := by
  obtain ⟨k, a, len, c, zs, hk, hrd, hne, hz, c0, c1, f1, hlt⟩ := h
  have e := hg.block s hlt (by simp; omega)
  refine ⟨k, a, len, c, zs, hk, hrd.grown hg (fun b e hb => ?_), hne, hz, (World.cell?_of_block (w := w) (a := ⟨s, 0, none⟩) e).trans c0, (World.cell?_of_block (w := w) (a := ⟨s, 1, none⟩) e).trans c1,
    (World.frozen?_of_block (w := w) (a := ⟨s, 1, none⟩) e).trans f1, Nat.lt_of_lt_of_le hlt hg.size⟩
  obtain rfl := Option.some.inj e
  cases a with
  | none => cases hb
  | some x => have h1 := hne x rfl; have h2 : x.block = r := Option.some.inj hb; omega
theorem SB.own {w w' : World} {s K : Nat} {o : Option Nat} (h : SB w s K) (hg : G w w' o) (ho : ∀ r, o = some r → s < r) : SB w' s K := by
  cases o with
  | none => exact h.quiet hg
  | some r => exact h.far hg (ho r rfl)
theorem SB.setRow {w : World} {s K r : Nat} (h : SB w s K) (hr : s < r) (cs : Array Value) : SB (w.setRow r cs) s K := h.far (grownBy_setRow w r cs) hr
/-- The same, the block's number written as the walk writes it. -/
theorem SB.newAt {w : World} {s K : Nat} (h : SB w s K) (n c o : Nat) {b : Nat} (hb : w.heap.size ≤ b) : (Value.slice (some ⟨b, o, none⟩) n c).ownBlock ≠ some s := by
  have := h.lt
  simp only [Value.ownBlock, ne_eq, Option.some.injEq]
  omega
end Go.Proofs.Ytbddcbbjmgepnaa

/- Generators: Moment, Window, Station, Stations. -/
namespace Go.Proofs.Ytbddcbbjmgepnaa
open Go.RowKit

def MomentPost (s K : Nat) (w : World) (e : Ending) (w' : World) : Prop := ∃ r : Int, e = .returned (.int .i64 r) ∧ -1 ≤ r ∧ r ≤ 5761440 ∧ SB w' s (K + 1) ∧ G w w' (some s)
/-- The fifteen cells of a station: its key, and the two ends of its hours on seven days. -/
def stC (r : ByteArray) (h : Nat → Int) : Array Value := #[.string r, .int .i64 (h 0), .int .i64 (h 1), .int .i64 (h 2), .int .i64 (h 3), .int .i64 (h 4), .int .i64 (h 5), .int .i64 (h 6), .int .i64 (h 7), .int .i64 (h 8), .int .i64 (h 9), .int .i64 (h 10), .int .i64 (h 11), .int .i64 (h 12), .int .i64 (h 13)]
def upd (h : Nat → Int) (i : Nat) (x : Int) : Nat → Int := fun j => if j = i then x else h j
def HB (h : Nat → Int) : Prop := ∀ j, -1099511627776 ≤ h j ∧ h j ≤ 1099511627776
theorem HB.upd {h : Nat → Int} (hh : HB h) (i : Nat) {x : Int} (h1 : -1099511627776 ≤ x) (h2 : x ≤ 1099511627776) : HB (upd h i x) := by
  intro j
  unfold Go.Proofs.Ytbddcbbjmgepnaa.upd
  split
  · exact ⟨h1, h2⟩
  · exact hh j
theorem HB.zero : HB (fun _ => 0) := fun _ => ⟨by show (-1099511627776 : Int) ≤ 0; decide, by show (0 : Int) ≤ 1099511627776; decide⟩
theorem stC_zero (r : ByteArray) : #[Value.string r, .int .i64 0, .int .i64 0, .int .i64 0, .int .i64 0, .int .i64 0, .int .i64 0, .int .i64 0, .int .i64 0, .int .i64 0, .int .i64 0, .int .i64 0, .int .i64 0, .int .i64 0, .int .i64 0] = stC r (fun _ => 0) := rfl
theorem stC_set (r : ByteArray) (h : Nat → Int) (i : Nat) (hi : i < 14) (x : Int) : (stC r h).setIfInBounds (1 + i) (.int .i64 x) = stC r (upd h i x) := by
  match i, hi with
  | 0, _ => rfl
  | 1, _ => rfl
  | 2, _ => rfl
  | 3, _ => rfl
  | 4, _ => rfl
  | 5, _ => rfl
  | 6, _ => rfl
  | 7, _ => rfl
  | 8, _ => rfl
  | 9, _ => rfl
  | 10, _ => rfl
  | 11, _ => rfl
  | 12, _ => rfl
  | 13, _ => rfl
theorem stC_get (r : ByteArray) (h : Nat → Int) (i : Nat) (hi : i < 14) : (stC r h)[1 + i]? = some (.int .i64 (h i)) := by
  match i, hi with
  | 0, _ => rfl
  | 1, _ => rfl
  | 2, _ => rfl
  | 3, _ => rfl
  | 4, _ => rfl
  | 5, _ => rfl
  | 6, _ => rfl
  | 7, _ => rfl
  | 8, _ => rfl
  | 9, _ => rfl
  | 10, _ => rfl
  | 11, _ => rfl
  | 12, _ => rfl
  | 13, _ => rfl

theorem st_info (r : ByteArray) (h : Nat → Int) : (Try.prog.info? 30).map (·.size) = some (stC r h).size := (by kernel_rfl : (Try.prog.info? 30).map (·.size) = some 15)
theorem st_one (r : ByteArray) (h : Nat → Int) : (stC r h).all (·.oneCell') = true := by simp [stC, Value.oneCell']
def StationKeys : List ByteArray := [⟨#[115, 49]⟩, ⟨#[115, 49]⟩, ⟨#[115, 49]⟩, ⟨#[115, 49]⟩, ⟨#[]⟩, ⟨#[65]⟩]
def StationPost (s K : Nat) (w : World) (e : Ending) (w' : World) : Prop :=
  ∃ (r : ByteArray) (h : Nat → Int), e = .returned (.agg (stC r h)) ∧ r ∈ StationKeys ∧ HB h ∧ SB w' s (K + 40) ∧ G w w' (some s)
/-- What stands at the loop's head in 'Station'. -/
def StRel (w : World) (s K g : Nat) (r : ByteArray) (i : Value) (wr : World) : Prop :=
  ∃ (k : Nat) (h : Nat → Int), k ≤ 7 ∧ i = .int .i64 k ∧ HB h ∧ Bk wr g 30 (stC r h) ∧ SB wr s (K + 1 + 3 * k) ∧ G w wr (some s) ∧ Bk wr w.heap.size 30 (stC ⟨#[]⟩ (fun _ => 0)) ∧ w.heap.size < g

set_option maxRecDepth 100000 in
set_option maxHeartbeats 400000 in
theorem station_c (w : World) (s : Nat) (K : Nat) (hs : SB w s K) (hk : K ≤ 900000000000) :
    Calls Try.prog 5 #[.pointer (some ⟨s, 0, none⟩)] w (StationPost s K w) := by
  have hslt := hs.lt
  go_enter Try.func5, Try.ntmps5
  go_wp2_with fail
  refine (some_c _ _ _ [⟨#[115, 49]⟩, ⟨#[115, 49]⟩, ⟨#[115, 49]⟩, ⟨#[115, 49]⟩, ⟨#[]⟩, ⟨#[65]⟩] _ _ K ((hs.alloc _).alloc _) (by omega) (by decide) (by decide) (Rd.newAt _ (by simp) rfl (by decide)) (hs.newAt _ _ _ (by omega))).mono ?_
  rintro e w2 ⟨r, rfl, hr, hp2, hg2⟩
  have hz2 : w.heap.size + 2 ≤ w2.heap.size := by have := hg2.size; simp at this; omega
  have hB0 := ((Bk.new w 30 (stC ⟨#[]⟩ (fun _ => 0))).alloc (.cells #[Value.string ⟨#[115, 49]⟩, .string ⟨#[115, 49]⟩, .string ⟨#[115, 49]⟩, .string ⟨#[115, 49]⟩, .string ⟨#[]⟩, .string ⟨#[65]⟩] 9)).grown hg2 (by simp; omega)
  have hG2 : G w w2 (some s) := (((G.refl w (some s)).alloc _).alloc _).trans hg2
  clear hg2
  go_wp2_with fail
  go_loopw [10] (StRel w s K w2.heap.size r) (fun i _ => 7 - (intOf i).toNat)
  case atStart =>
    exact ⟨0, fun _ => 0, by omega, rfl, HB.zero, Bk.new w2 _ _, (hp2.le (by omega)).alloc _, hG2.alloc _, hB0.alloc _, by omega⟩
  case round =>
    obtain ⟨k, hh, hk7, rfl, hHB, hBk, hSB, hG, hB0', hlt⟩ := hrel
    go_wp2_with fail
    · have hk6 : k < 7 := by omega
      refine (flip_c _ _ _ _ hSB (by omega) (by omega)).mono ?_; rintro e w3 ⟨b, rfl, hSB3, hG3⟩
      have hBk3 := hBk.grown hG3 (by simp; omega)
      have hB03 := hB0'.grown hG3 (by simp; omega)
      have hG03 := hG.trans hG3
      clear hBk hB0' hG hG3 hSB
      cases b with
      | true =>
        go_wp2_with fail
        go_roundw
        case rel => exact ⟨k + 1, hh, by omega, by go_num, hHB, hBk3, hSB3.le (by omega), hG03, hB03, hlt⟩
        case measure => simp [intOf]; omega
      | false =>
        go_wp2_with fail
        refine (pick_c _ _ _ [0, 480, 720, 1439] _ _ _ (hSB3.alloc _) (by omega) (by decide) (by decide) (Rd.newAt _ (by simp) rfl (by decide)) (hSB3.newAt _ _ _ (by omega))).mono ?_
        rintro e w4 ⟨x, rfl, hx, hSB4, hG4⟩
        have hx0 : 0 ≤ x ∧ x ≤ 1439 := by simp only [List.mem_cons, List.mem_nil_iff, or_false] at hx; omega
        obtain ⟨hx0, hx1⟩ := hx0
        have hBk4 := (hBk3.alloc (.cells #[Value.int .i64 0, .int .i64 480, .int .i64 720, .int .i64 1439] 3)).grown hG4 (by simp; omega)
        have hB04 := (hB03.alloc (.cells #[Value.int .i64 0, .int .i64 480, .int .i64 720, .int .i64 1439] 3)).grown hG4 (by simp; omega)
        have hG04 := (hG03.alloc _).trans hG4
        clear hBk3 hB03 hG03 hG4 hSB3 hx
        go_wp2_with fail
        all_goals
          refine (pick_c _ _ _ [_, _, _, _] _ _ _ (hSB4.alloc _) (by omega) (by decide) (by decide) (Rd.newAt _ rfl rfl (by decide)) (hSB4.newAt _ _ _ (by omega))).mono ?_
          rintro e w5 ⟨y, rfl, hy, hSB5, hG5⟩
          have hy0 : 0 ≤ y ∧ y ≤ 3000 := by simp only [List.mem_cons, List.mem_nil_iff, or_false] at hy; omega
          obtain ⟨hy0, hy1⟩ := hy0
          have hBk5 := (hBk4.alloc (.cells _ 3)).grown hG5 (by simp; omega)
          have hB05 := (hB04.alloc (.cells _ 3)).grown hG5 (by simp; omega)
          have hG05 := (hG04.alloc _).trans hG5
          clear hBk4 hB04 hG04 hG5 hSB4 hy
          have c1 : w5.cell? ⟨w2.heap.size, 1 + k * 2, none⟩ = some (.int .i64 (hh (k * 2))) := by rw [hBk5.cell]; exact stC_get _ _ _ (by omega)
          have c2 : w5.cell? ⟨w2.heap.size, 1 + k * 2 + 1, none⟩ = some (.int .i64 (hh (k * 2 + 1))) := by rw [hBk5.cell]; exact stC_get _ hh (k * 2 + 1) (by omega)
          have f1 := hBk5.free (1 + k * 2)
          have f2 := hBk5.free (1 + k * 2 + 1)
          go_wp2_with fail
          go_roundw
          case rel =>
            refine ⟨k + 1, upd (upd hh (k * 2) x) (k * 2 + 1) y, by omega, by go_num, (hHB.upd _ (by omega) (by omega)).upd _ (by omega) (by omega), ?_, ?_, ?_, ?_, hlt⟩
            · rw [← stC_set _ _ _ (by omega), ← stC_set _ _ _ (by omega)]
              exact (hBk5.set _ _).set _ _
            · exact ((hSB5.setCell (by show s < w2.heap.size; omega) _).setCell (by show s < w2.heap.size; omega) _).le (by omega)
            · exact (hG05.setCell (.inl (by show w.heap.size ≤ w2.heap.size; omega)) _).setCell (.inl (by show w.heap.size ≤ w2.heap.size; omega)) _
            · exact (hB05.far (by show w.heap.size ≠ w2.heap.size; omega) _).far (by show w.heap.size ≠ w2.heap.size; omega) _
          case measure => simp [intOf]; omega
    · refine (flip_c _ _ _ _ hSB (by omega) (by omega)).mono ?_; rintro e w3 ⟨b, rfl, hSB3, hG3⟩
      have hBk3 := hBk.grown hG3 (by simp; omega)
      have hB03 := hB0'.grown hG3 (by simp; omega)
      have hG03 := hG.trans hG3
      clear hBk hB0' hG hG3 hSB
      cases b with
      | false =>
        go_wp2_with (first | (refine wpList_load_row rfl 30 _ rfl w2.heap.size rfl 30 (stC r hh) (0, 0) _ hBk3 Try.underlying30 rfl (st_info _ _) ?_) | (refine wpList_store_row rfl 30 _ _ rfl w.heap.size (stC r hh) rfl rfl 30 _ hB03 (st_info _ _) rfl (st_one _ _) ?_))
        refine bodyPost_ret (results_cell_row rfl _ _ w.heap.size 30 (stC r hh) (0, 0) _ rfl (hB03.setRow (stC r hh)) Try.underlying30 rfl (st_info _ _)) rfl ?_
        exact ⟨r, hh, rfl, hr, hHB, (hSB3.setRow (by omega) _).le (by omega), hG03.setRow (.inl (Nat.le_refl _)) _⟩
      | true =>
        go_wp2_with fail
        refine (next_c _ _ _ _ hSB3 (by omega) (by omega)).mono ?_; rintro e w4 ⟨i, rfl, hi, hSB4, hG4⟩
        obtain ⟨i0, i1⟩ := hi
        obtain ⟨i, rfl⟩ := Int.eq_ofNat_of_zero_le i0
        have i7 : i < 7 := by omega
        clear i1
        go_wp2_with fail
        refine (odd_c _ _ _ _ _ hSB4 (by omega) (by omega) (by omega) (by omega) (by omega)).mono ?_; rintro e w5 ⟨x, rfl, x0, x1, hSB5, hG5⟩
        go_wp2_with fail
        refine (odd_c _ _ _ _ _ hSB5 (by omega) (by omega) (by omega) (by omega) (by omega)).mono ?_; rintro e w6 ⟨y, rfl, y0, y1, hSB6, hG6⟩
        have hG36 := (hG4.trans hG5).trans hG6
        have hBk6 := hBk3.grown hG36 (by simp; omega)
        have hB06 := hB03.grown hG36 (by simp; omega)
        have hG06 := hG03.trans hG36
        clear hG4 hG5 hG6 hG36 hBk3 hB03 hG03 hSB3 hSB4 hSB5
        have c1 : w6.cell? ⟨w2.heap.size, 1 + i * 2, none⟩ = some (.int .i64 (hh (i * 2))) := by rw [hBk6.cell]; exact stC_get _ _ _ (by omega)
        have c2 : w6.cell? ⟨w2.heap.size, 1 + i * 2 + 1, none⟩ = some (.int .i64 (hh (i * 2 + 1))) := by rw [hBk6.cell]; exact stC_get _ hh (i * 2 + 1) (by omega)
        have f1 := hBk6.free (1 + i * 2)
        have f2 := hBk6.free (1 + i * 2 + 1)
        have hBk7 : Bk ((w6.setCell ⟨w2.heap.size, 1 + i * 2, none⟩ (.int .i64 x)).setCell ⟨w2.heap.size, 1 + i * 2 + 1, none⟩ (.int .i64 y)) w2.heap.size 30 (stC r (upd (upd hh (i * 2) x) (i * 2 + 1) y)) := by
          rw [← stC_set _ _ _ (by omega), ← stC_set _ _ _ (by omega)]
          exact (hBk6.set _ _).set _ _
        have hB07 : Bk ((w6.setCell ⟨w2.heap.size, 1 + i * 2, none⟩ (.int .i64 x)).setCell ⟨w2.heap.size, 1 + i * 2 + 1, none⟩ (.int .i64 y)) w.heap.size 30 (stC ⟨#[]⟩ (fun _ => 0)) := (hB06.far (by show w.heap.size ≠ w2.heap.size; omega) _).far (by show w.heap.size ≠ w2.heap.size; omega) _
        go_wp2_with (first | (refine wpList_load_row rfl 30 _ rfl w2.heap.size rfl 30 (stC r (upd (upd hh (i * 2) x) (i * 2 + 1) y)) (0, 0) _ hBk7 Try.underlying30 rfl (st_info _ _) ?_) | (refine wpList_store_row rfl 30 _ _ rfl w.heap.size (stC r (upd (upd hh (i * 2) x) (i * 2 + 1) y)) rfl rfl 30 _ hB07 (st_info _ _) rfl (st_one _ _) ?_))
        refine bodyPost_ret (results_cell_row rfl _ _ w.heap.size 30 (stC r (upd (upd hh (i * 2) x) (i * 2 + 1) y)) (0, 0) _ rfl (hB07.setRow (stC r (upd (upd hh (i * 2) x) (i * 2 + 1) y))) Try.underlying30 rfl (st_info _ _)) rfl ?_
        refine ⟨r, _, rfl, hr, (hHB.upd _ (by omega) (by omega)).upd _ (by omega) (by omega), ((((hSB6.setCell (by show s < w2.heap.size; omega) _).setCell (by show s < w2.heap.size; omega) _)).setRow (by omega) _).le (by omega), ?_⟩
        exact ((hG06.setCell (.inl (by show w.heap.size ≤ w2.heap.size; omega)) _).setCell (.inl (by show w.heap.size ≤ w2.heap.size; omega)) _).setRow (.inl (Nat.le_refl _)) _

theorem wn_info (a b : Int) : (Try.prog.info? 27).map (·.size) = some #[Value.int .i64 a, .int .i64 b].size := (by kernel_rfl : (Try.prog.info? 27).map (·.size) = some 2)
theorem wn_one (a b : Int) : #[Value.int .i64 a, .int .i64 b].all (·.oneCell') = true := by simp [Value.oneCell']
def WindowPost (s K : Nat) (w : World) (e : Ending) (w' : World) : Prop :=
  ∃ a b : Int, e = .returned (.agg #[.int .i64 a, .int .i64 b]) ∧ -1099511627776 ≤ a ∧ a ≤ 1099511627776 ∧ -1099511627776 ≤ b ∧ b ≤ 1099511627776 ∧ SB w' s (K + 8) ∧ G w w' (some s)
end Go.Proofs.Ytbddcbbjmgepnaa

/- Generator: Stations. -/
namespace Go.Proofs.Ytbddcbbjmgepnaa
open Go.RowKit

/-- A station: its key, its hours. -/
abbrev Sta := ByteArray × (Nat → Int)
def stL (l : List Sta) : List Value := l.flatMap fun p => (stC p.1 p.2).toList
theorem stL_len (l : List Sta) : (stL l).length = l.length * 15 := by
  induction l with
  | nil => rfl
  | cons p l ih => rw [show stL (p :: l) = (stC p.1 p.2).toList ++ stL l from rfl, List.length_append, ih, List.length_cons, show (stC p.1 p.2).toList.length = 15 from rfl]; omega
theorem stL_snoc (l : List Sta) (p : Sta) : stL (l ++ [p]) = stL l ++ (stC p.1 p.2).toList := by simp [stL]
def StsKeys : List ByteArray := [⟨#[115, 49]⟩, ⟨#[115, 50]⟩, ⟨#[115, 51]⟩]
/-- A row of stations that the call owns. -/
def OwnSts (w : World) (base : Nat) (v : Value) (l : List Sta) : Prop := w.ownsRow base 30 15 v l.length (stL l)
def StationsPost (s K : Nat) (w : World) (e : Ending) (w' : World) : Prop :=
  ∃ (v : Value) (l : List Sta), e = .returned v ∧ l.length ≤ 3 ∧ OwnSts w' (w.heap.size + 1) v l ∧ (∀ p ∈ l, p.1 ∈ StsKeys ∧ HB p.2) ∧ SB w' s (K + 80) ∧ G w w' (some s)
def StsRel (w : World) (s K : Nat) (v i : Value) (wr : World) : Prop :=
  ∃ (k : Nat) (l : List Sta), k ≤ 3 ∧ l.length ≤ k ∧ i = .int .i64 k ∧ OwnSts wr (w.heap.size + 1) v l ∧ (∀ p ∈ l, p.1 ∈ StsKeys ∧ HB p.2) ∧ SB wr s (K + 25 * k) ∧ G w wr (some s) ∧ Bk wr w.heap.size 9 #[.string ⟨#[115, 49]⟩, .string ⟨#[115, 50]⟩, .string ⟨#[115, 51]⟩]
theorem st_row : (Try.prog.info? 30).map (fun i => (i.zero, i.size, i.bytes)) = some (some (.agg (stC ⟨#[]⟩ (fun _ => 0))), 15, 128) := by kernel_rfl
theorem stC_one (r : ByteArray) (h : Nat → Int) : ∀ u ∈ (stC r h).toList, u.oneCell' = true := by
  intro u hu
  simp [stC] at hu
  rcases hu with rfl | rfl | rfl | rfl | rfl | rfl | rfl | rfl | rfl | rfl | rfl | rfl | rfl | rfl | rfl <;> rfl
theorem Bk.at_ {w : World} {g : Nat} {T : TypeId} {cs : Array Value} (h : Bk w g T cs) : ∀ j u, cs.toList[j]? = some u → w.cell? ((⟨g, 0, none⟩ : Addr).add j) = some u := by
  intro j u hu
  rw [Addr.add_lit, h.cell]
  simpa using hu
/-- A station more behind a row of the call's own. -/
theorem wpList_append_sts {w : World} {ops : Array Oper} {rest : List Oper} {o : Oper} {a : Act} {Q : Exit → Act → World → Prop} (hgd : o.guard = none) (s x : Operand)
    (ho : o.op = .call { callee := .builtin .append, args := #[s, x], argTypes := #[61, 61] }) (base : Nat) (v : Value) (l : List Sta) (hs : a.eval s = v) (hown : OwnSts w base v l)
    (g : Nat) (r : ByteArray) (h : Nat → Int) (hx : a.eval x = .slice (some ⟨g, 0, none⟩) 1 1) (hb : Bk w g 30 (stC r h)) (hl : l.length ≤ 1000) (hbase : base ≤ w.heap.size)
    (hK : ∀ v' w', OwnSts w' base v' (l ++ [(r, h)]) → w.grownBy w' v.ownBlock → wpList Try.prog ops Q rest (a.put o.dst v') w') : wpList Try.prog ops Q (o :: rest) a w := by
  obtain ⟨i0, hi, hz0, hz1, hz2⟩ := info_parts st_row
  refine wpList_append_own w hgd s x 61 ho base 30 i0 _ 15 128 Try.underlying61 hi hz0 hz1 hz2 rfl (by decide) v l.length (stL l) hs hown ⟨g, 0, none⟩ 1 1 (stC r h).toList hx rfl hb.at_ (stC_one r h) (by unfold maxLen; omega) (by omega) hbase ?_
  intro v' w' h1 h2 _
  refine hK v' w' ?_ h2
  unfold OwnSts
  rw [List.length_append, stL_snoc]
  exact h1
/-- What stands at the head of the loop over a station's days. -/
def DayRel (w : World) (s K g : Nat) (key : ByteArray) (v : Value) (l : List Sta) (i : Value) (wr : World) : Prop :=
  ∃ (k : Nat) (hh : Nat → Int), k ≤ 7 ∧ i = .int .i64 k ∧ HB hh ∧ Bk wr g 30 (stC key hh) ∧ SB wr s (K + 3 * k) ∧ G w wr (some s) ∧ OwnSts wr (w.heap.size + 1) v l ∧ Bk wr w.heap.size 9 #[.string ⟨#[115, 49]⟩, .string ⟨#[115, 50]⟩, .string ⟨#[115, 51]⟩]
theorem OwnSts.kept {w w' : World} {base : Nat} {v : Value} {l : List Sta} {s : Nat} (h : OwnSts w base v l) (hg : G w w' (some s)) (hs : s < base) : OwnSts w' base v l := by
  refine World.ownsRow.kept h hg (.inr fun e => ?_)
  have := (World.ownsRow.lt h s e).1
  omega
theorem OwnSts.alloc {w : World} {base : Nat} {v : Value} {l : List Sta} (h : OwnSts w base v l) (o : Obj) : OwnSts (w.alloc o) base v l := World.ownsRow.alloc h o
theorem OwnSts.setCell {w : World} {base : Nat} {v : Value} {l : List Sta} (h : OwnSts w base v l) {p : Addr} (hp : v.ownBlock ≠ some p.block) (u : Value) : OwnSts (w.setCell p u) base v l :=
  World.ownsRow.kept h (grownBy_setCell_row w p u) (.inr hp)
end Go.Proofs.Ytbddcbbjmgepnaa

/- basic.isSmall, isDigit, IsKey. -/
namespace Go.Proofs.Ytbddcbbjmgepnaa
open Go.RowKit

def sm (c : Int) : Bool := decide (97 ≤ c) && decide (c ≤ 122)
def dg (c : Int) : Bool := decide (48 ≤ c) && decide (c ≤ 57)
def kc (c : Int) : Bool := sm c || dg c || c == 45 || c == 95
/-- Which strings are keys. -/
def keyB (s : ByteArray) : Bool := decide (1 ≤ s.size) && decide (s.size ≤ 40) && (match s.data.toList with | [] => false | c :: _ => sm c.toNat) && s.data.toList.all fun c => kc c.toNat
theorem ret_bool {a b : Bool} (h : a = b) : Ending.returned (.bool a) = .returned (.bool b) := by rw [h]

theorem small_c (c : Int) (w : World) : Calls Try.prog 63 #[.int .u8 c] w fun e w' => e = .returned (.bool (sm c)) ∧ w = w' := by
  by_cases h1 : 97 ≤ c <;> by_cases h2 : c ≤ 122
  all_goals
    have h3 : sm c = (decide (97 ≤ c) && decide (c ≤ 122)) := rfl
    simp only [h1, h2, decide_true, decide_false, Bool.and_true, Bool.and_false] at h3
    have H := Lib.hid h3
    clear h3
    go_enter Try.func63, Try.ntmps63
    go_wp2_with fail
    go_ret
    exact ⟨ret_bool H.out.symm, rfl⟩
theorem digit_c (c : Int) (w : World) : Calls Try.prog 64 #[.int .u8 c] w fun e w' => e = .returned (.bool (dg c)) ∧ w = w' := by
  by_cases h1 : 48 ≤ c <;> by_cases h2 : c ≤ 57
  all_goals
    have h3 : dg c = (decide (48 ≤ c) && decide (c ≤ 57)) := rfl
    simp only [h1, h2, decide_true, decide_false, Bool.and_true, Bool.and_false] at h3
    have H := Lib.hid h3
    clear h3
    go_enter Try.func64, Try.ntmps64
    go_wp2_with fail
    go_ret
    exact ⟨ret_bool H.out.symm, rfl⟩

theorem take_snoc (s : ByteArray) (k : Nat) (h : k < s.size) : s.data.toList.take (k + 1) = s.data.toList.take k ++ [s[k]] := by
  rw [List.take_succ_eq_append_getElem (by simpa using h)]; rfl
theorem len_data (s : ByteArray) : s.data.toList.length = s.size := by rw [Array.length_toList]; rfl
theorem get_data (s : ByteArray) (k : Nat) (h : k < s.size) : s.data.toList[k]? = some s[k] := by
  rw [List.getElem?_eq_getElem (by rw [len_data]; exact h)]; rfl
theorem keyB_of (s : ByteArray) (h0 : 0 < s.size) (h40 : s.size ≤ 40) (hs : sm (s[0].toNat : Int) = true) : keyB s = s.data.toList.all fun c => kc c.toNat := by
  unfold keyB
  have hl := len_data s
  cases hq : s.data.toList with
  | nil => rw [hq] at hl; simp at hl; omega
  | cons c r =>
    have hc : s[0] = c := by
      have := get_data s 0 h0
      rw [hq] at this
      simpa using this.symm
    rw [hc] at hs
    simp [hs, h40, show 1 ≤ s.size from h0]
theorem keyB_no (s : ByteArray) (h : s.size = 0 ∨ 40 < s.size) : keyB s = false := by
  unfold keyB
  rcases h with h | h
  · simp [h]
  · simp [show ¬ s.size ≤ 40 by omega]
theorem keyB_head (s : ByteArray) (h0 : 0 < s.size) (hs : sm (s[0].toNat : Int) = false) : keyB s = false := by
  unfold keyB
  have hl := len_data s
  cases hq : s.data.toList with
  | nil => rw [hq] at hl; simp at hl; omega
  | cons c r =>
    have hc : s[0] = c := by
      have := get_data s 0 h0
      rw [hq] at this
      simpa using this.symm
    rw [hc] at hs
    simp [hs]
theorem all_no (s : ByteArray) (k : Nat) (hk : k < s.size) (h : kc (s[k].toNat : Int) = false) : (s.data.toList.all fun c => kc c.toNat) = false := by
  rw [List.all_eq_false]
  refine ⟨s[k], ?_, by simp [h]⟩
  exact List.mem_of_getElem? (get_data s k hk)
theorem kc_sm {c : Int} (h : sm c = true) : kc c = true := by simp [kc, h]
theorem kc_dg {c : Int} (h : dg c = true) : kc c = true := by simp [kc, h]
theorem kc_no {c : Int} (h1 : sm c = false) (h2 : dg c = false) (h3 : (c == 45) = false) (h4 : (c == 95) = false) : kc c = false := by simp only [kc, h1, h2, h3, h4, Bool.or_false]

theorem empty_of {s : ByteArray} (h : s.size = 0) : s = ⟨#[]⟩ := by
  apply Go.WideShapes.bytes_inj
  exact List.eq_nil_of_length_eq_zero ((len_data s).trans h)
theorem isE_of {s : ByteArray} (h : 0 < s.size) : s.toList.isEmpty = false := by
  rw [ByteArray.toList_eq]
  have := len_data s
  cases hq : s.data.toList with
  | nil => rw [hq] at this; simp at this; omega
  | cons _ _ => rfl
set_option maxHeartbeats 1000000 in
theorem isKey_c (s : ByteArray) (w : World) (hs : s.size ≤ 9223372036854775807) : Calls Try.prog 47 #[.string s] w fun e w' => e = .returned (.bool (keyB s)) ∧ w = w' := by
  by_cases h0 : s.size = 0
  · obtain rfl := empty_of h0
    have H := Lib.hid (keyB_no ⟨#[]⟩ (.inl rfl))
    clear h0
    go_enter Try.func47, Try.ntmps47
    go_wp2_with fail
    go_ret
    exact ⟨ret_bool H.out.symm, rfl⟩
  have h0' : 0 < s.size := by omega
  have he := isE_of h0'
  by_cases h40 : 40 < s.size
  · have H := Lib.hid (keyB_no s (.inr h40))
    go_enter Try.func47, Try.ntmps47
    go_wp2_with fail
    go_ret
    exact ⟨ret_bool H.out.symm, rfl⟩
  have h41 : s.size ≤ 40 := by omega
  cases hsm : sm (s[0].toNat : Int) with
  | false =>
    have H := Lib.hid (keyB_head s h0' hsm)
    have H2 := Lib.hid hsm
    clear hsm
    go_enter Try.func47, Try.ntmps47
    go_wp2_with fail
    refine (small_c _ _).mono ?_; rintro e w' ⟨rfl, rfl⟩
    rw [H2.out]
    go_wp2_with fail
    go_ret
    exact ⟨ret_bool H.out.symm, rfl⟩
  | true =>
    have H := Lib.hid (keyB_of s h0' h41 hsm)
    have H2 := Lib.hid hsm
    clear hsm
    go_enter Try.func47, Try.ntmps47
    go_wp2_with fail
    refine (small_c _ _).mono ?_; rintro e w' ⟨rfl, rfl⟩
    rw [H2.out]
    go_wp2_with fail
    go_loop [20] (fun i => ∃ k : Nat, k ≤ s.size ∧ i = .int .i64 k ∧ (s.data.toList.take k).all (fun c => kc c.toNat) = true) (fun i => s.size - (intOf i).toNat)
    case atStart => exact ⟨0, Nat.zero_le _, rfl, by simp⟩
    case round =>
      obtain ⟨k, hk, rfl, hall⟩ := hrel
      have HA := Lib.hid hall
      clear hall
      by_cases hlt : k < s.size
      · cases hkc : kc (s[k].toNat : Int) with
        | false =>
          have HN := Lib.hid (all_no s k hlt hkc)
          have hn : sm (s[k].toNat : Int) = false ∧ dg (s[k].toNat : Int) = false ∧ ((s[k].toNat : Int) != 45) = true ∧ ((s[k].toNat : Int) != 95) = true := by
            simp only [kc, Bool.or_eq_false_iff] at hkc
            exact ⟨hkc.1.1.1, hkc.1.1.2, by simp only [bne, hkc.1.2, Bool.not_false], by simp only [bne, hkc.2, Bool.not_false]⟩
          obtain ⟨n1, n2, n3, n4⟩ := hn
          have N1 := Lib.hid n1
          have N2 := Lib.hid n2
          clear n1 n2 hkc
          go_wp2_with fail
          refine (small_c _ _).mono ?_; rintro e w' ⟨rfl, rfl⟩
          rw [N1.out]
          go_wp2_with fail
          refine (digit_c _ _).mono ?_; rintro e w' ⟨rfl, rfl⟩
          rw [N2.out]
          go_wp2_with fail
          go_ret
          exact ⟨ret_bool (by rw [H.out, HN.out]), rfl⟩
        | true =>
          have HN : Hid ((s.data.toList.take (k + 1)).all (fun c => kc c.toNat) = true) := Lib.hid (by rw [take_snoc s k hlt, List.all_append, HA.out, Bool.true_and, List.all_cons, hkc, List.all_nil]; rfl)
          have HK := Lib.hid hkc
          clear hkc
          go_wp2_with fail
          refine (small_c _ _).mono ?_; rintro e w' ⟨rfl, rfl⟩
          cases hsm : sm (s[k].toNat : Int) with
          | true =>
            clear hsm
            go_wp2_with fail
            go_round
            case rel => exact ⟨k + 1, by omega, by go_num, HN.out⟩
            case measure => simp [intOf]; omega
          | false =>
            have HS := Lib.hid hsm
            clear hsm
            go_wp2_with fail
            refine (digit_c _ _).mono ?_; rintro e w' ⟨rfl, rfl⟩
            cases hdg : dg (s[k].toNat : Int) with
            | true =>
              clear hdg
              go_wp2_with fail
              go_round
              case rel => exact ⟨k + 1, by omega, by go_num, HN.out⟩
              case measure => simp [intOf]; omega
            | false =>
              have HD := Lib.hid hdg
              clear hdg
              cases h45 : ((s[k].toNat : Int) != 45) with
              | false =>
                go_wp2_with fail
                go_round
                case rel => exact ⟨k + 1, by omega, by go_num, HN.out⟩
                case measure => simp [intOf]; omega
              | true =>
                have h95 : ((s[k].toNat : Int) != 95) = false := by
                  have := HK.out
                  simp only [kc, HS.out, HD.out, Bool.false_or] at this
                  have h45' : ((s[k].toNat : Int) == 45) = false := by simpa [bne] using h45
                  rw [h45', Bool.false_or] at this
                  simp only [bne, this, Bool.not_true]
                go_wp2_with fail
                go_round
                case rel => exact ⟨k + 1, by omega, by go_num, HN.out⟩
                case measure => simp [intOf]; omega
      · go_wp2_with fail
        go_ret
        exact ⟨ret_bool (by rw [H.out, ← HA.out, List.take_of_length_le (by rw [len_data]; omega)]), rfl⟩
end Go.Proofs.Ytbddcbbjmgepnaa

/- The reference's 'in', 'only', 'Key'. -/
namespace Go.Proofs.Ytbddcbbjmgepnaa
open Go.RowKit Go.Shelf

/-- 'a' from 'lo' to 'hi'. -/
def inB (a lo hi : Int) : Bool := decide (lo ≤ a) && decide (a ≤ hi)
theorem in_c (a lo hi : Int) (w : World) : Calls Try.prog 55 #[.int .i64 a, .int .i64 lo, .int .i64 hi] w fun e w' => e = .returned (.bool (inB a lo hi)) ∧ w = w' := by
  by_cases h1 : lo ≤ a <;> by_cases h2 : a ≤ hi
  all_goals
    have h3 : inB a lo hi = (decide (lo ≤ a) && decide (a ≤ hi)) := rfl
    simp only [h1, h2, decide_true, decide_false, Bool.and_true, Bool.and_false] at h3
    have H := Lib.hid h3
    clear h3
    go_enter Try.func55, Try.ntmps55
    go_wp2_with fail
    go_ret
    exact ⟨ret_bool H.out.symm, rfl⟩

theorem dropWhile_nil {α : Type} (p : α → Bool) (l : List α) : (l.dropWhile p).isEmpty = l.all p := by
  induction l with
  | nil => rfl
  | cons a l ih =>
    rw [List.dropWhile_cons]
    cases h : p a with
    | true => simp [ih, h]
    | false => simp [h]
theorem dropWhile_all {α : Type} (p : α → Bool) (l : List α) : (l.dropWhile p).all p = l.all p := by
  induction l with
  | nil => rfl
  | cons a l ih =>
    rw [List.dropWhile_cons]
    cases h : p a with
    | true => simp [ih, h]
    | false => simp [h]
theorem trimS_nil (l cs : List UInt8) : (Lib.trimS l cs).isEmpty = l.all (cs.contains ·) := by
  unfold Lib.trimS Lib.trimLeftS Lib.trimRightS
  rw [dropWhile_nil, List.all_reverse, dropWhile_all, List.all_reverse]
def ASC (cs : ByteArray) : Prop := cs.size < 4294967281 ∧ ∀ (j : Nat) (b : UInt8), cs.data.toList[j]? = some b → b.toNat < 128
def smallsS : ByteArray := ⟨#[97, 98, 99, 100, 101, 102, 103, 104, 105, 106, 107, 108, 109, 110, 111, 112, 113, 114, 115, 116, 117, 118, 119, 120, 121, 122]⟩
def keyS : ByteArray := ⟨#[97, 98, 99, 100, 101, 102, 103, 104, 105, 106, 107, 108, 109, 110, 111, 112, 113, 114, 115, 116, 117, 118, 119, 120, 121, 122, 48, 49, 50, 51, 52, 53, 54, 55, 56, 57, 45, 95]⟩
theorem asc_of {cs : ByteArray} (h : cs.size < 4294967281) (h2 : cs.data.toList.all (fun b => decide (b.toNat < 128)) = true) : ASC cs := by
  refine ⟨h, fun j b hj => ?_⟩
  have := List.all_eq_true.1 h2 b (List.mem_of_getElem? hj)
  simpa using this
theorem smalls_asc : ASC smallsS := asc_of (by decide) (by decide)
theorem key_asc : ASC keyS := asc_of (by decide) (by decide)
theorem smalls_has (c : UInt8) : smallsS.data.toList.contains c = sm (c.toNat : Int) := by
  have h : ∀ n : Fin 256, smallsS.data.toList.contains (UInt8.ofNat n.val) = sm (n.val : Int) := by decide +kernel
  have := h ⟨c.toNat, c.toNat_lt⟩
  simpa using this
theorem key_has (c : UInt8) : keyS.data.toList.contains c = kc (c.toNat : Int) := by
  have h : ∀ n : Fin 256, keyS.data.toList.contains (UInt8.ofNat n.val) = kc (n.val : Int) := by decide +kernel
  have := h ⟨c.toNat, c.toNat_lt⟩
  simpa using this
def bnd (n : Int) : Prop := -1099511627776 ≤ n ∧ n ≤ 1099511627776
set_option maxRecDepth 100000 in
theorem within_c (a lo hi : Int) (w : World) : Calls Try.prog 62 #[.int .i64 a, .int .i64 lo, .int .i64 hi] w fun e w' => e = .returned (.bool (inB a lo hi)) ∧ w = w' := by
  have h3 : inB a lo hi = (decide (lo ≤ a) && decide (a ≤ hi)) := rfl
  by_cases h1 : lo ≤ a
  · by_cases h2 : a ≤ hi
    · have H : Hid (inB a lo hi = true) := Lib.hid (by simp [h3, h1, h2])
      clear h3
      go_enter Try.func62, Try.ntmps62
      go_wp2_with fail
      go_ret
      exact ⟨ret_bool H.out.symm, rfl⟩
    · have H : Hid (inB a lo hi = false) := Lib.hid (by simp [h3, h2])
      clear h3
      go_enter Try.func62, Try.ntmps62
      go_wp2_with fail
      go_ret
      exact ⟨ret_bool (by rw [H.out] <;> exact decide_eq_false h2), rfl⟩
  · have H : Hid (inB a lo hi = false) := Lib.hid (by simp [h3, h1])
    have h1' : a < lo := by omega
    clear h3 h1
    go_enter Try.func62, Try.ntmps62
    go_wp2_with fail
    go_ret
    exact ⟨ret_bool H.out.symm, rfl⟩
end Go.Proofs.Ytbddcbbjmgepnaa

/- Stations: rightHours, CheckStations, StationsFault. -/
namespace Go.Proofs.Ytbddcbbjmgepnaa
open Go.RowKit

/-- The fourteen cells of a station's hours. -/
def hrC (h : Nat → Int) : Array Value := #[.int .i64 (h 0), .int .i64 (h 1), .int .i64 (h 2), .int .i64 (h 3), .int .i64 (h 4), .int .i64 (h 5), .int .i64 (h 6), .int .i64 (h 7), .int .i64 (h 8), .int .i64 (h 9), .int .i64 (h 10), .int .i64 (h 11), .int .i64 (h 12), .int .i64 (h 13)]
/-- The hours of a day are right. -/
def okDay (h : Nat → Int) (i : Nat) : Bool := inB (h (i * 2)) 0 (h (i * 2 + 1)) && decide (h (i * 2 + 1) ≤ 1440)
def okHrs (h : Nat → Int) : Bool := (List.range 7).all (okDay h)
theorem okHrs_no {h : Nat → Int} {k : Nat} (hk : k < 7) (hd : okDay h k = false) : okHrs h = false := by
  unfold okHrs
  rw [List.all_eq_false]
  exact ⟨k, List.mem_range.2 hk, by simp [hd]⟩
theorem okHrs_yes {h : Nat → Int} (hd : (List.range 7).all (okDay h) = true) : okHrs h = true := hd
theorem range_snoc (h : Nat → Int) (k : Nat) : (List.range (k + 1)).all (okDay h) = ((List.range k).all (okDay h) && okDay h k) := by
  rw [List.range_succ, List.all_append, List.all_cons, List.all_nil, Bool.and_true]
theorem index_hr (h : Nat → Int) (k : Nat) (hk : k < 7) (w : World) : (Instr.index 28 (.agg (hrC h)) (.int .i64 (k : Int))).run Try.prog w = .ok (.agg #[.int .i64 (h (k * 2)), .int .i64 (h (k * 2 + 1))]) w := by
  match k, hk with
  | 0, _ => show _ = _; kernel_rfl
  | 1, _ => show _ = _; kernel_rfl
  | 2, _ => show _ = _; kernel_rfl
  | 3, _ => show _ = _; kernel_rfl
  | 4, _ => show _ = _; kernel_rfl
  | 5, _ => show _ = _; kernel_rfl
  | 6, _ => show _ = _; kernel_rfl
theorem hr_info (h : Nat → Int) : (Try.prog.info? 28).map (·.size) = some (hrC h).size := (by kernel_rfl : (Try.prog.info? 28).map (·.size) = some 14)

def DaysRel (w : World) (h : Nat → Int) (i : Value) (wr : World) : Prop := ∃ k : Nat, k ≤ 7 ∧ i = .int .i64 k ∧ (List.range k).all (okDay h) = true ∧ G w wr none
set_option maxRecDepth 100000 in
set_option maxHeartbeats 1000000 in
theorem rightHours_c (h : Nat → Int) (w : World) : Calls Try.prog 48 #[.agg (hrC h)] w fun e w' => e = .returned (.bool (okHrs h)) ∧ G w w' none := by
  go_enter Try.func48, Try.ntmps48
  go_wp2_with (refine wpList_load_row rfl 28 _ rfl w.heap.size rfl 28 (hrC h) (0, 0) _ (Bk.new w _ _) Try.underlying28 rfl (hr_info _) ?_)
  go_loopw [6] (DaysRel w h) (fun i _ => 7 - (intOf i).toNat)
  case atStart => exact ⟨0, by omega, rfl, rfl, (G.refl _ _).alloc _⟩
  case round =>
    obtain ⟨k, hk7, rfl, hall, hG⟩ := hrel
    have HA := Lib.hid hall
    clear hall
    by_cases hk : k < 7
    · have hix := index_hr h k hk wr
      have hd : okDay h k = (decide (0 ≤ h (k * 2)) && decide (h (k * 2) ≤ h (k * 2 + 1)) && decide (h (k * 2 + 1) ≤ 1440)) := rfl
      have HD := Lib.hid hd
      clear hd
      by_cases h1 : 0 ≤ h (k * 2)
      · by_cases h2 : h (k * 2) ≤ h (k * 2 + 1)
        · by_cases h3 : h (k * 2 + 1) ≤ 1440
          · have hok : okDay h k = true := by rw [HD.out]; simp [h1, h2, h3]
            have HN := Lib.hid (show (List.range (k + 1)).all (okDay h) = true by rw [range_snoc, HA.out, hok]; rfl)
            clear hok
            go_wp2_with fail
            go_roundw
            case rel => exact ⟨k + 1, by omega, by go_num, HN.out, hG.alloc _⟩
            case measure => simp [intOf]; omega
          · have H := Lib.hid (okHrs_no hk (show okDay h k = false by rw [HD.out]; simp [h3]))
            go_wp2_with fail
            go_ret
            exact ⟨ret_bool H.out.symm, hG.alloc _⟩
        · have H := Lib.hid (okHrs_no hk (show okDay h k = false by rw [HD.out]; simp [h2]))
          go_wp2_with fail
          go_ret
          exact ⟨ret_bool H.out.symm, hG.alloc _⟩
      · have H := Lib.hid (okHrs_no hk (show okDay h k = false by rw [HD.out]; simp [h1]))
        go_wp2_with fail
        go_ret
        exact ⟨ret_bool H.out.symm, hG.alloc _⟩
    · obtain rfl : k = 7 := by omega
      go_wp2_with fail
      go_ret
      exact ⟨ret_bool HA.out.symm, hG⟩

/-! ### CheckStations, StationsFault -/
/-- Go's '<=' of strings. -/
def leB (a b : ByteArray) : Bool := Op.bytesLess a.toList b.toList || a.toList == b.toList
def staErr (before : ByteArray) : List Sta → Int
  | [] => 0
  | p :: r => if keyB p.1 = false then 5 else if leB p.1 before = true then 7 else if okHrs p.2 = false then 1 else staErr p.1 r
def stErr (l : List Sta) : Int := if 50 < l.length then 2 else staErr ⟨#[]⟩ l
theorem stL_at (l : List Sta) (k : Nat) (p : Sta) (hp : l[k]? = some p) : ∀ j v, (stC p.1 p.2).toList[j]? = some v → (stL l)[k * 15 + j]? = some v := by
  induction l generalizing k with
  | nil => simp at hp
  | cons q r ih =>
    intro j v hv
    have hl : (stC q.1 q.2).toList.length = 15 := rfl
    rw [show stL (q :: r) = (stC q.1 q.2).toList ++ stL r from rfl]
    cases k with
    | zero =>
      obtain rfl : q = p := by simpa using hp
      have hj : j < 15 := by rw [← hl]; exact (List.getElem?_eq_some_iff.1 hv).1
      rw [Nat.zero_mul, Nat.zero_add, List.getElem?_append_left (by rw [hl]; exact hj)]
      exact hv
    | succ k =>
      rw [List.getElem?_append_right (by rw [hl]; omega), hl, show (k + 1) * 15 + j - 15 = k * 15 + j by omega]
      exact ih k (by simpa using hp) j v hv
/-- What every key of such a list meets. -/
def KeysOk (l : List Sta) : Prop := ∀ p ∈ l, p.1.size ≤ 9223372036854775807 ∧ HB p.2
def ChkRel (w : World) (l : List Sta) (v i : Value) (wr : World) : Prop :=
  ∃ (k : Nat) (b : ByteArray), k ≤ l.length ∧ i = .int .i64 k ∧ v = .string b ∧ staErr ⟨#[]⟩ l = staErr b (l.drop k) ∧ G w wr none
set_option maxRecDepth 100000 in
set_option maxHeartbeats 2000000 in
theorem checkStations_c (v : Value) (l : List Sta) (w : World) (hr : Rd w 15 v l.length (stL l)) (hl : KeysOk l) (hn : l.length ≤ 1000) :
    Calls Try.prog 21 #[v] w fun e w' => e = .returned (.int .i64 (stErr l)) ∧ G w w' none := by
  obtain ⟨a, cap, rfl, hcap, hm, hlen, hnil, hcell⟩ := hr
  by_cases h50 : 50 < l.length
  · have H := Lib.hid (show stErr l = 2 by simp [stErr, h50])
    go_enter Try.func21, Try.ntmps21
    go_wp2_with fail
    go_ret
    exact ⟨by rw [H.out]; rfl, G.refl _ _⟩
  · have H := Lib.hid (show stErr l = staErr ⟨#[]⟩ l by simp [stErr, h50])
    go_enter Try.func21, Try.ntmps21
    go_wp2_with fail
    go_loopw [3, 11] (ChkRel w l) (fun _ i _ => l.length - (intOf i).toNat)
    case atStart => exact ⟨0, ⟨#[]⟩, by omega, rfl, rfl, rfl, G.refl _ _⟩
    case round =>
      obtain ⟨k, b, hkl, rfl, rfl, heq, hG⟩ := hrel
      have HE := Lib.hid heq
      clear heq
      by_cases hk : k < l.length
      · obtain ⟨p, hp⟩ : ∃ p, l[k]? = some p := ⟨_, List.getElem?_eq_getElem hk⟩
        have hdrop : l.drop k = p :: l.drop (k + 1) := by rw [List.drop_eq_getElem_cons hk, ← (List.getElem?_eq_some_iff.1 hp).2]
        have hpl := hl p (List.mem_of_getElem? hp)
        cases a with
        | none => have := (hnil rfl).1; omega
        | some ad =>
          obtain ⟨bb, bo, bs⟩ := ad
          obtain ⟨e1, e2, e3⟩ := hcell _ rfl
          dsimp only at e1 e2 e3
          subst e1
          have hrow : ∀ j v, (stC p.1 p.2).toList[j]? = some v → wr.cell? ((⟨bb, bo + k * 15, none⟩ : Addr).add j) = some v := by
            intro j v hv
            rw [add_at]
            have h1 := e3 (k * 15 + j) v (stL_at l k p hp j v hv)
            rw [← Nat.add_assoc] at h1
            exact ((gcell hG).1 bb _ e2).trans h1
          have HR := Lib.hid hrow
          clear hrow hcell e3 hnil
          have hs1 := hpl.1
          have HS : Hid (staErr b (l.drop k) = if keyB p.1 = false then 5 else if leB p.1 b = true then 7 else if okHrs p.2 = false then 1 else staErr p.1 (l.drop (k + 1))) := Lib.hid (by rw [hdrop]; rfl)
          clear hdrop
          go_wp2_with (refine wpList_load_at rfl 30 _ rfl ⟨bb, bo + k * 15, none⟩ rfl #[.string p.1, .int .i64 (p.2 0), .int .i64 (p.2 1), .int .i64 (p.2 2), .int .i64 (p.2 3), .int .i64 (p.2 4), .int .i64 (p.2 5), .int .i64 (p.2 6), .int .i64 (p.2 7), .int .i64 (p.2 8), .int .i64 (p.2 9), .int .i64 (p.2 10), .int .i64 (p.2 11), .int .i64 (p.2 12), .int .i64 (p.2 13)] _ HR.out Try.underlying30 rfl (st_info _ _) ?_)
          refine (isKey_c _ _ hs1).mono ?_; rintro e w' ⟨rfl, rfl⟩
          cases hkb : keyB p.1 with
          | false =>
            have HF : Hid (stErr l = 5) := Lib.hid (by rw [H.out, HE.out, HS.out, if_pos hkb])
            clear hkb
            go_wp2_with fail
            go_ret
            exact ⟨by rw [HF.out]; rfl, hG.alloc _⟩
          | true =>
            cases hle : leB p.1 b with
            | true =>
              have HF : Hid (stErr l = 7) := Lib.hid (by rw [H.out, HE.out, HS.out, if_neg (by simp [hkb]), if_pos hle])
              unfold leB at hle
              clear hkb
              go_wp2_with fail
              go_ret
              exact ⟨by rw [HF.out]; rfl, hG.alloc _⟩
            | false =>
              have HL := Lib.hid hle
              have HK := Lib.hid hkb
              unfold leB at hle
              clear hkb
              go_wp2_with fail
              refine (rightHours_c p.2 _).mono ?_; rintro e w2 ⟨rfl, hG2⟩
              have hc0 : w2.cell? ⟨wr.heap.size, 0, none⟩ = some (.string p.1) := ((gcell hG2).1 _ 0 (by simp)).trans ((Bk.new wr 30 #[.string p.1, .int .i64 (p.2 0), .int .i64 (p.2 1), .int .i64 (p.2 2), .int .i64 (p.2 3), .int .i64 (p.2 4), .int .i64 (p.2 5), .int .i64 (p.2 6), .int .i64 (p.2 7), .int .i64 (p.2 8), .int .i64 (p.2 9), .int .i64 (p.2 10), .int .i64 (p.2 11), .int .i64 (p.2 12), .int .i64 (p.2 13)]).cell 0)
              have hG3 := (hG.alloc _).trans hG2
              clear hG2
              cases hok : okHrs p.2 with
              | false =>
                have HF : Hid (stErr l = 1) := Lib.hid (by rw [H.out, HE.out, HS.out, if_neg (by simp [HK.out]), if_neg (by simp [HL.out]), if_pos hok])
                clear hok
                go_wp2_with fail
                go_ret
                exact ⟨by rw [HF.out]; rfl, hG3⟩
              | true =>
                have HF : Hid (staErr ⟨#[]⟩ l = staErr p.1 (l.drop (k + 1))) := Lib.hid (by rw [HE.out, HS.out, if_neg (by simp [HK.out]), if_neg (by simp [HL.out]), if_neg (by simp [hok])])
                clear hok
                go_wp2_with fail
                go_roundw
                case rel => exact ⟨k + 1, p.1, by omega, by go_num, rfl, HF.out, hG3⟩
                case measure => simp [intOf]; omega
      · obtain rfl : k = l.length := by omega
        have HE2 : Hid (stErr l = 0) := Lib.hid (by rw [H.out, HE.out, List.drop_length]; rfl)
        go_wp2_with fail
        go_ret
        exact ⟨by rw [HE2.out]; rfl, hG⟩
end Go.Proofs.Ytbddcbbjmgepnaa

/- The reference's StationsFault; one station alone. -/
namespace Go.Proofs.Ytbddcbbjmgepnaa
open Go.RowKit

end Go.Proofs.Ytbddcbbjmgepnaa

/- One station: hoursOn, overlap, checkMoment, checkStationAt, IsOpen, NextOpen, OpenMinutes. -/
namespace Go.Proofs.Ytbddcbbjmgepnaa
open Go.RowKit

/-- When a station opens and closes on a day, as moments. -/
def dFrom (h : Nat → Int) (d : Nat) : Int := (d : Int) * 1440 + h (d % 7 * 2)
def dTo (h : Nat → Int) (d : Nat) : Int := (d : Int) * 1440 + h (d % 7 * 2 + 1)
theorem stC_pair (r : ByteArray) (h : Nat → Int) {w : World} {g : Nat} (hb : Bk w g 30 (stC r h)) (i : Nat) (hi : i < 7) :
    ∀ j v, (#[Value.int .i64 (h (i * 2)), .int .i64 (h (i * 2 + 1))] : Array Value).toList[j]? = some v → w.cell? ((⟨g, 1 + i * 2, none⟩ : Addr).add j) = some v := by
  intro j v hv
  rw [add_at, hb.cell]
  match j with
  | 0 =>
    obtain rfl : Value.int .i64 (h (i * 2)) = v := by simpa using hv
    exact stC_get r h (i * 2) (by omega)
  | 1 =>
    obtain rfl : Value.int .i64 (h (i * 2 + 1)) = v := by simpa using hv
    exact stC_get r h (i * 2 + 1) (by omega)
  | j + 2 => simp at hv
set_option maxRecDepth 100000 in
set_option maxHeartbeats 1000000 in
theorem hoursOn_c (r : ByteArray) (h : Nat → Int) (d : Nat) (w : World) (hb : HB h) (hd : d ≤ 10000) :
    Calls Try.prog 24 #[.agg (stC r h), .int .i64 (d : Int)] w fun e w' => e = .returned (.agg #[.int .i64 (dFrom h d), .int .i64 (dTo h d)]) ∧ G w w' none := by
  have b1 := hb (d % 7 * 2)
  have b2 := hb (d % 7 * 2 + 1)
  obtain ⟨b11, b12⟩ := b1
  obtain ⟨b21, b22⟩ := b2
  have HP := Lib.hid (stC_pair r h ((Bk.new w 30 (stC r h)).alloc (.cells #[.int .i64 0, .int .i64 0] 27)) (d % 7) (Nat.mod_lt _ (by omega)))
  go_enter Try.func24, Try.ntmps24
  go_wp2_with (refine wpList_load_at rfl 27 _ rfl ⟨w.heap.size, 1 + d % 7 * 2, none⟩ rfl #[.int .i64 (h (d % 7 * 2)), .int .i64 (h (d % 7 * 2 + 1))] _ HP.out Try.underlying27 rfl (wn_info _ _) ?_)
  exact bodyPost_ret (v := .agg #[.int .i64 (dFrom h d), .int .i64 (dTo h d)]) (by simp [results, Try.results24, go_sem, dFrom, dTo]) rfl ⟨rfl, (((G.refl _ _).alloc _).alloc _).alloc _⟩

theorem ret_int {k : IntKind} {a b : Int} (h : a = b) : Ending.returned (.int k a) = .returned (.int k b) := by rw [h]
/-- How many moments two windows share. -/
def ovl (a b c d : Int) : Int := max 0 (min b d - max a c)
def small (x : Int) : Prop := -1099600000000 ≤ x ∧ x ≤ 1099600000000
set_option maxRecDepth 100000 in
set_option maxHeartbeats 1000000 in
theorem overlap_c (a b c d : Int) (w : World) (ha : small a) (hb : small b) (hc : small c) (hd : small d) :
    Calls Try.prog 23 #[.agg #[.int .i64 a, .int .i64 b], .agg #[.int .i64 c, .int .i64 d]] w fun e w' => e = .returned (.int .i64 (ovl a b c d)) ∧ G w w' none := by
  obtain ⟨a1, a2⟩ := ha
  obtain ⟨b1, b2⟩ := hb
  obtain ⟨c1, c2⟩ := hc
  obtain ⟨d1, d2⟩ := hd
  have H : Hid (ovl a b c d = max 0 (min b d - max a c)) := Lib.hid rfl
  go_enter Try.func23, Try.ntmps23
  go_wp2_with fail
  all_goals
    go_ret
    exact ⟨ret_int (by have h9 := H.out; omega), ((G.refl _ _).alloc _).alloc _⟩

/-! ### Moments, windows -/
def momB (t : Int) : Bool := decide (0 ≤ t) && decide (t < 5761440)
def momE (t : Int) : Int := if momB t = true then 0 else 1
theorem isMoment_c (t : Int) (w : World) : Calls Try.prog 66 #[.int .i64 t] w fun e w' => e = .returned (.bool (momB t)) ∧ w = w' := by
  by_cases h1 : 0 ≤ t <;> by_cases h2 : t < 5761440
  all_goals
    have h3 : momB t = (decide (0 ≤ t) && decide (t < 5761440)) := rfl
    simp only [h1, h2, decide_true, decide_false, Bool.and_true, Bool.and_false] at h3
    have H := Lib.hid h3
    clear h3
    go_enter Try.func66, Try.ntmps66
    go_wp2_with fail
    go_ret
    exact ⟨ret_bool H.out.symm, rfl⟩
theorem checkMoment_c (t : Int) (w : World) : Calls Try.prog 54 #[.int .i64 t] w fun e w' => e = .returned (.int .i64 (momE t)) ∧ w = w' := by
  go_enter Try.func54, Try.ntmps54
  go_wp2_with fail
  refine (isMoment_c _ _).mono ?_; rintro e w' ⟨rfl, rfl⟩
  cases hm : momB t with
  | true =>
    have H : Hid (momE t = 0) := Lib.hid (by simp [momE, hm])
    clear hm
    go_wp2_with fail
    go_ret
    exact ⟨ret_int H.out.symm, rfl⟩
  | false =>
    have H : Hid (momE t = 1) := Lib.hid (by simp [momE, hm])
    clear hm
    go_wp2_with fail
    go_ret
    exact ⟨ret_int H.out.symm, rfl⟩
def winB (a b : Int) : Bool := decide (0 ≤ a) && decide (a ≤ b) && decide (b ≤ 5761440)
def winE (a b : Int) : Int := if winB a b = true then 0 else 1
theorem isWindow_c (a b : Int) (w : World) : Calls Try.prog 22 #[.agg #[.int .i64 a, .int .i64 b]] w fun e w' => e = .returned (.bool (winB a b)) ∧ G w w' none := by
  have h3 : winB a b = (decide (0 ≤ a) && decide (a ≤ b) && decide (b ≤ 5761440)) := rfl
  by_cases h1 : 0 ≤ a
  · by_cases h2 : a ≤ b
    · by_cases h4 : b ≤ 5761440
      · have H : Hid (winB a b = true) := Lib.hid (by simp [h3, h1, h2, h4])
        clear h3
        go_enter Try.func22, Try.ntmps22
        go_wp2_with fail
        go_ret
        exact ⟨ret_bool H.out.symm, (G.refl _ _).alloc _⟩
      · have H : Hid (winB a b = false) := Lib.hid (by simp [h3, h1, h2, h4])
        clear h3
        go_enter Try.func22, Try.ntmps22
        go_wp2_with fail
        go_ret
        exact ⟨ret_bool H.out.symm, (G.refl _ _).alloc _⟩
    · have H : Hid (winB a b = false) := Lib.hid (by simp [h3, h1, h2])
      clear h3
      go_enter Try.func22, Try.ntmps22
      go_wp2_with fail
      go_ret
      exact ⟨ret_bool H.out.symm, (G.refl _ _).alloc _⟩
  · have H : Hid (winB a b = false) := Lib.hid (by simp [h3, h1])
    clear h3
    go_enter Try.func22, Try.ntmps22
    go_wp2_with fail
    go_ret
    exact ⟨ret_bool H.out.symm, (G.refl _ _).alloc _⟩
end Go.Proofs.Ytbddcbbjmgepnaa

/- basic.Has: is a moment in a window. -/
namespace Go.Proofs.Ytbddcbbjmgepnaa
open Go.RowKit

def hasB (x y t : Int) : Bool := decide (x ≤ t) && decide (t < y)
set_option maxRecDepth 100000 in
theorem has_c (x y t : Int) (w : World) :
    Calls Try.prog 28 #[.agg #[.int .i64 x, .int .i64 y], .int .i64 t] w fun e w' => e = .returned (.bool (hasB x y t)) ∧ G w w' none := by
  obtain ⟨r, hr⟩ : ∃ r, hasB x y t = r := ⟨_, rfl⟩
  have HR := Lib.hid hr
  rw [hr]
  clear hr
  by_cases h1 : x ≤ t
  · by_cases h2 : t < y
    · have HF : Hid (r = true) := Lib.hid (by rw [← HR.out]; simp [hasB, h1, h2])
      go_enter Try.func28, Try.ntmps28
      go_wp2_with fail
      go_ret
      exact ⟨by rw [HF.out]; rfl, (G.refl _ _).alloc _⟩
    · have HF : Hid (r = false) := Lib.hid (by rw [← HR.out]; simp [hasB, h2])
      go_enter Try.func28, Try.ntmps28
      go_wp2_with fail
      go_ret
      exact ⟨by rw [HF.out]; rfl, (G.refl _ _).alloc _⟩
  · have HF : Hid (r = false) := Lib.hid (by rw [← HR.out]; simp [hasB, h1])
    go_enter Try.func28, Try.ntmps28
    go_wp2_with fail
    go_ret
    exact ⟨by rw [HF.out]; rfl, (G.refl _ _).alloc _⟩
end Go.Proofs.Ytbddcbbjmgepnaa

/- checkStationAt, IsOpen, NextOpen; OpenAt, NextOpenOf. -/
namespace Go.Proofs.Ytbddcbbjmgepnaa
open Go.RowKit

/-- The error of one station and a moment. -/
def atE (r : ByteArray) (h : Nat → Int) (t : Int) : Int := if stErr [(r, h)] = 0 then momE t else stErr [(r, h)]
theorem rd_one {w : World} {b : Nat} (r : ByteArray) (h : Nat → Int) (hb : w.heap.size = b) : Rd (w.alloc (.cells (stC r h) 30)) 15 (.slice (some ⟨b, 0, none⟩) 1 1) [(r, h)].length (stL [(r, h)]) := by
  have := Rd.newAt (w := w) (z := 15) (n := 1) (T := 30) (stC r h) hb rfl (by decide)
  rw [show stL [(r, h)] = (stC r h).toList from by simp [stL]]
  exact this
theorem staErr_le (b : ByteArray) (l : List Sta) : 0 ≤ staErr b l ∧ staErr b l ≤ 10 := by
  induction l generalizing b with
  | nil => simp [staErr]
  | cons p r ih =>
    unfold staErr
    split
    · omega
    · split
      · omega
      · split
        · omega
        · exact ih _
set_option maxRecDepth 100000 in
set_option maxHeartbeats 1000000 in
theorem checkStationAt_c (r : ByteArray) (h : Nat → Int) (t : Int) (w : World) (hr : r.size ≤ 9223372036854775807) (hb : HB h) :
    Calls Try.prog 27 #[.agg (stC r h), .int .i64 t] w fun e w' => e = .returned (.int .i64 (atE r h t)) ∧ G w w' none := by
  have hk : KeysOk [(r, h)] := by intro p hp; obtain rfl := List.mem_singleton.1 hp; exact ⟨hr, hb⟩
  have HB1 := Lib.hid ((Bk.new w 30 (stC r h)).at_)
  go_enter Try.func27, Try.ntmps27
  go_wp2_with (refine wpList_load_at rfl 30 _ rfl ⟨w.heap.size, 0, none⟩ rfl #[.string r, .int .i64 (h 0), .int .i64 (h 1), .int .i64 (h 2), .int .i64 (h 3), .int .i64 (h 4), .int .i64 (h 5), .int .i64 (h 6), .int .i64 (h 7), .int .i64 (h 8), .int .i64 (h 9), .int .i64 (h 10), .int .i64 (h 11), .int .i64 (h 12), .int .i64 (h 13)] _ HB1.out Try.underlying30 rfl (st_info _ _) ?_)
  refine (checkStations_c _ [(r, h)] _ (rd_one r h (by simp)) hk (by simp)).mono ?_; rintro e w1 ⟨rfl, hG1⟩
  have hG : G w w1 none := (((G.refl w none).alloc _).alloc _).trans hG1
  clear hG1
  by_cases h0 : stErr [(r, h)] = 0
  · have H : Hid (atE r h t = momE t) := Lib.hid (by simp [atE, h0])
    rw [h0]
    clear h0
    go_wp2_with fail
    refine (checkMoment_c _ _).mono ?_; rintro e w' ⟨rfl, rfl⟩
    go_wp2_with fail
    go_ret
    exact ⟨ret_int H.out.symm, hG⟩
  · have H : Hid (atE r h t = stErr [(r, h)]) := Lib.hid (by simp [atE, h0])
    have h1 : (stErr [(r, h)] != 0) = true := by rw [bne_iff_ne]; exact h0
    clear h0
    go_wp2_with fail
    go_ret
    exact ⟨ret_int H.out.symm, hG⟩

/-- Whether it is open at a moment. -/
def opB (h : Nat → Int) (t : Nat) : Bool := decide (dFrom h (t / 1440) ≤ (t : Int)) && decide ((t : Int) < dTo h (t / 1440))
theorem atE_mom {r : ByteArray} {h : Nat → Int} {t : Int} (h0 : atE r h t = 0) : 0 ≤ t ∧ t < 5761440 ∧ stErr [(r, h)] = 0 := by
  unfold atE at h0
  split at h0
  · rename_i hs
    unfold momE at h0
    split at h0
    · rename_i hm
      simp only [momB, Bool.and_eq_true, decide_eq_true_eq] at hm
      exact ⟨hm.1, hm.2, hs⟩
    · omega
  · exact absurd h0 (by assumption)
theorem okHrs_of {r : ByteArray} {h : Nat → Int} (h0 : stErr [(r, h)] = 0) : okHrs h = true := by
  simp only [stErr, staErr, List.length_singleton, show ¬ 50 < 1 by omega, if_false] at h0
  split at h0
  · omega
  · split at h0
    · omega
    · split at h0
      · omega
      · rename_i hx
        simpa using hx
theorem okDay_of {h : Nat → Int} (hh : okHrs h = true) (d : Nat) : 0 ≤ h (d % 7 * 2) ∧ h (d % 7 * 2) ≤ h (d % 7 * 2 + 1) ∧ h (d % 7 * 2 + 1) ≤ 1440 := by
  have := List.all_eq_true.1 hh (d % 7) (List.mem_range.2 (Nat.mod_lt _ (by omega)))
  simp only [okDay, inB, Bool.and_eq_true, decide_eq_true_eq] at this
  exact ⟨this.1.1, this.1.2, this.2⟩
def isOpenR (r : ByteArray) (h : Nat → Int) (t : Int) : Bool := if atE r h t = 0 then opB h t.toNat else false
set_option maxRecDepth 100000 in
set_option maxHeartbeats 1000000 in
theorem isOpen_c (r : ByteArray) (h : Nat → Int) (t : Int) (w : World) (hr : r.size ≤ 9223372036854775807) (hb : HB h) :
    Calls Try.prog 10 #[.agg (stC r h), .int .i64 t] w fun e w' => e = .returned (.tuple #[.bool (isOpenR r h t), .int .i64 (atE r h t)]) ∧ G w w' none := by
  by_cases h0 : atE r h t = 0
  · obtain ⟨t0, t1, _⟩ := atE_mom h0
    obtain ⟨t, rfl⟩ := Int.eq_ofNat_of_zero_le t0
    have H : Hid (isOpenR r h (t : Int) = opB h t) := Lib.hid (by simp [isOpenR, h0])
    have HZ := Lib.hid h0
    have HO : Hid (opB h t = (decide (dFrom h (t / 1440) ≤ (t : Int)) && decide ((t : Int) < dTo h (t / 1440)))) := Lib.hid rfl
    clear h0
    go_enter Try.func10, Try.ntmps10
    go_wp2_with (refine wpList_load_row rfl 30 _ rfl w.heap.size rfl 30 (stC r h) (0, 0) _ (Bk.new w _ _) Try.underlying30 rfl (st_info _ _) ?_)
    refine (checkStationAt_c r h _ _ hr hb).mono ?_; rintro e w1 ⟨rfl, hG1⟩
    rw [HZ.out]
    have hB1 := (Bk.new w 30 (stC r h)).quiet hG1
    have hG : G w w1 none := ((G.refl w none).alloc _).trans hG1
    clear hG1
    go_wp2_with (refine wpList_load_row rfl 30 _ rfl w.heap.size rfl 30 (stC r h) (0, 0) _ hB1 Try.underlying30 rfl (st_info _ _) ?_)
    rw [show ((t : Int) / 1440) = ((t / 1440 : Nat) : Int) by omega]
    refine (hoursOn_c r h (t / 1440) _ hb (by omega)).mono ?_; rintro e w2 ⟨rfl, hG2⟩
    have hG3 := hG.trans hG2
    clear hG hG2 hB1
    have HF : Hid (Ending.returned (.tuple #[.bool (isOpenR r h (t : Int)), .int .i64 (atE r h (t : Int))]) = .returned (.tuple #[.bool (decide (dFrom h (t / 1440) ≤ (t : Int)) && decide ((t : Int) < dTo h (t / 1440))), .int .i64 0])) := Lib.hid (by rw [H.out, HO.out, HZ.out])
    clear HO H HZ
    generalize dFrom h (t / 1440) = x at HF ⊢
    generalize dTo h (t / 1440) = z at HF ⊢
    go_wp2_with fail
    refine (has_c x z t _).mono ?_; rintro e w3 ⟨rfl, hG4⟩
    go_wp2_with fail
    go_ret2
    exact ⟨HF.out.symm, hG3.trans hG4⟩
  · have H : Hid (isOpenR r h t = false) := Lib.hid (by simp [isOpenR, h0])
    have h1 : (atE r h t != 0) = true := by rw [bne_iff_ne]; exact h0
    clear h0
    go_enter Try.func10, Try.ntmps10
    go_wp2_with (refine wpList_load_row rfl 30 _ rfl w.heap.size rfl 30 (stC r h) (0, 0) _ (Bk.new w _ _) Try.underlying30 rfl (st_info _ _) ?_)
    refine (checkStationAt_c r h _ _ hr hb).mono ?_; rintro e w1 ⟨rfl, hG1⟩
    go_wp2_with fail
    go_ret2
    exact ⟨by rw [H.out]; rfl, ((G.refl w none).alloc _).trans hG1⟩
end Go.Proofs.Ytbddcbbjmgepnaa

/- NextOpen; OpenAt, NextOpenOf. -/
namespace Go.Proofs.Ytbddcbbjmgepnaa
open Go.RowKit

/-- The first of so many days at which something is so. -/
def find (c : Nat → Bool) (v : Nat → Int) : Nat → Nat → Option Int
  | 0, _ => none
  | n + 1, d => if c d = true then some (v d) else find c v n (d + 1)
def cC (h : Nat → Int) (t : Nat) (d : Nat) : Bool := decide (max (t : Int) (dFrom h d) < dTo h d)
def vC (h : Nat → Int) (t : Nat) (d : Nat) : Int := max (t : Int) (dFrom h d)
def kC (t : Nat) : Nat := min 7 (4000 - t / 1440) + 1
def nextO (h : Nat → Int) (t : Nat) : Option Int := find (cC h t) (vC h t) (kC t) (t / 1440)
/-- What NextOpen returns. -/
def nextR (r : ByteArray) (h : Nat → Int) (t : Int) : Int × Int :=
  if atE r h t = 0 then (match nextO h t.toNat with | some n => (n, 0) | none => (0, 8)) else (0, atE r h t)
theorem dFrom_bd {h : Nat → Int} (hb : HB h) (d : Nat) : (d : Int) * 1440 - 1099511627776 ≤ dFrom h d ∧ dFrom h d ≤ (d : Int) * 1440 + 1099511627776 := by
  have := hb (d % 7 * 2); unfold dFrom; omega
theorem dTo_bd {h : Nat → Int} (hb : HB h) (d : Nat) : (d : Int) * 1440 - 1099511627776 ≤ dTo h d ∧ dTo h d ≤ (d : Int) * 1440 + 1099511627776 := by
  have := hb (d % 7 * 2 + 1); unfold dTo; omega
def NextRel (w : World) (r : ByteArray) (h : Nat → Int) (t d0 : Nat) (i : Value) (wr : World) : Prop :=
  ∃ k : Nat, k ≤ kC t ∧ i = .int .i64 ((d0 : Int) + (k : Int)) ∧ nextO h t = find (cC h t) (vC h t) (kC t - k) (d0 + k) ∧ G w wr none ∧ Bk wr w.heap.size 30 (stC r h)
set_option maxRecDepth 100000 in
set_option maxHeartbeats 2000000 in
theorem nextOpen_c (r : ByteArray) (h : Nat → Int) (t : Int) (w : World) (hr : r.size ≤ 9223372036854775807) (hb : HB h) :
    Calls Try.prog 9 #[.agg (stC r h), .int .i64 t] w fun e w' => e = .returned (.tuple #[.int .i64 (nextR r h t).1, .int .i64 (nextR r h t).2]) ∧ G w w' none := by
  by_cases h0 : atE r h t = 0
  · obtain ⟨t0, t1, _⟩ := atE_mom h0
    obtain ⟨t, rfl⟩ := Int.eq_ofNat_of_zero_le t0
    have HZ := Lib.hid h0
    have HS : Hid (∀ o, nextO h t = o → nextR r h (t : Int) = (match o with | some n => (n, 0) | none => (0, 8))) := Lib.hid (by intro o ho; subst ho; simp [nextR, h0])
    clear h0
    obtain ⟨d0, hd0⟩ : ∃ d0 : Nat, t / 1440 = d0 := ⟨_, rfl⟩
    have HD := Lib.hid hd0
    have hdq : (t : Int) / 1440 = (d0 : Int) := by omega
    have hk9 : d0 ≤ 4000 := by omega
    clear hd0 t1
    go_enter Try.func9, Try.ntmps9
    go_wp2_with (refine wpList_load_row rfl 30 _ rfl w.heap.size rfl 30 (stC r h) (0, 0) _ (Bk.new w _ _) Try.underlying30 rfl (st_info _ _) ?_)
    refine (checkStationAt_c r h _ _ hr hb).mono ?_; rintro e w1 ⟨rfl, hG1⟩
    rw [HZ.out]
    have hB1 := (Bk.new w 30 (stC r h)).quiet hG1
    have hG : G w w1 none := ((G.refl w none).alloc _).trans hG1
    clear hG1
    go_wp2_with fail
    go_loopw [8] (NextRel w r h t d0) (fun i _ => (4010 - (intOf i)).toNat)
    case atStart => exact ⟨0, by omega, congrArg (Value.int .i64) (by omega), by rw [← HD.out]; rfl, hG, hB1⟩
    case round =>
      obtain ⟨k, hk, rfl, heq, hG2, hB2⟩ := hrel
      have hkC : kC t = min 7 (4000 - d0) + 1 := by rw [← HD.out]; rfl
      have HE := Lib.hid heq
      clear heq hG hB1
      by_cases hlt : k < kC t
      · have hk7 : k ≤ 7 := by omega
        have hk8 : d0 + k ≤ 4000 := by omega
        have HF : Hid (nextO h t = if cC h t (d0 + k) = true then some (vC h t (d0 + k)) else find (cC h t) (vC h t) (kC t - (k + 1)) (d0 + (k + 1))) := Lib.hid (by rw [HE.out, show kC t - k = (kC t - (k + 1)) + 1 by omega]; rfl)
        have HL : Hid (k + 1 ≤ kC t) := Lib.hid (by omega)
        clear hkC hlt hk
        go_wp2_with (refine wpList_load_row rfl 30 _ rfl w.heap.size rfl 30 (stC r h) (0, 0) _ hB2 Try.underlying30 rfl (st_info _ _) ?_)
        rw [show (d0 : Int) + (k : Int) = ((d0 + k : Nat) : Int) by omega]
        refine (hoursOn_c r h (d0 + k) _ hb (by omega)).mono ?_; rintro e w2 ⟨rfl, hG3⟩
        have hG4 := hG2.trans hG3
        have hB4 := hB2.quiet hG3
        have hV : vC h t (d0 + k) = max (t : Int) (dFrom h (d0 + k)) := rfl
        have hC : cC h t (d0 + k) = decide (max (t : Int) (dFrom h (d0 + k)) < dTo h (d0 + k)) := rfl
        clear hG2 hG3 hB2
        by_cases hc : max (t : Int) (dFrom h (d0 + k)) < dTo h (d0 + k)
        · have HN : Hid (nextR r h (t : Int) = (max (t : Int) (dFrom h (d0 + k)), 0)) := Lib.hid (by rw [HS.out _ HF.out, hC, hV]; simp [hc])
          have HC := Lib.hid hc
          clear hV hC hc HF HS
          generalize dFrom h (d0 + k) = x at HN HC ⊢
          generalize dTo h (d0 + k) = z at HN HC ⊢
          have hc1 : max (t : Int) x < z := HC.out
          clear hc1
          have hc1 : max (t : Int) x < z := HC.out
          go_wp2_with fail
          go_ret2
          exact ⟨by rw [HN.out]; rfl, hG4.alloc _⟩
        · have HN : Hid (nextO h t = find (cC h t) (vC h t) (kC t - (k + 1)) (d0 + (k + 1))) := Lib.hid (by rw [HF.out, hC]; simp [hc])
          have hz : dTo h (d0 + k) ≤ max (t : Int) (dFrom h (d0 + k)) := by omega
          clear hV hC hc HF HS
          generalize dFrom h (d0 + k) = x at hz ⊢
          generalize dTo h (d0 + k) = z at hz ⊢
          go_wp2_with fail
          refine ⟨⟨k + 1, HL.out, congrArg (Value.int .i64) (by omega), HN.out, hG4.alloc _, hB4.alloc _⟩, ?_⟩
          simp only [intOf]
          omega
      · obtain rfl : k = kC t := by omega
        have HN : Hid (nextR r h (t : Int) = (0, 8)) := Lib.hid (by rw [HS.out none (HE.out.trans (by rw [Nat.sub_self]; rfl))])
        have hk2 : d0 + kC t = min (d0 + 7) 4000 + 1 := by omega
        have hgt : min ((d0 : Int) + 7) 4000 < (d0 : Int) + (kC t : Int) := by omega
        have hsm : (kC t : Int) ≤ 8 := by omega
        clear hkC hk hk2 hlt
        generalize kC t = q at hgt hsm ⊢
        go_wp2_with fail
        go_ret2
        exact ⟨by rw [HN.out]; rfl, hG2⟩
  · have H : Hid (nextR r h t = (0, atE r h t)) := Lib.hid (by simp [nextR, h0])
    have h1 : (atE r h t != 0) = true := by rw [bne_iff_ne]; exact h0
    clear h0
    go_enter Try.func9, Try.ntmps9
    go_wp2_with (refine wpList_load_row rfl 30 _ rfl w.heap.size rfl 30 (stC r h) (0, 0) _ (Bk.new w _ _) Try.underlying30 rfl (st_info _ _) ?_)
    refine (checkStationAt_c r h _ _ hr hb).mono ?_; rintro e w1 ⟨rfl, hG1⟩
    go_wp2_with fail
    go_ret2
    exact ⟨by rw [H.out]; rfl, ((G.refl w none).alloc _).trans hG1⟩

/-! ### The reference's -/
end Go.Proofs.Ytbddcbbjmgepnaa

/- NextOpenOf, OpenMinutes, OpenIn. -/
namespace Go.Proofs.Ytbddcbbjmgepnaa
open Go.RowKit

def cR (h : Nat → Int) (t : Nat) (d : Nat) : Bool := decide ((t : Int) < dFrom h d) && decide (dFrom h d < 5761440) && decide (h (d % 7 * 2) < h (d % 7 * 2 + 1))
def refO (h : Nat → Int) (t : Nat) : Option Int := if opB h t = true then some (t : Int) else find (cR h t) (dFrom h) 8 (t / 1440)
theorem find_congr {c c' : Nat → Bool} {v v' : Nat → Int} (n : Nat) : ∀ d, (∀ i, i < n → c (d + i) = c' (d + i) ∧ (c' (d + i) = true → v (d + i) = v' (d + i))) → find c v n d = find c' v' n d := by
  induction n with
  | zero => intro d _; rfl
  | succ n ih =>
    intro d hd
    obtain ⟨h1, h2⟩ := hd 0 (by omega)
    have h3 := ih (d + 1) (fun i hi => by have := hd (i + 1) (by omega); rw [show d + 1 + i = d + (i + 1) by omega]; exact this)
    simp only [Nat.add_zero] at h1 h2
    unfold find
    rw [h1, h3]
    by_cases hc : c' d = true
    · rw [if_pos hc, if_pos hc, h2 hc]
    · rw [if_neg hc, if_neg hc]
theorem find_more {c : Nat → Bool} {v : Nat → Int} (n m : Nat) : ∀ d, (∀ i, n ≤ i → i < n + m → c (d + i) = false) → find c v (n + m) d = find c v n d := by
  induction n with
  | zero =>
    induction m with
    | zero => intro d _; rfl
    | succ m ihm =>
      intro d hd
      have h0 := hd 0 (by omega) (by omega)
      simp only [Nat.add_zero] at h0
      rw [show 0 + (m + 1) = (0 + m) + 1 by omega]
      unfold find
      rw [if_neg (by simp [h0]), ihm (d + 1) (fun i _ hi => by have := hd (i + 1) (by omega) (by omega); rw [show d + 1 + i = d + (i + 1) by omega]; exact this)]
      rfl
  | succ n ih =>
    intro d hd
    rw [show n + 1 + m = (n + m) + 1 by omega]
    unfold find
    rw [ih (d + 1) (fun i h1 h2 => by have := hd (i + 1) (by omega) (by omega); rw [show d + 1 + i = d + (i + 1) by omega]; exact this)]
theorem nextO_ref (h : Nat → Int) (t : Nat) (hh : okHrs h = true) (ht : t < 5761440) : nextO h t = refO h t := by
  have hK : kC t = min 7 (4000 - t / 1440) + 1 := rfl
  unfold nextO refO
  by_cases ho : opB h t = true
  · rw [if_pos ho]
    simp only [opB, Bool.and_eq_true, decide_eq_true_eq] at ho
    rw [hK]
    unfold find
    rw [if_pos (by unfold cC; exact decide_eq_true (by omega))]
    unfold vC
    congr 1
    omega
  · rw [if_neg ho]
    have hno : ¬ (dFrom h (t / 1440) ≤ (t : Int) ∧ (t : Int) < dTo h (t / 1440)) := by
      intro hc; apply ho; simp [opB, hc.1, hc.2]
    obtain ⟨m, hm⟩ : ∃ m, 8 = kC t + m := ⟨8 - kC t, by omega⟩
    rw [hm, find_more (kC t) m (t / 1440) (fun i h1 h2 => ?_)]
    · refine find_congr _ _ fun i hi => ?_
      have hd := okDay_of hh (t / 1440 + i)
      have hF : dFrom h (t / 1440 + i) = ((t / 1440 + i : Nat) : Int) * 1440 + h ((t / 1440 + i) % 7 * 2) := rfl
      have hT : dTo h (t / 1440 + i) = ((t / 1440 + i : Nat) : Int) * 1440 + h ((t / 1440 + i) % 7 * 2 + 1) := rfl
      have hle : t / 1440 + i ≤ 4000 := by omega
      have hno' : i = 0 → ¬ (dFrom h (t / 1440 + i) ≤ (t : Int) ∧ (t : Int) < dTo h (t / 1440 + i)) := by
        intro h0; subst h0; exact hno
      unfold cC cR vC
      generalize h ((t / 1440 + i) % 7 * 2) = x at hd hF ⊢
      generalize h ((t / 1440 + i) % 7 * 2 + 1) = y at hd hT ⊢
      generalize dFrom h (t / 1440 + i) = F at hF hno' ⊢
      generalize dTo h (t / 1440 + i) = T at hT hno' ⊢
      have hiff : (max (t : Int) F < T) ↔ ((t : Int) < F ∧ F < 5761440 ∧ x < y) := by
        rcases Nat.eq_zero_or_pos i with h0 | h0
        · have := hno' h0; omega
        · omega
      constructor
      · rw [Bool.eq_iff_iff]
        simp only [decide_eq_true_eq, Bool.and_eq_true]
        omega
      · simp only [decide_eq_true_eq, Bool.and_eq_true]
        omega
    · have hd := okDay_of hh (t / 1440 + i)
      have hF : dFrom h (t / 1440 + i) = ((t / 1440 + i : Nat) : Int) * 1440 + h ((t / 1440 + i) % 7 * 2) := rfl
      have hge : 4001 ≤ t / 1440 + i := by omega
      unfold cR
      have : ¬ dFrom h (t / 1440 + i) < 5761440 := by omega
      simp [this]
end Go.Proofs.Ytbddcbbjmgepnaa

/- Regions that draw their order and whose calls make memory: one walk in the order of the text, over the class of the worlds in which nothing old has turned. No program. -/
namespace Go.Proofs.Ytbddcbbjmgepnaa
open Go.RowKit
section
variable {P : Program} {o : Oper} {a : Act} {C : World → Prop} {K : Act → Prop}
theorem quiet_value (v : Value) (hv : ∀ w, C w → (execOp a.eval o).run P w = .ok (.value v) w) (hK : K (a.put o.dst v)) : o.quiet P a C K :=
  ⟨v, fun w hw => by unfold Oper.quietAt; rw [hv w hw]; exact ⟨rfl, rfl⟩, hK⟩
theorem quiet_call (f : FuncId) (args : Array Value) (v : Value) (hrun : ∀ w, (execOp a.eval o).run P w = .ok (.enter f args) w) (hc : ∀ w, C w → Calls P f args w fun e w' => e = .returned v ∧ C w') (hK : K (a.put o.dst v)) : o.quiet P a C K :=
  ⟨v, fun w hw => by unfold Oper.quietAt; rw [hrun w]; exact ⟨rfl, hc w hw⟩, hK⟩
theorem quiet_load_row (ty : TypeId) (x : Operand) (ho : o.op = .load ty x) (g : Nat) (hx : a.eval x = .pointer (some ⟨g, 0, none⟩)) (t : TypeId) (cs : Array Value) (d : TypeDesc) (hg : ∀ w, C w → Bk w g t cs)
    (hu : P.underlying ty = some d) (hd : (match d with | .struct _ | .array _ _ => true | _ => false) = true) (hi : (P.info? ty).map (·.size) = some cs.size) (hK : K (a.put o.dst (.agg cs))) : o.quiet P a C K :=
  quiet_value _ (fun w hw => by
    unfold execOp
    simp only [ho, hx, Instr.loadAt, Instr.sureAddr, Sem.run_bind, Sem.run_pure, Result.andThen_ok, run_loadVar_row w g t ty cs (0, 0) d (hg w hw) hu hd hi]) hK
theorem G.callNone {A w : World} {f : FuncId} {args : Array Value} {v : Value} (hG : G A w none) (h : Calls P f args w fun e w' => e = .returned v ∧ G w w' none) : Calls P f args w fun e w' => e = .returned v ∧ G A w' none :=
  h.mono fun _ _ ⟨he, hg⟩ => ⟨he, hG.trans hg⟩
theorem wpQuiet_op {ops : Array Oper} {Q : Act → Prop} {rest : List Oper} (hg : o.guard = none) (h : ∀ K : Act → Prop, (∀ a, wpQuiet P ops C Q rest a → K a) → o.quiet P a C K) : wpQuiet P ops C Q (o :: rest) a :=
  wpQuiet_step fun K hK => by
    rw [if_pos (by simp [Region.wanted, hg])]
    exact h K hK
end
end Go.Proofs.Ytbddcbbjmgepnaa

/- The walks of NextOpenOf, OpenIn, OpenMinutes. -/
namespace Go.Proofs.Ytbddcbbjmgepnaa
open Go.RowKit

/-- What the reference's NextOpenOf returns. -/
def nofV (o : Option Int) : Value := match o with | some n => .tuple #[.int .i64 n, .bool true] | none => .tuple #[.int .i64 0, .bool false]
def NofRel (w : World) (r : ByteArray) (h : Nat → Int) (t d0 : Nat) (o : Option Int) (i : Value) (wr : World) : Prop :=
  ∃ k : Nat, k ≤ 8 ∧ i = .int .i64 ((d0 : Int) + (k : Int)) ∧ o = find (cR h t) (dFrom h) (8 - k) (d0 + k) ∧ G w wr none ∧ Bk wr w.heap.size 30 (stC r h)
/-! ### The minutes of a window -/
/-- How many moments it is open in the first so many days of a window. -/
def accD (h : Nat → Int) (a b : Int) (d0 : Nat) : Nat → Int
  | 0 => 0
  | k + 1 => accD h a b d0 k + ovl (dFrom h (d0 + k)) (dTo h (d0 + k)) a b
def nD (a b : Nat) : Nat := (b + 1439) / 1440 - a / 1440
def openIn (h : Nat → Int) (a b : Nat) : Int := accD h a b (a / 1440) (nD a b)
theorem accD_bd (h : Nat → Int) (a b : Nat) (d0 k : Nat) (hab : a ≤ b) : 0 ≤ accD h a b d0 k ∧ accD h a b d0 k ≤ (k : Int) * ((b : Int) - (a : Int)) := by
  induction k with
  | zero => simp [accD]
  | succ k ih =>
    have h1 : 0 ≤ ovl (dFrom h (d0 + k)) (dTo h (d0 + k)) a b ∧ ovl (dFrom h (d0 + k)) (dTo h (d0 + k)) a b ≤ (b : Int) - (a : Int) := by unfold ovl; omega
    unfold accD
    have h2 : ((k + 1 : Nat) : Int) * ((b : Int) - (a : Int)) = (k : Int) * ((b : Int) - (a : Int)) + ((b : Int) - (a : Int)) := by
      rw [Int.natCast_add, Int.add_mul]; simp
    omega
theorem accD_le (h : Nat → Int) (a b : Nat) (d0 k : Nat) (hab : a ≤ b) (hb : b ≤ 5761440) (hk : k ≤ 4010) : 0 ≤ accD h a b d0 k ∧ accD h a b d0 k ≤ 100000000000 := by
  have h1 := accD_bd h a b d0 k hab
  have h2 : (k : Int) * ((b : Int) - (a : Int)) ≤ 4010 * 5761440 := by
    have h3 : (k : Int) * ((b : Int) - (a : Int)) ≤ 4010 * ((b : Int) - (a : Int)) := Int.mul_le_mul_of_nonneg_right (by omega) (by omega)
    omega
  omega
theorem nD_lt {a b : Nat} (k : Nat) : k < nD a b ↔ (a / 1440 + k) * 1440 < b := by unfold nD; omega
theorem nD_le {a b : Nat} (hb : b ≤ 5761440) : nD a b ≤ 4001 := by unfold nD; omega
def MinRel (w : World) (r : ByteArray) (h : Nat → Int) (a b d0 : Nat) (v i : Value) (wr : World) : Prop :=
  ∃ k : Nat, k ≤ nD a b ∧ i = .int .i64 ((d0 : Int) + (k : Int)) ∧ v = .int .i64 (accD h a b d0 k) ∧ G w wr none ∧ Bk wr w.heap.size 30 (stC r h) ∧ Bk wr (w.heap.size + 1) 27 #[.int .i64 (a : Int), .int .i64 (b : Int)]
def minE (r : ByteArray) (h : Nat → Int) (a b : Int) : Int := if stErr [(r, h)] = 0 then winE a b else stErr [(r, h)]
def minR (r : ByteArray) (h : Nat → Int) (a b : Int) : Int := if minE r h a b = 0 then openIn h a.toNat b.toNat else 0
set_option maxRecDepth 100000 in
set_option maxHeartbeats 2000000 in
theorem openMinutes_c (r : ByteArray) (h : Nat → Int) (a b : Int) (w : World) (hr : r.size ≤ 9223372036854775807) (hb : HB h) :
    Calls Try.prog 7 #[.agg (stC r h), .agg #[.int .i64 a, .int .i64 b]] w fun e w' => e = .returned (.tuple #[.int .i64 (minR r h a b), .int .i64 (minE r h a b)]) ∧ G w w' none := by
  have hk : KeysOk [(r, h)] := by intro p hp; obtain rfl := List.mem_singleton.1 hp; exact ⟨hr, hb⟩
  have HB1 := Lib.hid ((((Bk.new w 30 (stC r h)).alloc (.cells #[.int .i64 a, .int .i64 b] 27))).at_)
  have hB0 := (((Bk.new w 30 (stC r h)).alloc (.cells #[.int .i64 a, .int .i64 b] 27))).alloc (.cells (stC r h) 30)
  have hW0 := (Bk.newAt (w := w.alloc (.cells (stC r h) 30)) (b := w.heap.size + 1) (by simp) 27 #[.int .i64 a, .int .i64 b]).alloc (.cells (stC r h) 30)
  by_cases h0 : stErr [(r, h)] = 0
  · by_cases hw : winB a b = true
    · simp only [winB, Bool.and_eq_true, decide_eq_true_eq] at hw
      obtain ⟨⟨a0, ab⟩, be⟩ := hw
      obtain ⟨a, rfl⟩ := Int.eq_ofNat_of_zero_le a0
      obtain ⟨b, rfl⟩ := Int.eq_ofNat_of_zero_le (show 0 ≤ b by omega)
      have hwt : winB (a : Int) (b : Int) = true := by simp [winB]; omega
      have H : Hid (minR r h (a : Int) (b : Int) = openIn h a b ∧ minE r h (a : Int) (b : Int) = 0) := Lib.hid (by simp [minR, minE, winE, h0, hwt])
      have HW := Lib.hid hwt
      have HLT := Lib.hid (fun k => nD_lt (a := a) (b := b) k)
      have HAC := Lib.hid (fun d0 k hk => accD_le h a b d0 k (by omega) (by omega) hk)
      have HN4 := Lib.hid (nD_le (a := a) (b := b) (by omega))
      obtain ⟨d0, hd0⟩ : ∃ d0 : Nat, a / 1440 = d0 := ⟨_, rfl⟩
      have HD := Lib.hid hd0
      have hdq : (a : Int) / 1440 = (d0 : Int) := by omega
      have hd4 : d0 ≤ 4001 := by omega
      have ha9 : (a : Int) ≤ 10000000 := by omega
      have hb9 : (b : Int) ≤ 10000000 := by omega
      clear be hd0 hwt ab
      go_enter Try.func7, Try.ntmps7
      go_wp2_with (refine wpList_load_at rfl 30 _ rfl ⟨w.heap.size, 0, none⟩ rfl #[.string r, .int .i64 (h 0), .int .i64 (h 1), .int .i64 (h 2), .int .i64 (h 3), .int .i64 (h 4), .int .i64 (h 5), .int .i64 (h 6), .int .i64 (h 7), .int .i64 (h 8), .int .i64 (h 9), .int .i64 (h 10), .int .i64 (h 11), .int .i64 (h 12), .int .i64 (h 13)] _ HB1.out Try.underlying30 rfl (st_info _ _) ?_)
      refine (checkStations_c _ [(r, h)] _ (rd_one r h (by simp)) hk (by simp)).mono ?_; rintro e w1 ⟨rfl, hG1⟩
      have hB1 := hB0.quiet hG1
      have hW1 := hW0.quiet hG1
      have hG : G w w1 none := ((((G.refl w none).alloc _).alloc _).alloc _).trans hG1
      rw [h0]
      clear hG1 h0 hB0 hW0 HB1
      have hwl := hW1.lt
      have hc0 : w1.cell? ⟨w.heap.size + 1, 0, none⟩ = some (.int .i64 (a : Int)) := hW1.cell 0
      have hc1 : w1.cell? ⟨w.heap.size + 1, 1, none⟩ = some (.int .i64 (b : Int)) := hW1.cell 1
      go_wp2_with fail
      refine (isWindow_c _ _ _).mono ?_; rintro e w2 ⟨rfl, hG2⟩
      rw [HW.out]
      have hB2 := hB1.quiet hG2
      have hW2 := hW1.quiet hG2
      have hG02 := hG.trans hG2
      clear hG hG2 hB1 hW1 hc0 hc1 hwl
      have hwl := hW2.lt
      have hc0 : w2.cell? ⟨w.heap.size + 1, 0, none⟩ = some (.int .i64 (a : Int)) := hW2.cell 0
      have hc1 : w2.cell? ⟨w.heap.size + 1, 1, none⟩ = some (.int .i64 (b : Int)) := hW2.cell 1
      go_wp2_with fail
      clear hc0 hc1 hwl
      go_loopw [7, 8] (MinRel w r h a b d0) (fun _ i _ => (20000 - (intOf i)).toNat)
      case atStart => exact ⟨0, by omega, congrArg (Value.int .i64) (by omega), rfl, hG02, hB2, hW2⟩
      case round =>
        clear hG02 hB2 hW2
        obtain ⟨k, hk, rfl, rfl, hG2, hB2, hW2⟩ := hrel
        have hlt := HLT.out k
        have hac := HAC.out d0 k (by have := HN4.out; omega)
        rw [HD.out] at hlt
        have hc0 : wr.cell? ⟨w.heap.size + 1, 0, none⟩ = some (.int .i64 (a : Int)) := hW2.cell 0
        have hc1 : wr.cell? ⟨w.heap.size + 1, 1, none⟩ = some (.int .i64 (b : Int)) := hW2.cell 1
        have hwl := hW2.lt
        obtain ⟨ac0, ac1⟩ := hac
        by_cases hl : k < nD a b
        · have hlt2 : ((d0 : Int) + (k : Int)) * 1440 < (b : Int) := by have := hlt.1 hl; omega
          have HK : Hid (k + 1 ≤ nD a b) := Lib.hid (by omega)
          have HA : Hid (accD h a b d0 (k + 1) = accD h a b d0 k + ovl (dFrom h (d0 + k)) (dTo h (d0 + k)) a b) := Lib.hid rfl
          have hkk : (k : Int) ≤ 4010 := by have := HN4.out; omega
          clear hlt hk hl
          generalize accD h a b d0 k = acc at ac0 ac1 HA ⊢
          go_wp2_with fail
          clear hc0 hc1 hwl
          refine wp_region_quiet (C := fun w' => G wr w' none) (by kernel_rfl) (by kernel_rfl) ((G.refl _ _).drew) ?_
          refine wpQuiet_op rfl (fun K hK => ?_); refine quiet_value _ (fun _ _ => rfl) (hK _ ?_); clear hK K
          refine wpQuiet_op rfl (fun K hK => ?_); refine quiet_load_row 30 _ rfl w.heap.size rfl 30 (stC r h) _ (fun w' hw' => hB2.quiet hw') Try.underlying30 rfl (st_info _ _) (hK _ ?_); clear hK K
          refine wpQuiet_op rfl (fun K hK => ?_); refine quiet_value _ (fun _ _ => rfl) (hK _ ?_); clear hK K
          have hdf := dFrom_bd hb (d0 + k)
          have hdt := dTo_bd hb (d0 + k)
          have hk7 : (d0 : Int) + (k : Int) ≤ 7000 := by omega
          have ho := HA.out
          have hoB : 0 ≤ ovl (dFrom h (d0 + k)) (dTo h (d0 + k)) a b ∧ ovl (dFrom h (d0 + k)) (dTo h (d0 + k)) a b ≤ 10000000 := by unfold ovl; omega
          have HOV := Lib.hid (fun w => overlap_c (dFrom h (d0 + k)) (dTo h (d0 + k)) (a : Int) (b : Int) w (by unfold small; omega) (by unfold small; omega) (by unfold small; omega) (by unfold small; omega))
          have HHO := Lib.hid (fun w => hoursOn_c r h (d0 + k) w hb (by omega))
          clear hdf hdt ho hb
          generalize ovl (dFrom h (d0 + k)) (dTo h (d0 + k)) a b = O at HA hoB HOV
          generalize dFrom h (d0 + k) = x at HOV HHO
          generalize dTo h (d0 + k) = z at HOV HHO
          obtain ⟨o0, o1⟩ := hoB
          refine wpQuiet_op rfl (fun K hK => ?_); refine quiet_call 24 #[.agg (stC r h), .int .i64 ((d0 : Int) + (k : Int))] (.agg #[.int .i64 x, .int .i64 z]) (fun _ => by go_simp) (fun w' hw' => by rw [show (d0 : Int) + (k : Int) = ((d0 + k : Nat) : Int) by omega]; exact G.callNone hw' (HHO.out w')) (hK _ ?_); clear hK K
          refine wpQuiet_op rfl (fun K hK => ?_); refine quiet_load_row 27 _ rfl (w.heap.size + 1) rfl 27 #[.int .i64 (a : Int), .int .i64 (b : Int)] _ (fun w' hw' => hW2.quiet hw') Try.underlying27 rfl (wn_info _ _) (hK _ ?_); clear hK K
          refine wpQuiet_op rfl (fun K hK => ?_); refine quiet_call 23 #[.agg #[.int .i64 x, .int .i64 z], .agg #[.int .i64 (a : Int), .int .i64 (b : Int)]] (.int .i64 O) (fun _ => by go_simp) (fun w' hw' => G.callNone hw' (HOV.out w')) (hK _ ?_); clear hK K
          refine wpQuiet_op rfl (fun K hK => ?_); refine quiet_value (.int .i64 (acc + O)) (fun _ _ => by go_simp; exact IntWalk.i64_in _ (by omega)) (hK _ ?_); clear hK K
          refine wpQuiet_op rfl (fun K hK => ?_); refine quiet_value _ (fun _ _ => rfl) (hK _ ?_); clear hK K
          refine wpQuiet_nil ?_
          intro w5 hG5
          go_simp
          go_wp2_with fail
          refine ⟨⟨k + 1, HK.out, congrArg (Value.int .i64) (by omega), congrArg (Value.int .i64) HA.out.symm, hG2.trans hG5, hB2.quiet hG5, hW2.quiet hG5⟩, ?_⟩
          simp only [intOf]
          omega
        · obtain rfl : k = nD a b := by omega
          have hge : (b : Int) ≤ ((d0 : Int) + (nD a b : Int)) * 1440 := by have h8 : ¬ (d0 + nD a b) * 1440 < b := fun hn => hl (hlt.2 hn); omega
          have HF : Hid (openIn h a b = accD h a b d0 (nD a b)) := Lib.hid (by rw [← HD.out]; rfl)
          have hn9 : (nD a b : Int) ≤ 4010 := by have := HN4.out; omega
          clear hlt hl hk
          generalize accD h a b d0 (nD a b) = acc at ac0 ac1 HF ⊢
          generalize nD a b = n at hge hn9 ⊢
          go_wp2_with fail
          go_ret2
          exact ⟨by rw [H.out.1, H.out.2, HF.out]; rfl, hG2⟩
    · have H : Hid (minR r h a b = 0 ∧ minE r h a b = 1) := Lib.hid (by simp [minR, minE, winE, h0, hw])
      have HW : Hid (winB a b = false) := Lib.hid (by simpa using hw)
      clear hw
      go_enter Try.func7, Try.ntmps7
      go_wp2_with (refine wpList_load_at rfl 30 _ rfl ⟨w.heap.size, 0, none⟩ rfl #[.string r, .int .i64 (h 0), .int .i64 (h 1), .int .i64 (h 2), .int .i64 (h 3), .int .i64 (h 4), .int .i64 (h 5), .int .i64 (h 6), .int .i64 (h 7), .int .i64 (h 8), .int .i64 (h 9), .int .i64 (h 10), .int .i64 (h 11), .int .i64 (h 12), .int .i64 (h 13)] _ HB1.out Try.underlying30 rfl (st_info _ _) ?_)
      refine (checkStations_c _ [(r, h)] _ (rd_one r h (by simp)) hk (by simp)).mono ?_; rintro e w1 ⟨rfl, hG1⟩
      have hW1 := hW0.quiet hG1
      have hG : G w w1 none := ((((G.refl w none).alloc _).alloc _).alloc _).trans hG1
      rw [h0]
      clear hG1 h0 hB0 hW0 HB1
      have hwl := hW1.lt
      have hc0 : w1.cell? ⟨w.heap.size + 1, 0, none⟩ = some (.int .i64 a) := hW1.cell 0
      have hc1 : w1.cell? ⟨w.heap.size + 1, 1, none⟩ = some (.int .i64 b) := hW1.cell 1
      go_wp2_with fail
      refine (isWindow_c _ _ _).mono ?_; rintro e w2 ⟨rfl, hG2⟩
      rw [HW.out]
      go_wp2_with fail
      go_ret2
      exact ⟨by rw [H.out.1, H.out.2]; rfl, hG.trans hG2⟩
  · have H : Hid (minR r h a b = 0 ∧ minE r h a b = stErr [(r, h)]) := Lib.hid (by simp [minR, minE, h0])
    have h1 : (stErr [(r, h)] != 0) = true := by rw [bne_iff_ne]; exact h0
    clear h0
    go_enter Try.func7, Try.ntmps7
    go_wp2_with (refine wpList_load_at rfl 30 _ rfl ⟨w.heap.size, 0, none⟩ rfl #[.string r, .int .i64 (h 0), .int .i64 (h 1), .int .i64 (h 2), .int .i64 (h 3), .int .i64 (h 4), .int .i64 (h 5), .int .i64 (h 6), .int .i64 (h 7), .int .i64 (h 8), .int .i64 (h 9), .int .i64 (h 10), .int .i64 (h 11), .int .i64 (h 12), .int .i64 (h 13)] _ HB1.out Try.underlying30 rfl (st_info _ _) ?_)
    refine (checkStations_c _ [(r, h)] _ (rd_one r h (by simp)) hk (by simp)).mono ?_; rintro e w1 ⟨rfl, hG1⟩
    go_wp2_with fail
    go_ret2
    exact ⟨by rw [H.out.1, H.out.2]; rfl, ((((G.refl w none).alloc _).alloc _).alloc _).trans hG1⟩
end Go.Proofs.Ytbddcbbjmgepnaa

/- The hours of a station add up; the next open minute (mathematics). -/
namespace Go.Proofs.Ytbddcbbjmgepnaa
open Go.RowKit

theorem accD_split (h : Nat → Int) (a b : Int) (d k m : Nat) : accD h a b d (k + m) = accD h a b d k + accD h a b (d + k) m := by
  induction m with
  | zero => simp [accD]
  | succ m ih =>
    show accD h a b d (k + m) + ovl (dFrom h (d + (k + m))) (dTo h (d + (k + m))) a b = accD h a b d k + (accD h a b (d + k) m + ovl (dFrom h (d + k + m)) (dTo h (d + k + m)) a b)
    rw [ih, show d + (k + m) = d + k + m by omega]
    omega
theorem accD_none (h : Nat → Int) (a b : Int) (d k : Nat) (hz : ∀ i, i < k → ovl (dFrom h (d + i)) (dTo h (d + i)) a b = 0) : accD h a b d k = 0 := by
  induction k with
  | zero => rfl
  | succ k ih =>
    show accD h a b d k + ovl (dFrom h (d + k)) (dTo h (d + k)) a b = 0
    rw [ih (fun i hi => hz i (by omega)), hz k (by omega)]
    rfl
theorem ovl_add (x y a b c : Int) (h1 : a ≤ b) (h2 : b ≤ c) : ovl x y a c = ovl x y a b + ovl x y b c := by unfold ovl; omega
theorem accD_add (h : Nat → Int) (a b c : Int) (h1 : a ≤ b) (h2 : b ≤ c) (d k : Nat) : accD h a c d k = accD h a b d k + accD h b c d k := by
  induction k with
  | zero => rfl
  | succ k ih =>
    show accD h a c d k + ovl (dFrom h (d + k)) (dTo h (d + k)) a c = (accD h a b d k + ovl (dFrom h (d + k)) (dTo h (d + k)) a b) + (accD h b c d k + ovl (dFrom h (d + k)) (dTo h (d + k)) b c)
    rw [ih, ovl_add _ _ a b c h1 h2]
    omega
theorem dTo_le {h : Nat → Int} (hh : okHrs h = true) (d : Nat) : (d : Int) * 1440 ≤ dFrom h d ∧ dFrom h d ≤ dTo h d ∧ dTo h d ≤ (d : Int) * 1440 + 1440 := by
  obtain ⟨h1, h2, h3⟩ := okDay_of hh d
  unfold dFrom dTo
  omega
theorem openIn_far {h : Nat → Int} (hh : okHrs h = true) (a b N : Nat) (hab : a ≤ b) (hN : (b + 1439) / 1440 ≤ N) : openIn h a b = accD h a b 0 N := by
  have e1 : N = a / 1440 + (nD a b + (N - (b + 1439) / 1440)) := by unfold nD; omega
  rw [e1, accD_split, accD_split, Nat.zero_add]
  rw [accD_none h a b 0 (a / 1440) (fun i hi => by
    obtain ⟨g1, g2, g3⟩ := dTo_le hh (0 + i)
    unfold ovl
    omega)]
  rw [accD_none h a b (a / 1440 + nD a b) _ (fun i hi => by
    obtain ⟨g1, g2, g3⟩ := dTo_le hh (a / 1440 + nD a b + i)
    have : b ≤ (a / 1440 + nD a b + i) * 1440 := by unfold nD; omega
    unfold ovl
    omega)]
  unfold openIn
  omega
theorem openIn_add {h : Nat → Int} (hh : okHrs h = true) (a b c : Nat) (h1 : a ≤ b) (h2 : b ≤ c) : openIn h a c = openIn h a b + openIn h b c := by
  rw [openIn_far hh a c ((c + 1439) / 1440) (by omega) (Nat.le_refl _), openIn_far hh a b ((c + 1439) / 1440) h1 (by omega), openIn_far hh b c ((c + 1439) / 1440) h2 (Nat.le_refl _)]
  exact accD_add h a b c (by omega) (by omega) 0 _
theorem find_spec {c : Nat → Bool} {v : Nat → Int} {n : Int} : ∀ (k d : Nat), find c v k d = some n → ∃ j, j < k ∧ c (d + j) = true ∧ n = v (d + j) ∧ ∀ i, i < j → c (d + i) = false
  | 0, d, h => by cases h
  | k + 1, d, h => by
    unfold find at h
    cases hc : c d with
    | true =>
      rw [hc, if_pos rfl] at h
      exact ⟨0, by omega, by simpa using hc, (Option.some.inj h).symm, fun i hi => by omega⟩
    | false =>
      rw [hc, if_neg (by decide)] at h
      obtain ⟨j, j1, j2, j3, j4⟩ := find_spec k (d + 1) h
      refine ⟨j + 1, by omega, by rw [show d + (j + 1) = d + 1 + j by omega]; exact j2, by rw [show d + (j + 1) = d + 1 + j by omega]; exact j3, fun i hi => ?_⟩
      cases i with
      | zero => exact hc
      | succ i => rw [show d + (i + 1) = d + 1 + i by omega]; exact j4 i (by omega)
theorem nextO_open {h : Nat → Int} (hh : okHrs h = true) {t : Nat} (ht : t < 5761440) {n : Int} (hn : nextO h t = some n) :
    (t : Int) ≤ n ∧ n < 5761440 ∧ opB h n.toNat = true ∧ openIn h t n.toNat = 0 := by
  obtain ⟨j, j1, j2, j3, j4⟩ := find_spec _ _ hn
  unfold kC at j1
  unfold cC at j2
  have j2 := of_decide_eq_true j2
  unfold vC at j3
  obtain ⟨g1, g2, g3⟩ := dTo_le hh (t / 1440 + j)
  have hn0 : (t : Int) ≤ n := by omega
  have hn1 : n < 5761440 := by omega
  have hd : n.toNat / 1440 = t / 1440 + j := by omega
  refine ⟨hn0, hn1, ?_, ?_⟩
  · unfold opB
    rw [hd, decide_eq_true (by omega), decide_eq_true (by omega)]
    rfl
  · unfold openIn
    refine accD_none _ _ _ _ _ (fun i hi => ?_)
    have hi2 := (nD_lt (a := t) (b := n.toNat) i).1 hi
    by_cases hij : i < j
    · have := of_decide_eq_false (j4 i hij)
      unfold ovl
      omega
    · have hij : i = j := by omega
      subst hij
      unfold ovl
      omega
end Go.Proofs.Ytbddcbbjmgepnaa

/- Rows of elements of whatever make, read as lists. No program. -/
namespace Go.Proofs.Ytbddcbbjmgepnaa
open Go.RowKit

def rowL {α : Type} (c : α → Array Value) (l : List α) : List Value := l.flatMap fun p => (c p).toList
theorem rowL_cons {α : Type} (c : α → Array Value) (p : α) (l : List α) : rowL c (p :: l) = (c p).toList ++ rowL c l := rfl
theorem rowL_len {α : Type} {c : α → Array Value} {z : Nat} (hz : ∀ p, (c p).size = z) (l : List α) : (rowL c l).length = l.length * z := by
  induction l with
  | nil => simp [rowL]
  | cons p l ih =>
    rw [rowL_cons, List.length_append, ih, List.length_cons, Array.length_toList, hz, Nat.add_mul, Nat.one_mul, Nat.add_comm]
theorem rowL_snoc {α : Type} (c : α → Array Value) (l : List α) (p : α) : rowL c (l ++ [p]) = rowL c l ++ (c p).toList := by simp [rowL]
theorem rowL_at {α : Type} {c : α → Array Value} {z : Nat} (hz : ∀ p, (c p).size = z) (l : List α) (k : Nat) (p : α) (hp : l[k]? = some p) : ∀ j v, (c p).toList[j]? = some v → (rowL c l)[k * z + j]? = some v := by
  induction l generalizing k with
  | nil => simp at hp
  | cons q r ih =>
    intro j v hv
    rw [rowL_cons]
    have hl : (c q).toList.length = z := by rw [Array.length_toList, hz]
    cases k with
    | zero =>
      obtain rfl : q = p := by simpa using hp
      have hj : j < z := by rw [← hl]; exact (List.getElem?_eq_some_iff.1 hv).1
      rw [Nat.zero_mul, Nat.zero_add, List.getElem?_append_left (by rw [hl]; exact hj)]
      exact hv
    | succ k =>
      have e : (k + 1) * z + j - z = k * z + j := by rw [Nat.add_mul, Nat.one_mul]; omega
      have e2 : z ≤ (k + 1) * z + j := by rw [Nat.add_mul, Nat.one_mul]; omega
      rw [List.getElem?_append_right (by rw [hl]; exact e2), hl, e]
      exact ih k (by simpa using hp) j v hv
theorem rowL_set {α : Type} {c : α → Array Value} {z : Nat} (hz : ∀ p, (c p).size = z) (l : List α) (k : Nat) (p q : α) (hp : l[k]? = some p) (j : Nat) (u : Value) (hj : j < z) (hq : (c q).toList = (c p).toList.set j u) : (rowL c l).set (k * z + j) u = rowL c (l.set k q) := by
  induction l generalizing k with
  | nil => simp at hp
  | cons x r ih =>
    have hl : (c x).toList.length = z := by rw [Array.length_toList, hz]
    rw [rowL_cons]
    cases k with
    | zero =>
      obtain rfl : x = p := by simpa using hp
      rw [List.set_cons_zero, rowL_cons, Nat.zero_mul, Nat.zero_add, List.set_append_left _ _ (by rw [hl]; exact hj), hq]
    | succ k =>
      have e : (k + 1) * z + j - z = k * z + j := by rw [Nat.add_mul, Nat.one_mul]; omega
      have e2 : z ≤ (k + 1) * z + j := by rw [Nat.add_mul, Nat.one_mul]; omega
      rw [List.set_cons_succ, rowL_cons, List.set_append_right _ _ (by rw [hl]; exact e2), hl, e, ih k (by simpa using hp)]
theorem ownsRow_set {w : World} {base : Nat} {e : TypeId} {size g n cap : Nat} {xs : List Value} (h : w.ownsRow base e size (.slice (some ⟨g, 0, none⟩) n cap) n xs) (i : Nat) (u : Value) : (w.setCell ⟨g, i, none⟩ u).ownsRow base e size (.slice (some ⟨g, 0, none⟩) n cap) n (xs.set i u) := by
  obtain ⟨h1, h2⟩ := h
  refine ⟨by rw [List.length_set]; exact h1, .inr ?_⟩
  rcases h2 with ⟨h3, _⟩ | ⟨g', cap', cur, e1, hb, hg, hn, hm, hs, ht⟩
  · cases h3
  · obtain ⟨rfl, rfl⟩ : g = g' ∧ cap = cap' := by cases e1; exact ⟨rfl, rfl⟩
    refine ⟨g, cap, cur.setIfInBounds i u, rfl, hb, ?_, hn, hm, by simpa using hs, ?_⟩
    · simp [World.setCell, Array.getElem?_modify, hg]
    · rw [Array.toList_setIfInBounds, List.take_set, ht]
theorem ownsRow_free {w : World} {base : Nat} {e : TypeId} {size g n cap : Nat} {xs : List Value} (h : w.ownsRow base e size (.slice (some ⟨g, 0, none⟩) n cap) n xs) (i : Nat) : w.frozen? ⟨g, i, none⟩ = false := by
  rcases h.2 with ⟨h3, _⟩ | ⟨g', cap', cur, e1, hb, hg, hn, hm, hs, ht⟩
  · cases h3
  · obtain ⟨rfl, rfl⟩ : g = g' ∧ cap = cap' := by cases e1; exact ⟨rfl, rfl⟩
    simp [World.frozen?, hg]
/-- A slice that reads as a list of such elements. -/
abbrev RdR {α : Type} (w : World) (z : Nat) (c : α → Array Value) (v : Value) (l : List α) : Prop := Rd w z v l.length (rowL c l)
theorem RdR.elem {α : Type} {W w : World} {z : Nat} {c : α → Array Value} {a : Option Addr} {n cap : Nat} {l : List α} (hz : ∀ p, (c p).size = z) (h : RdR W z c (.slice a n cap) l) (hG : G W w none) {k : Nat} {p : α} (hp : l[k]? = some p) :
    ∃ bb bo, a = some ⟨bb, bo, none⟩ ∧ bb < W.heap.size ∧ ∀ j v, (c p).toList[j]? = some v → w.cell? ((⟨bb, bo + k * z, none⟩ : Addr).add j) = some v := by
  obtain ⟨a', c', e, h1, h2, h3, h4, h5⟩ := h
  obtain ⟨rfl, rfl, rfl⟩ : a = a' ∧ n = l.length ∧ cap = c' := by cases e; exact ⟨rfl, rfl, rfl⟩
  cases a with
  | none =>
    have := (h4 rfl).1
    have := (List.getElem?_eq_some_iff.1 hp).1
    omega
  | some ad =>
    obtain ⟨bb, bo, bs⟩ := ad
    obtain ⟨q1, q2, q3⟩ := h5 _ rfl
    dsimp only at q1 q2 q3
    subst q1
    refine ⟨bb, bo, rfl, q2, fun j v hv => ?_⟩
    rw [add_at]
    have := q3 (k * z + j) v (rowL_at hz l k p hp j v hv)
    rw [← Nat.add_assoc] at this
    exact ((gcell hG).1 bb _ q2).trans this
/-- The same, told cell by cell. -/
theorem RdR.cell {α : Type} {W w : World} {z : Nat} {c : α → Array Value} {bb bo n cap : Nat} {l : List α} (hz : ∀ p, (c p).size = z) (h : RdR W z c (.slice (some ⟨bb, bo, none⟩) n cap) l) (hG : G W w none) {k : Nat} {p : α} (hp : l[k]? = some p) (j : Nat) (v : Value) (hv : (c p).toList[j]? = some v) :
    w.cell? ⟨bb, bo + k * z + j, none⟩ = some v := by
  obtain ⟨b', o', e, _, h2⟩ := RdR.elem hz h hG hp
  obtain ⟨rfl, rfl⟩ : bb = b' ∧ bo = o' := by cases e; exact ⟨rfl, rfl⟩
  have := h2 j v hv
  rwa [add_at] at this
theorem RdR.form {α : Type} {W : World} {z : Nat} {c : α → Array Value} {v : Value} {l : List α} (h : RdR W z c v l) : ∃ a cap, v = .slice a l.length cap ∧ l.length ≤ cap ∧ cap ≤ maxLen := by
  obtain ⟨a', c', e, h1, h2, h3, h4, h5⟩ := h
  exact ⟨a', c', e, h1, h2⟩
theorem RdR.nil {α : Type} (w : World) (z : Nat) (c : α → Array Value) : RdR w z c (.slice none 0 0) [] := ⟨none, 0, rfl, Nat.le_refl _, Nat.zero_le _, by simp [rowL], fun _ => ⟨rfl, rfl⟩, fun b hb => by cases hb⟩
/-- The first of them. -/
theorem RdR.prefix_ {α : Type} {w : World} {z : Nat} {c : α → Array Value} {a : Option Addr} {n cap : Nat} {l : List α} (hz : ∀ p, (c p).size = z) (h : RdR w z c (.slice a n cap) l) (m : Nat) (hm : m ≤ l.length) : RdR w z c (.slice a m cap) (l.take m) := by
  obtain ⟨a', c', e, h1, h2, h3, h4, h5⟩ := h
  obtain ⟨rfl, rfl, rfl⟩ : a = a' ∧ n = l.length ∧ cap = c' := by cases e; exact ⟨rfl, rfl, rfl⟩
  have hlt : (l.take m).length = m := by rw [List.length_take]; omega
  refine ⟨a, cap, by rw [hlt], by omega, h2, rowL_len hz _, fun e => ⟨by have := (h4 e).1; omega, (h4 e).2⟩, fun b hb => ?_⟩
  obtain ⟨q1, q2, q3⟩ := h5 b hb
  refine ⟨q1, q2, fun j u hj => q3 j u ?_⟩
  have e2 : rowL c l = rowL c (l.take m) ++ rowL c (l.drop m) := by
    unfold rowL
    rw [← List.flatMap_append, List.take_append_drop]
  rw [e2, List.getElem?_append_left ((List.getElem?_eq_some_iff.1 hj).1)]
  exact hj
/-- The first place of one that is asked for, from 'k' on counted; -1: none. -/
def ixP {α : Type} (q : α → Bool) : List α → Int → Int
  | [], _ => -1
  | p :: r, k => if q p = true then k else ixP q r (k + 1)
theorem ixP_spec {α : Type} (q : α → Bool) (l : List α) : ∀ k : Nat, (ixP q l k = -1 ∧ l.any q = false) ∨ ∃ (i : Nat) (p : α), ixP q l k = ((k + i : Nat) : Int) ∧ l[i]? = some p ∧ q p = true := by
  induction l with
  | nil => intro k; exact .inl ⟨rfl, rfl⟩
  | cons p r ih =>
    intro k
    unfold ixP
    by_cases h : q p = true
    · rw [if_pos h]
      exact .inr ⟨0, p, rfl, rfl, h⟩
    · rw [if_neg h]
      rcases ih (k + 1) with ⟨h1, h2⟩ | ⟨i, p', h1, h2, h3⟩
      · left
        exact ⟨h1, by rw [List.any_cons, h2]; simp [h]⟩
      · right
        refine ⟨i + 1, p', ?_, by simpa using h2, h3⟩
        have e : ixP q r ((k : Int) + 1) = ixP q r ((k + 1 : Nat) : Int) := rfl
        rw [e, h1]
        congr 1
        omega
theorem ixP_find {α : Type} (q : α → Bool) (l : List α) : ∀ k : Nat, (ixP q l k = -1 ∧ l.find? q = none) ∨ ∃ (i : Nat) (p : α), ixP q l k = ((k + i : Nat) : Int) ∧ l[i]? = some p ∧ l.find? q = some p := by
  induction l with
  | nil => intro k; exact .inl ⟨rfl, rfl⟩
  | cons p r ih =>
    intro k
    unfold ixP
    by_cases h : q p = true
    · rw [if_pos h]
      exact .inr ⟨0, p, rfl, rfl, by rw [List.find?_cons, h]⟩
    · rw [if_neg h]
      have hf : (p :: r).find? q = r.find? q := by rw [List.find?_cons]; simp [h]
      rw [hf]
      rcases ih (k + 1) with ⟨h1, h2⟩ | ⟨i, p', h1, h2, h3⟩
      · exact .inl ⟨h1, h2⟩
      · right
        refine ⟨i + 1, p', ?_, by simpa using h2, h3⟩
        have e : ixP q r ((k : Int) + 1) = ixP q r ((k + 1 : Nat) : Int) := rfl
        rw [e, h1]
        congr 1
        omega
end Go.Proofs.Ytbddcbbjmgepnaa

/- The law's own 'errs'. -/
namespace Go.Proofs.Ytbddcbbjmgepnaa
open Go.RowKit

/-- The first error of some. -/
def errsOf : List Int → Int
  | [] => 0
  | e :: r => if e = 0 then errsOf r else e
def ErrsRel (es : List Int) (i : Value) : Prop := ∃ k : Nat, k ≤ es.length ∧ i = .int .i64 k ∧ errsOf es = errsOf (es.drop k)
theorem errs_at (r : ByteArray) (h : Nat → Int) (t : Int) : errsOf [stErr [(r, h)], momE t] = atE r h t := by
  unfold atE
  show (if stErr [(r, h)] = 0 then (if momE t = 0 then 0 else momE t) else stErr [(r, h)]) = _
  by_cases h1 : stErr [(r, h)] = 0
  · rw [if_pos h1, if_pos h1]
    split
    · omega
    · rfl
  · rw [if_neg h1, if_neg h1]
theorem errs_min (r : ByteArray) (h : Nat → Int) (x y : Int) : errsOf [stErr [(r, h)], winE x y] = minE r h x y := by
  unfold minE
  show (if stErr [(r, h)] = 0 then (if winE x y = 0 then 0 else winE x y) else stErr [(r, h)]) = _
  by_cases h1 : stErr [(r, h)] = 0
  · rw [if_pos h1, if_pos h1]
    split
    · omega
    · rfl
  · rw [if_neg h1, if_neg h1]
end Go.Proofs.Ytbddcbbjmgepnaa

/- A map keyed by strings, told by a function from its keys to the values that stand at them, and by how many there are. No program. -/
namespace Go.Proofs.Ytbddcbbjmgepnaa
open Go.RowKit Go.ChangeMaps Go.MapKept
open Go.Maps (Keyed IsMap Tidy has size)

/-- Each value reads as itself. -/
def RV (v : Value) : Option (DataW Value × List MemPlace) := some (.held v, [])
def kL (s : ByteArray) : Lit := .string s.data.toList
theorem kL_inj {s t : ByteArray} (h : s ≠ t) : kL s ≠ kL t := fun e => h (Go.WideShapes.bytes_inj (by unfold kL at e; injection e))
theorem kL_key (s : ByteArray) : WideAt.IsKeyLit (kL s) := trivial
abbrev Fn := ByteArray → Option Value
/-- What a map holds, as a datum. -/
def MapIs (D : DataW Value) (c : Nat) (f : Fn) : Prop := Tidy D ∧ size D = c ∧ ∀ s, has D (kL s) = (f s).isSome ∧ ∀ v, f s = some v → ∀ z, D.atKey (kL s) z = .held v
/-- Block 'b' is a map of 'c' keys that holds what 'f' says. -/
def OwnM (P : Program) (k : TypeId) (w : World) (b c : Nat) (f : Fn) : Prop := ∃ D n, w.ownsMap P k RV b n D ∧ n ≤ c ∧ MapIs D c f
def fput (f : Fn) (s : ByteArray) (v : Value) : Fn := fun t => if t = s then some v else f t
def fdel (f : Fn) (s : ByteArray) : Fn := fun t => if t = s then none else f t
def cput (c : Nat) (f : Fn) (s : ByteArray) : Nat := if (f s).isSome = true then c else c + 1
theorem MapIs.empty : MapIs (.map []) 0 (fun _ => none) := ⟨Maps.tidy_empty, rfl, fun _ => ⟨rfl, fun _ h => by cases h⟩⟩
theorem MapIs.put {D : DataW Value} {c : Nat} {f : Fn} (h : MapIs D c f) (s : ByteArray) (v : Value) : MapIs (D.put (kL s) (.held v)) (cput c f s) (fput f s v) := by
  obtain ⟨h1, h2, h3⟩ := h
  refine ⟨h1.put (kL_key s) _, ?_, fun t => ?_⟩
  · rw [Maps.size_put h1, (h3 s).1, h2]
    rfl
  · by_cases e : t = s
    · subst e
      simp only [fput, if_pos]
      exact ⟨by rw [Maps.has_put_same h1.isMap (kL_key t)]; rfl, fun u hu z => by cases hu; exact Maps.atKey_put_same h1.isMap (kL_key t) _ _⟩
    · simp only [fput, if_neg e]
      exact ⟨by rw [Maps.has_put_other (kL_inj e)]; exact (h3 t).1, fun u hu z => by rw [Maps.atKey_put_other (kL_inj e)]; exact (h3 t).2 u hu z⟩
theorem MapIs.del {D : DataW Value} {c : Nat} {f : Fn} (h : MapIs D c f) (s : ByteArray) : MapIs (D.del (kL s)) (if (f s).isSome = true then c - 1 else c) (fdel f s) := by
  obtain ⟨h1, h2, h3⟩ := h
  refine ⟨h1.del _, ?_, fun t => ?_⟩
  · have := Maps.size_del h1 (k := kL s)
    rw [(h3 s).1, h2] at this
    split at this <;> simp_all <;> omega
  · by_cases e : t = s
    · subst e
      simp only [fdel, if_pos]
      exact ⟨by rw [Maps.has_del_same]; rfl, fun u hu => by cases hu⟩
    · simp only [fdel, if_neg e]
      exact ⟨by rw [Maps.has_del_other (kL_inj e)]; exact (h3 t).1, fun u hu z => by rw [Maps.atKey_del_other (kL_inj e)]; exact (h3 t).2 u hu z⟩

section
variable {P : Program} {k : TypeId} {w : World} {b c : Nat} {f : Fn}
theorem OwnM.made (w : World) (P : Program) (k : TypeId) {b : Nat} (hb : w.heap.size = b) : OwnM P k (w.alloc (.map #[] 0)) b 0 (fun _ => none) := by
  subst hb
  exact ⟨_, 0, World.ownsMap_made w P k RV, Nat.le_refl _, MapIs.empty⟩
theorem OwnM.lt (h : OwnM P k w b c f) : b < w.heap.size := by obtain ⟨D, n, h, _⟩ := h; exact h.lt
theorem OwnM.grown {w' : World} {s : Option Nat} (h : OwnM P k w b c f) (hg : G w w' s) (hs : some b ≠ s) : OwnM P k w' b c f := by obtain ⟨D, n, h, r⟩ := h; exact ⟨D, n, h.kept hg hs, r⟩
theorem OwnM.quiet {w' : World} (h : OwnM P k w b c f) (hg : G w w' none) : OwnM P k w' b c f := h.grown hg (by simp)
theorem OwnM.alloc (h : OwnM P k w b c f) (o : Obj) : OwnM P k (w.alloc o) b c f := h.quiet ((G.refl _ _).alloc o)
theorem OwnM.drewN (h : OwnM P k w b c f) (n : Nat) : OwnM P k (w.drewN n) b c f := h.quiet ((G.refl _ _).drewN n)
theorem OwnM.setCell (h : OwnM P k w b c f) {p : Addr} (hp : b ≠ p.block) (u : Value) : OwnM P k (w.setCell p u) b c f := h.grown (grownBy_setCell_row w p u) (by simpa using hp)
theorem OwnM.setRow (h : OwnM P k w b c f) {g : Nat} (hp : b ≠ g) (cs : Array Value) : OwnM P k (w.setRow g cs) b c f := h.grown (grownBy_setRow w g cs) (by simpa using hp)
theorem OwnM.look {t e : TypeId} (h : OwnM P k w b c f) (hk : P.underlying k = some .string) (ht : P.underlying t = some (.map k e)) {z : Value} (hz : (zeroValue e).run P w = .ok z w) {s : ByteArray} (hs : s.size ≤ maxLen) :
    (Instr.lookup t (.map (some b)) (.string s) false).run P w = .ok ((f s).getD z) w := by
  obtain ⟨D, n, h, _, h1, h2, h3⟩ := h
  obtain ⟨v, ps, hrun, hv⟩ := h.lookup (Maps.string_keyed hk) ht hz (zd := .held z) (zp := []) rfl (Go.WideMaps.keyOf_string_mk hk hs)
  rw [hrun]
  have e : DataW.held v = D.atKey (kL s) (.held z) := by have := congrArg (fun o => o.map Prod.fst) hv; simpa [RV, kL] using this
  cases hf : f s with
  | none =>
    have hn := (h3 s).1
    rw [hf] at hn
    rw [Maps.atKey_of_not_has hn] at e
    injection e with e
    rw [e]; rfl
  | some u =>
    rw [(h3 s).2 u hf] at e
    injection e with e
    rw [e]; rfl
theorem OwnM.look_ok {t e : TypeId} (h : OwnM P k w b c f) (hk : P.underlying k = some .string) (ht : P.underlying t = some (.map k e)) {z : Value} (hz : (zeroValue e).run P w = .ok z w) {s : ByteArray} (hs : s.size ≤ maxLen) :
    (Instr.lookup t (.map (some b)) (.string s) true).run P w = .ok (.tuple #[(f s).getD z, .bool (f s).isSome]) w := by
  obtain ⟨D, n, h, _, h1, h2, h3⟩ := h
  obtain ⟨v, ps, hrun, hv⟩ := h.look_ok (Maps.string_keyed hk) ht hz (zd := .held z) (zp := []) rfl (Go.WideMaps.keyOf_string_mk hk hs)
  rw [hrun]
  have e : DataW.held v = D.atKey (kL s) (.held z) := by have := congrArg (fun o => o.map Prod.fst) hv; simpa [RV, kL] using this
  have hb : has D (kL s) = (f s).isSome := (h3 s).1
  rw [show Maps.has D (Lit.string s.data.toList) = (f s).isSome from hb]
  cases hf : f s with
  | none =>
    have hn := (h3 s).1
    rw [hf] at hn
    rw [Maps.atKey_of_not_has hn] at e
    injection e with e
    rw [e]; rfl
  | some u =>
    rw [(h3 s).2 u hf] at e
    injection e with e
    rw [e]; rfl
theorem OwnM.store {t e : TypeId} (h : OwnM P k w b c f) (hk : P.underlying k = some .string) (ht : P.underlying t = some (.map k e)) (hc : c < maxLen) {s : ByteArray} (hs : s.size ≤ maxLen) (v : Value) :
    ∃ w', (Instr.mapUpdate t (.map (some b)) (.string s) v).run P w = .ok () w' ∧ OwnM P k w' b (cput c f s) (fput f s v) ∧ w.grownBy w' (some b) := by
  obtain ⟨D, n, h, hn, hM⟩ := h
  obtain ⟨w', hrun, h1, h2⟩ := h.update (Maps.string_keyed hk) ht (Nat.lt_of_le_of_lt hn hc) (Go.WideMaps.keyOf_string_mk hk hs) (val := v) (d := .held v) (ps := []) rfl
  have hM' := hM.put s v
  refine ⟨w', hrun, ⟨_, size (D.put (kL s) (.held v)), ?_, Nat.le_of_eq hM'.2.1, hM'⟩, h2⟩
  obtain ⟨es, clock, hb, F, _, hD⟩ := h1
  have hD' : D.put (kL s) (.held v) = .map ((es.toList.map (Go.WideElems.rg P k RV)).foldr DataW.insert []) := hD
  refine ⟨es, clock, hb, F, ?_, hD⟩
  rw [hD']
  simp [size, length_sorted]
theorem OwnM.drop {t e : TypeId} (h : OwnM P k w b c f) (hk : P.underlying k = some .string) (ht : P.underlying t = some (.map k e)) {s : ByteArray} (hs : s.size ≤ maxLen) (ty : TypeId) :
    ∃ w', (Builtin.delete_ #[t, k] ty #[.map (some b), .string s]).run P w = .ok (.tuple #[]) w' ∧ OwnM P k w' b (if (f s).isSome = true then c - 1 else c) (fdel f s) ∧ w.grownBy w' (some b) := by
  obtain ⟨D, n, h, hn, hM⟩ := h
  obtain ⟨w', hrun, h1, h2⟩ := h.drop (Maps.string_keyed hk) ht (Go.WideMaps.keyOf_string_mk hk hs) ty
  have hM' := hM.del s
  refine ⟨w', hrun, ⟨_, size (D.del (kL s)), ?_, Nat.le_of_eq hM'.2.1, hM'⟩, h2.grown⟩
  obtain ⟨es, clock, hb, F, _, hD⟩ := h1
  have hD' : D.del (kL s) = .map ((es.toList.map (Go.WideElems.rg P k RV)).foldr DataW.insert []) := hD
  refine ⟨es, clock, hb, F, ?_, hD⟩
  rw [hD']
  simp [size, length_sorted]
end

/-! ### At the operation, for the walk -/
section
variable {P : Program} {w : World} {ops : Array Oper} {rest : List Oper} {o : Oper} {a : Act} {Q : Exit → Act → World → Prop}
theorem wpM_look (hg : o.guard = none) (m x : Operand) (t : TypeId) (hop : o.op = Op.lookup t m x false) (k e : TypeId) (hk : P.underlying k = some .string) (ht : P.underlying t = some (.map k e)) (z : Value) (hz : (zeroValue e).run P w = .ok z w)
    (b c : Nat) (f : Fn) (hm : a.eval m = .map (some b)) (hown : OwnM P k w b c f) (s : ByteArray) (hx : a.eval x = .string s) (hs : s.size ≤ maxLen) (hK : wpList P ops Q rest (a.put o.dst ((f s).getD z)) w) : wpList P ops Q (o :: rest) a w := by
  refine wpList_plain hg fun K' hK' => ?_
  unfold Oper.wp
  simp [execOp, hop, hm, hx, hown.look hk ht hz hs, Result.andThen]
  exact hK' _ _ hK
theorem wpM_look_ok (hg : o.guard = none) (m x : Operand) (t : TypeId) (hop : o.op = Op.lookup t m x true) (k e : TypeId) (hk : P.underlying k = some .string) (ht : P.underlying t = some (.map k e)) (z : Value) (hz : (zeroValue e).run P w = .ok z w)
    (b c : Nat) (f : Fn) (hm : a.eval m = .map (some b)) (hown : OwnM P k w b c f) (s : ByteArray) (hx : a.eval x = .string s) (hs : s.size ≤ maxLen) (hK : wpList P ops Q rest (a.put o.dst (.tuple #[(f s).getD z, .bool (f s).isSome])) w) : wpList P ops Q (o :: rest) a w := by
  refine wpList_plain hg fun K' hK' => ?_
  unfold Oper.wp
  simp [execOp, hop, hm, hx, hown.look_ok hk ht hz hs, Result.andThen]
  exact hK' _ _ hK
theorem wpM_store (hg : o.guard = none) (m x v : Operand) (t : TypeId) (hop : o.op = Op.mapUpdate t m x v) (k e : TypeId) (hk : P.underlying k = some .string) (ht : P.underlying t = some (.map k e))
    (b c : Nat) (f : Fn) (hm : a.eval m = .map (some b)) (hown : OwnM P k w b c f) (hc : c < maxLen) (s : ByteArray) (hx : a.eval x = .string s) (hs : s.size ≤ maxLen) (u : Value) (hv : a.eval v = u)
    (hK : ∀ w', OwnM P k w' b (cput c f s) (fput f s u) → w.grownBy w' (some b) → wpList P ops Q rest (a.put o.dst undef) w') : wpList P ops Q (o :: rest) a w := by
  refine wpList_plain hg fun K' hK' => ?_
  obtain ⟨w', hrun, r1, r2⟩ := hown.store hk ht hc hs u
  unfold Oper.wp
  simp [execOp, hop, hm, hx, hv, hrun, Result.andThen]
  exact hK' _ _ (hK w' r1 r2)
theorem wpM_delete (hg : o.guard = none) (m x : Operand) (t k : TypeId) (hop : o.op = Op.call { callee := Callee.builtin Builtin.delete, args := #[m, x], argTypes := #[t, k] }) (e : TypeId) (hk : P.underlying k = some .string) (ht : P.underlying t = some (.map k e))
    (b c : Nat) (f : Fn) (hm : a.eval m = .map (some b)) (hown : OwnM P k w b c f) (s : ByteArray) (hx : a.eval x = .string s) (hs : s.size ≤ maxLen)
    (hK : ∀ w', OwnM P k w' b (if (f s).isSome = true then c - 1 else c) (fdel f s) → w.grownBy w' (some b) → wpList P ops Q rest (a.put o.dst (.tuple #[])) w') : wpList P ops Q (o :: rest) a w := by
  refine wpList_plain hg fun K' hK' => ?_
  obtain ⟨w', hrun, r1, r2⟩ := hown.drop hk ht hs o.type
  unfold Oper.wp
  simp [execOp, hop, resolve, invoke, builtin, hm, hx, hrun, Result.andThen]
  exact hK' _ _ (hK w' r1 r2)
theorem wpM_len (hg : o.guard = none) (m : Operand) (t : TypeId) (hop : o.op = Op.call { callee := Callee.builtin Builtin.len, args := #[m], argTypes := #[t] }) (k e : TypeId) (ht : P.underlying t = some (.map k e))
    (b c : Nat) (f : Fn) (hm : a.eval m = .map (some b)) (hown : OwnM P k w b c f) (hK : wpList P ops Q rest (a.put o.dst (.int .i64 c)) w) : wpList P ops Q (o :: rest) a w := by
  obtain ⟨D, n, h, _, h1, h2, h3⟩ := hown
  refine wpList_len_own w hg m t hop k e ht RV b n D hm h ?_
  rw [h2]
  exact hK
end
end Go.Proofs.Ytbddcbbjmgepnaa

/- Classes: checkClassKeys, upsOf, comesBack, CheckClasses. -/
namespace Go.Proofs.Ytbddcbbjmgepnaa
open Go.RowKit

/-- A class: its key, the key of the one above. -/
abbrev Cla := ByteArray × ByteArray
def clC (p : Cla) : Array Value := #[.string p.1, .string p.2]
def clL (l : List Cla) : List Value := l.flatMap fun p => (clC p).toList
theorem clL_len (l : List Cla) : (clL l).length = l.length * 2 := by
  induction l with
  | nil => rfl
  | cons p l ih => rw [show clL (p :: l) = (clC p).toList ++ clL l from rfl, List.length_append, ih, List.length_cons, show (clC p).toList.length = 2 from rfl]; omega
theorem clL_at (l : List Cla) (k : Nat) (p : Cla) (hp : l[k]? = some p) : ∀ j v, (clC p).toList[j]? = some v → (clL l)[k * 2 + j]? = some v := by
  induction l generalizing k with
  | nil => simp at hp
  | cons q r ih =>
    intro j v hv
    have hl : (clC q).toList.length = 2 := rfl
    rw [show clL (q :: r) = (clC q).toList ++ clL r from rfl]
    cases k with
    | zero =>
      obtain rfl : q = p := by simpa using hp
      have hj : j < 2 := by rw [← hl]; exact (List.getElem?_eq_some_iff.1 hv).1
      rw [Nat.zero_mul, Nat.zero_add, List.getElem?_append_left (by rw [hl]; exact hj)]
      exact hv
    | succ k =>
      rw [List.getElem?_append_right (by rw [hl]; omega), hl, show (k + 1) * 2 + j - 2 = k * 2 + j by omega]
      exact ih k (by simpa using hp) j v hv
def Small (s : ByteArray) : Prop := s.size ≤ 9223372036854775807
def ClsOk (l : List Cla) : Prop := ∀ p ∈ l, Small p.1 ∧ Small p.2
/-- Not the empty string, and no key. -/
def badUp (u : ByteArray) : Bool := !u.toList.isEmpty && !keyB u
def ckErr (before : ByteArray) : List Cla → Int
  | [] => 0
  | p :: r => if keyB p.1 = false then 5 else if leB p.1 before = true then 7 else if badUp p.2 = true then 5 else ckErr p.1 r
def CkRel (w : World) (l : List Cla) (v i : Value) (wr : World) : Prop :=
  ∃ (k : Nat) (b : ByteArray), k ≤ l.length ∧ i = .int .i64 k ∧ v = .string b ∧ ckErr ⟨#[]⟩ l = ckErr b (l.drop k) ∧ G w wr none
end Go.Proofs.Ytbddcbbjmgepnaa

/- Classes: upsOf, comesBack, CheckClasses. -/
namespace Go.Proofs.Ytbddcbbjmgepnaa
open Go.RowKit

/-- What a list of classes says of the class above. -/
def upS : List Cla → ByteArray → Option ByteArray
  | [], _ => none
  | p :: r, s => match upS r s with | some u => some u | none => if s = p.1 then some p.2 else none
def sv (o : ByteArray → Option ByteArray) : Fn := fun s => (o s).map Value.string
def eF : Fn := fun _ => none
def upF (f : Fn) : List Cla → Fn
  | [] => f
  | p :: r => upF (fput f p.1 (.string p.2)) r
def upC (c : Nat) (f : Fn) : List Cla → Nat
  | [] => c
  | p :: r => upC (cput c f p.1) (fput f p.1 (.string p.2)) r
theorem upS_cons (p : Cla) (r : List Cla) (s : ByteArray) : upS (p :: r) s = match upS r s with | some u => some u | none => if s = p.1 then some p.2 else none := rfl
theorem upF_eq (f : Fn) (l : List Cla) (s : ByteArray) : upF f l s = match upS l s with | some u => some (.string u) | none => f s := by
  induction l generalizing f with
  | nil => rfl
  | cons p r ih =>
    show upF (fput f p.1 (.string p.2)) r s = _
    rw [ih, upS_cons]
    cases h : upS r s with
    | some u => rfl
    | none =>
      simp only [fput]
      by_cases e : s = p.1
      · simp [e]
      · simp [e]
theorem upF_sv (l : List Cla) : upF eF l = sv (upS l) := by
  funext s
  rw [upF_eq]
  unfold sv eF
  cases upS l s <;> rfl
theorem upC_le (c : Nat) (f : Fn) (l : List Cla) : upC c f l ≤ c + l.length := by
  induction l generalizing c f with
  | nil => simp [upC]
  | cons p r ih =>
    have h1 := ih (cput c f p.1) (fput f p.1 (.string p.2))
    have h2 : cput c f p.1 ≤ c + 1 := by unfold cput; split <;> omega
    show upC (cput c f p.1) (fput f p.1 (.string p.2)) r ≤ _
    simp only [List.length_cons]
    omega
theorem upF_snoc (f : Fn) (l : List Cla) (p : Cla) : upF f (l ++ [p]) = fput (upF f l) p.1 (.string p.2) := by
  induction l generalizing f with
  | nil => rfl
  | cons q r ih => exact ih _
theorem upC_snoc (c : Nat) (f : Fn) (l : List Cla) (p : Cla) : upC c f (l ++ [p]) = cput (upC c f l) (upF f l) p.1 := by
  induction l generalizing c f with
  | nil => rfl
  | cons q r ih => exact ih _ _
abbrev MapOf (w : World) (b c : Nat) (f : Fn) : Prop := OwnM Try.prog 9 w b c f
theorem zs_run (w : World) : (zeroValue 9).run Try.prog w = .ok (.string ⟨#[]⟩) w := by kernel_rfl
def UpsPost (l : List Cla) (w : World) (e : Ending) (w' : World) : Prop := ∃ b : Nat, e = .returned (.map (some b)) ∧ w.heap.size ≤ b ∧ MapOf w' b (upC 0 eF l) (upF eF l) ∧ G w w' none
def UpsRel (w : World) (l : List Cla) (g : Nat) (i : Value) (wr : World) : Prop :=
  ∃ k : Nat, k ≤ l.length ∧ i = .int .i64 k ∧ MapOf wr g (upC 0 eF (l.take k)) (upF eF (l.take k)) ∧ G w wr none
theorem take_snoc' {α : Type} (l : List α) (k : Nat) (p : α) (h : l[k]? = some p) : l.take (k + 1) = l.take k ++ [p] := by
  have hk := (List.getElem?_eq_some_iff.1 h).1
  rw [List.take_succ_eq_append_getElem hk, (List.getElem?_eq_some_iff.1 h).2]
end Go.Proofs.Ytbddcbbjmgepnaa

/- Classes: comesBack, CheckClasses. -/
namespace Go.Proofs.Ytbddcbbjmgepnaa
open Go.RowKit

def eS : ByteArray := ⟨#[]⟩
abbrev Up := ByteArray → Option ByteArray
def UpOk (u : Up) : Prop := ∀ s t, u s = some t → Small t
theorem sv_getD (u : Up) (s : ByteArray) : (sv u s).getD (.string ⟨#[]⟩) = .string ((u s).getD eS) := by unfold sv eS; cases u s <;> rfl
theorem sv_isSome (u : Up) (s : ByteArray) : (sv u s).isSome = (u s).isSome := by unfold sv; cases u s <;> rfl
theorem Small.eS : Small eS := by show (0 : Nat) ≤ _; omega
theorem UpOk.get {u : Up} (h : UpOk u) (s : ByteArray) : Small ((u s).getD eS) := by
  cases hu : u s with
  | none => exact Small.eS
  | some t => exact h s t hu
theorem upS_ok {l : List Cla} (h : ClsOk l) : UpOk (upS l) := by
  induction l with
  | nil => intro s t e; cases e
  | cons p r ih =>
    intro s t e
    rw [upS_cons] at e
    cases hr : upS r s with
    | some v => rw [hr] at e; cases e; exact ih (fun q hq => h q (List.mem_cons_of_mem _ hq)) s _ hr
    | none =>
      rw [hr] at e
      dsimp only at e
      split at e
      · cases e; exact (h p (by simp)).2
      · cases e
section
variable {w : World} {ops : Array Oper} {rest : List Oper} {o : Oper} {a : Act} {Q : Exit → Act → World → Prop}
end
def eqB (a b : ByteArray) : Bool := a.toList == b.toList
theorem eqB_iff {a b : ByteArray} : eqB a b = true ↔ a = b := by
  unfold eqB
  rw [beq_iff_eq]
  constructor
  · intro h
    apply Go.WideShapes.bytes_inj
    rw [ByteArray.toList_eq, ByteArray.toList_eq] at h
    exact h
  · intro h; rw [h]
/-- So many steps up come to the key. -/
def cbk (u : Up) (key : ByteArray) : Nat → ByteArray → Bool
  | 0, _ => false
  | n + 1, up => if eqB up key = true then true else cbk u key n ((u up).getD eS)
def cbB (u : Up) (c : Nat) (key : ByteArray) : Bool := cbk u key c ((u key).getD eS)
def CbRel (u : Up) (c : Nat) (key : ByteArray) (v i : Value) : Prop :=
  ∃ (k : Nat) (up : ByteArray), k ≤ c ∧ i = .int .i64 k ∧ v = .string up ∧ Small up ∧ cbB u c key = cbk u key (c - k) up
/-! ### CheckClasses -/
def badKnown (u : Up) (p : Cla) : Bool := !p.2.toList.isEmpty && !(u p.2).isSome
def clTail (u : Up) (c : Nat) (l : List Cla) : Int := if l.any (badKnown u) = true then 8 else if l.any (fun p => cbB u c p.1) = true then 14 else 0
def clErr (l : List Cla) : Int :=
  if 30 < l.length then 2 else if ckErr ⟨#[]⟩ l = 0 then clTail (upS l) (upC 0 eF l) l else ckErr ⟨#[]⟩ l
def C1Rel (w : World) (l : List Cla) (u : Up) (c g : Nat) (i : Value) (wr : World) : Prop :=
  ∃ k : Nat, k ≤ l.length ∧ i = .int .i64 k ∧ (l.take k).any (badKnown u) = false ∧ MapOf wr g c (sv u) ∧ G w wr none
def C2Rel (w : World) (l : List Cla) (u : Up) (c g : Nat) (i : Value) (wr : World) : Prop :=
  ∃ k : Nat, k ≤ l.length ∧ i = .int .i64 k ∧ (l.take k).any (fun p => cbB u c p.1) = false ∧ MapOf wr g c (sv u) ∧ G w wr none
theorem any_of_at {α : Type} (q : α → Bool) (l : List α) (k : Nat) (p : α) (hp : l[k]? = some p) (hq : q p = true) : l.any q = true := List.any_eq_true.2 ⟨p, List.mem_of_getElem? hp, hq⟩
end Go.Proofs.Ytbddcbbjmgepnaa
