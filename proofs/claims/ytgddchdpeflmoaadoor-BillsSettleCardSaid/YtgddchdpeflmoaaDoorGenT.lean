/- Generator: Stations. -/
import Derived.Test.YtgddchdpeflmoaaDoorGenS
namespace Go.Proofs.YtgddchdpeflmoaaDoor
open Go.RowKit

/-- A station: its key, its hours. -/
abbrev Sta := ByteArray × (Nat → Int)
def stL (l : List Sta) : List Value := l.flatMap fun p => (stC p.1 p.2).toList
theorem stL_len (l : List Sta) : (stL l).length = l.length * 15 := by
  induction l with
  | nil => rfl
  | cons p l ih => rw [show stL (p :: l) = (stC p.1 p.2).toList ++ stL l from rfl, List.length_append, ih, List.length_cons, show (stC p.1 p.2).toList.length = 15 from rfl]; omega
theorem stL_snoc (l : List Sta) (p : Sta) : stL (l ++ [p]) = stL l ++ (stC p.1 p.2).toList := by simp [stL]
def StsKeys : List ByteArray := [⟨#[115, 49]⟩, ⟨#[115, 50]⟩, ⟨#[115, 51]⟩]
/-- A row of stations that the call owns. -/
def OwnSts (w : World) (base : Nat) (v : Value) (l : List Sta) : Prop := w.ownsRow base 59 15 v l.length (stL l)
def StationsPost (s K : Nat) (w : World) (e : Ending) (w' : World) : Prop :=
  ∃ (v : Value) (l : List Sta), e = .returned v ∧ l.length ≤ 3 ∧ OwnSts w' (w.heap.size + 1) v l ∧ (∀ p ∈ l, p.1 ∈ StsKeys ∧ HB p.2) ∧ SB w' s (K + 80) ∧ G w w' (some s)
def StsRel (w : World) (s K : Nat) (v i : Value) (wr : World) : Prop :=
  ∃ (k : Nat) (l : List Sta), k ≤ 3 ∧ l.length ≤ k ∧ i = .int .i64 k ∧ OwnSts wr (w.heap.size + 1) v l ∧ (∀ p ∈ l, p.1 ∈ StsKeys ∧ HB p.2) ∧ SB wr s (K + 25 * k) ∧ G w wr (some s) ∧ Bk wr w.heap.size 9 #[.string ⟨#[115, 49]⟩, .string ⟨#[115, 50]⟩, .string ⟨#[115, 51]⟩]
theorem st_row : (Tryd.prog.info? 59).map (fun i => (i.zero, i.size, i.bytes)) = some (some (.agg (stC ⟨#[]⟩ (fun _ => 0))), 15, 128) := by kernel_rfl
theorem stC_one (r : ByteArray) (h : Nat → Int) : ∀ u ∈ (stC r h).toList, u.oneCell' = true := by
  intro u hu
  simp [stC] at hu
  rcases hu with rfl | rfl | rfl | rfl | rfl | rfl | rfl | rfl | rfl | rfl | rfl | rfl | rfl | rfl | rfl <;> rfl
theorem Bk.at_ {w : World} {g : Nat} {T : TypeId} {cs : Array Value} (h : Bk w g T cs) : ∀ j u, cs.toList[j]? = some u → w.cell? ((⟨g, 0, none⟩ : Addr).add j) = some u := by
  intro j u hu
  rw [Addr.add_lit, h.cell]
  simpa using hu
/-- A station more behind a row of the call's own. -/
theorem wpList_append_sts {w : World} {ops : Array Oper} {rest : List Oper} {o : Oper} {a : Act} {Q : Exit → Act → World → Prop} (hgd : o.guard = none) (s x : Operand)
    (ho : o.op = .call { callee := .builtin .append, args := #[s, x], argTypes := #[89, 89] }) (base : Nat) (v : Value) (l : List Sta) (hs : a.eval s = v) (hown : OwnSts w base v l)
    (g : Nat) (r : ByteArray) (h : Nat → Int) (hx : a.eval x = .slice (some ⟨g, 0, none⟩) 1 1) (hb : Bk w g 59 (stC r h)) (hl : l.length ≤ 1000) (hbase : base ≤ w.heap.size)
    (hK : ∀ v' w', OwnSts w' base v' (l ++ [(r, h)]) → w.grownBy w' v.ownBlock → wpList Tryd.prog ops Q rest (a.put o.dst v') w') : wpList Tryd.prog ops Q (o :: rest) a w := by
  obtain ⟨i0, hi, hz0, hz1, hz2⟩ := info_parts st_row
  refine wpList_append_own w hgd s x 89 ho base 59 i0 _ 15 128 Tryd.underlying89 hi hz0 hz1 hz2 rfl (by decide) v l.length (stL l) hs hown ⟨g, 0, none⟩ 1 1 (stC r h).toList hx rfl hb.at_ (stC_one r h) (by unfold maxLen; omega) (by omega) hbase ?_
  intro v' w' h1 h2 _
  refine hK v' w' ?_ h2
  unfold OwnSts
  rw [List.length_append, stL_snoc]
  exact h1
/-- What stands at the head of the loop over a station's days. -/
def DayRel (w : World) (s K g : Nat) (key : ByteArray) (v : Value) (l : List Sta) (i : Value) (wr : World) : Prop :=
  ∃ (k : Nat) (hh : Nat → Int), k ≤ 7 ∧ i = .int .i64 k ∧ HB hh ∧ Bk wr g 59 (stC key hh) ∧ SB wr s (K + 3 * k) ∧ G w wr (some s) ∧ OwnSts wr (w.heap.size + 1) v l ∧ Bk wr w.heap.size 9 #[.string ⟨#[115, 49]⟩, .string ⟨#[115, 50]⟩, .string ⟨#[115, 51]⟩]
theorem OwnSts.kept {w w' : World} {base : Nat} {v : Value} {l : List Sta} {s : Nat} (h : OwnSts w base v l) (hg : G w w' (some s)) (hs : s < base) : OwnSts w' base v l := by
  refine World.ownsRow.kept h hg (.inr fun e => ?_)
  have := (World.ownsRow.lt h s e).1
  omega
theorem OwnSts.alloc {w : World} {base : Nat} {v : Value} {l : List Sta} (h : OwnSts w base v l) (o : Obj) : OwnSts (w.alloc o) base v l := World.ownsRow.alloc h o
theorem OwnSts.setCell {w : World} {base : Nat} {v : Value} {l : List Sta} (h : OwnSts w base v l) {p : Addr} (hp : v.ownBlock ≠ some p.block) (u : Value) : OwnSts (w.setCell p u) base v l :=
  World.ownsRow.kept h (grownBy_setCell_row w p u) (.inr hp)
end Go.Proofs.YtgddchdpeflmoaaDoor
