/- Laid. -/
import Derived.Test.YtbddcbbjmgepnaaDoorRows
import Derived.Test.YtbddcbbjmgepnaaDoorTie
import Derived.Test.YtbddcbbjmgepnaaDoorCards
import Derived.Test.YtbddcbbjmgepnaaDoorZh2
import Derived.LaidMore
import Derived.ChangeSame
import Derived.ProofKit
import Derived.OpenShut
import Derived.PinnedBridge
import Derived.Deep.DeepHandedRow
import Derived.Deep.DeepWitnessRowRef
/- What the row's list of variables gives; a start that meets it. -/
namespace Go.Proofs.YtbddcbbjmgepnaaDoor
open Go.ChangeShapes Go.WideShapes Go.ChangeAt Go.RowKit

theorem own : ownKnob Tryd.prog.godebug = none := by kernel_rfl
theorem gCh : Tryd.prog.globalNamed "forecourt/basic.changes" = some 0 := by kernel_rfl
theorem tCh : (Tryd.prog.globals[0]?).map (·.type) = some 140 := by kernel_rfl
abbrev laid3 {H : Type} : DataW H := Rows.laid_forecourt_basic_changes
/-- What the table of the changes holds. -/
def chL : List (Int × Int) := [(0, 0), (0, 1), (1, 2), (2, 1), (1, 3), (3, 1), (1, 4), (4, 1), (1, 5)]
def ChT (w : World) : Prop := 0 < w.heap.size ∧ ∀ (i : Nat) (a b : Int), chL[i]? = some (a, b) → w.cell? ⟨0, i * 2, none⟩ = some (.int .i64 a) ∧ w.cell? ⟨0, i * 2 + 1, none⟩ = some (.int .i64 b)
theorem ChT.gl {w : World} (h : ChT w) : Gl w := ⟨(h.2 1 0 1 rfl).1, (h.2 1 0 1 rfl).2, h.1⟩
theorem c9 : Tryd.prog.cellsOf 139 = 2 := by kernel_rfl
theorem c1 : Tryd.prog.cellsOf 3 = 1 := by kernel_rfl
theorem c18 : Tryd.prog.cellsOf 140 = 18 := by kernel_rfl
set_option maxRecDepth 100000 in
theorem laid_eq {H : Type} : (Rows.laid_forecourt_basic_changes : DataW H) = .agg (chL.map fun q : Int × Int => (DataW.agg [.lit (.int .i64 q.1), .lit (.int .i64 q.2)] : DataW H)) := by
  unfold Rows.laid_forecourt_basic_changes chL
  simp only [List.map_cons, List.map_nil]
set_option maxRecDepth 100000 in
theorem ch_of_trod {H : Type} {enc : TypeId × Value → H} {W : World} {fuel : Nat} {cs : List Value} {p : List MemPlace} {sp : Nat → Bool} {hd0 : Bool}
    (h : DataW.trod enc Tryd.prog W 0 sp hd0 fuel 140 cs = some (Rows.laid_forecourt_basic_changes, p)) :
    ∀ (i : Nat) (a b : Int), chL[i]? = some (a, b) → cs[i * 2]? = some (.int .i64 a) ∧ cs[i * 2 + 1]? = some (.int .i64 b) := by
  obtain ⟨xs, m, rfl, hx, hlen, hn, hel⟩ := DataW.trod_array Tryd.underlying140 h
  simp only [Prod.mk.injEq] at hx
  intro i a b hi
  have hi9 : i < 9 := (List.getElem?_eq_some_iff.1 hi).1
  have he := hel i hi9
  rw [c9] at he
  obtain ⟨y, hy⟩ : ∃ y, xs[i]? = some y := ⟨_, List.getElem?_eq_getElem (by omega)⟩
  rw [hy] at he
  have hd : (chL.map fun q : Int × Int => (DataW.agg [.lit (.int .i64 q.1), .lit (.int .i64 q.2)] : DataW H))[i]? = some y.1 := by
    have e2 := laid_eq.symm.trans hx.1
    injection e2 with e3
    rw [e3, List.getElem?_map, hy]
    rfl
  rw [List.getElem?_map, hi] at hd
  have hd' : (DataW.agg [.lit (.int .i64 a), .lit (.int .i64 b)] : DataW H) = y.1 := by simpa using hd
  obtain ⟨y0, y1, n, hyy, hl2, h0, h1⟩ := trod_struct2 Tryd.underlying139 he
  rw [hyy] at hd'
  simp only [DataW.agg.injEq, List.cons.injEq, and_true] at hd'
  dsimp only at h0 h1
  rw [c1] at h0 h1
  obtain ⟨k0, e0, f0, _⟩ := DataW.trod_int Tryd.underlying3 h0
  obtain ⟨k1, e1, f1, _⟩ := DataW.trod_int Tryd.underlying3 h1
  have g0 : k0 = a := by
    have := congrArg Prod.fst f0
    rw [← hd'.1] at this
    simpa using this.symm
  have g1 : k1 = b := by
    have := congrArg Prod.fst f1
    rw [← hd'.2] at this
    simpa using this.symm
  subst g0
  subst g1
  have q0 : (((cs.drop (i * 2)).take 2).drop 0).take 1 = [.int .i64 k0] := e0
  have q1 : (((cs.drop (i * 2)).take 2).drop 1).take 1 = [.int .i64 k1] := e1
  constructor
  · have := congrArg (fun l : List Value => l[0]?) q0
    simpa using this
  · have := congrArg (fun l : List Value => l[0]?) q1
    simpa using this

def laidL : List (String × DataW Unit) := [("unicode/utf8.acceptRanges", Rows.laid_unicode_utf8_acceptRanges), ("forecourt/basic.changes", Rows.laid_forecourt_basic_changes), ("unicode/utf8.first", Rows.laid_unicode_utf8_first)]
theorem of_laid {W : World} (h : laidMetH Tryd.prog laidL W) : ChT W := by
  rw [MakeChecks.laidMetH_plain _ _ _ (by kernel_rfl)] at h
  obtain ⟨ps, ⟨g0, t0, cs0, f0, p0, q0, hg0, ht0, hv0, hd0, ⟨g1, t1, cs1, f1, p1, q1, hg1, ht1, hv1, hd1, _, _⟩, _⟩, _, _⟩ := h
  obtain rfl := Option.some.inj (gCh.symm.trans hg1)
  obtain rfl := Option.some.inj (tCh.symm.trans ht1)
  have hc := fun j => World.var?_cell hg1 hv1 j
  have ht := ch_of_trod hd1
  have hat : ∀ (i : Nat) (a b : Int), chL[i]? = some (a, b) → W.cell? ⟨0, i * 2, none⟩ = some (.int .i64 a) ∧ W.cell? ⟨0, i * 2 + 1, none⟩ = some (.int .i64 b) := by
    intro i a b hi
    obtain ⟨h1, h2⟩ := ht i a b hi
    rw [Array.getElem?_toList] at h1 h2
    exact ⟨(hc _).trans h1, (hc _).trans h2⟩
  refine ⟨?_, hat⟩
  have h0 := (hat 0 0 0 rfl).1
  unfold World.cell? at h0
  split at h0
  · rename_i he
    exact (Array.getElem?_eq_some_iff.1 he).1
  · cases h0
/-- A start that meets the list: what the door's run leaves, Go's own table laid by hand. -/
noncomputable def laidWorld (os : Os) : World :=
  { World.doorLaid Tryd.prog 200 os with heap := (World.doorLaid Tryd.prog 200 os).heap.modify 2 fun
      | .cells _ t fr => .cells (Lib.firstTab.map (Value.int .u8)).toArray t fr
      | o => o }
set_option maxRecDepth 100000 in
theorem laid_met (os : Os) : laidMetH Tryd.prog laidL ((laidWorld os).forCall (fun _ _ => 0) ⟨#[], #[.slice none 0 0], []⟩).memory :=
  laidMetH_of_parts3 (fuel := 8) (laidMet_of_run' 8 (by kernel_rfl) (by kernel_rfl)) (by kernel_rfl) (by kernel_rfl)

/-! ### The row's last step -/
section
variable {H : Type} {enc : TypeId × Value → H} {P : Program}
theorem post_quiet {f : Func} {s : ChangeSpec} {apart fresh handsOn again : Bool} {W W' : World} {args : Array Value} {v : Value} {ds gs : List (DataW H)} {before pa pv : List MemPlace}
    (hW : DataW.Whole enc P f.params.toList s.vars apart W args.toList ds gs before) (hg : G W W' none)
    (hres : ∀ (b : Nat) (sp : Nat → Bool) (hd : Bool), DataW.TrodAll enc P W' b sp hd f.resultTypes.toList (v.resultList f.resultTypes.size) (s.fn H (ds ++ gs)).results [])
    (hargs : ∀ sp : Nat → Bool, (∀ p ∈ before, sp p.block = true) → DataW.TrodAll enc P W' 0 sp true f.params.toList args.toList (s.fn H (ds ++ gs)).args pa)
    (hvars : ∀ sp : Nat → Bool, (∀ p ∈ before, sp p.block = true) → DataW.TrodVars enc P W' sp s.vars (s.fn H (ds ++ gs)).vars pv)
    (hps : before = pa ++ pv)
    (hok : ∀ (j : Nat) (t : TypeId) (r : Value), f.resultTypes[j]? = some t → (v.resultList f.resultTypes.size)[j]? = some r → Value.okWide P W' .any 0 t r) :
    s.post enc P f apart fresh handsOn again W args v W' := by
  have hb := hg.below
  have lt : ∀ p ∈ before, p.block < W.heap.size := fun p hp => hW.lt p hp
  have old : ∀ p ∈ before, (fun b => decide (b < W.heap.size)) p.block = true := fun p hp => decide_eq_true (lt p hp)
  have sub : ∀ p, p ∈ ([] ++ pa) ++ pv → p ∈ before := fun p hp => by rw [hps]; simpa using hp
  refine ⟨ds, gs, before, [], pa, pv, hW, hres _ _ _, hargs _ old, hvars _ old, World.keptBut_mono (fun p hp => ⟨hp, .inr (by rw [← List.mem_append, ← hps]; exact hp)⟩) (hb.frame (· ∈ before)), fun _ => ⟨hok, ?_⟩⟩
  obtain ⟨_, _, _, _, _, hz, hn⟩ := hW
  refine ⟨_, _, ([] ++ pa) ++ pv, ⟨[] ++ pa, pv, trodAll_append (hargs _ fun _ _ => rfl) (hres _ _ _), hvars _ fun _ _ => rfl, rfl, fun b off hp => ?_, fun ha => ?_⟩, fun p hp _ => sub p hp⟩
  · rw [hb.frozen (lt _ (sub _ hp))]
    exact hz b off (sub _ hp)
  · have h := hn ha
    rw [hps] at h
    simpa using h
end
theorem laidOut : laidOutB Tryd.prog = true := by kernel_rfl
theorem wf64 {n : Int} (h : (Lit.int .i64 n).wf = true) : -9223372036854775808 ≤ n ∧ n ≤ 9223372036854775807 := by
  have h1 : IntKind.i64.min = -9223372036854775808 := rfl
  have h2 : IntKind.i64.max = 9223372036854775807 := rfl
  simp only [Lit.wf, Bool.and_eq_true, decide_eq_true_eq] at h
  omega
set_option maxRecDepth 100000 in
theorem has_of_ok {W : World} {base : Nat} {a : Addr} {n c : Nat} (hok : Value.okWide Tryd.prog W .any base 22 (.slice (some a) n c)) : a.spot = none ∧ a.block < W.heap.size := by
  simp only [Value.okWide, Tryd.underlying22, Cell.okWide, Cell.ok] at hok
  obtain ⟨_, _, _, h2, row, cells, h3, _⟩ := hok
  refine ⟨h2, ?_⟩
  unfold World.shape? at h3
  cases hh : W.heap[a.block]? with
  | none => simp [hh] at h3
  | some o => exact (Array.getElem?_eq_some_iff.1 hh).1
set_option maxRecDepth 100000 in
/-- The list of numbers that came in, as the walk wants it. -/
theorem rd_of_trod {H : Type} {enc : TypeId × Value → H} {W : World} {base : Nat} {v : Value} {d : DataW H} {p : List MemPlace} (hok : Value.okWide Tryd.prog W .any base 22 v) (h : DataW.Trod enc Tryd.prog W 0 (fun _ => true) true 22 v d p) :
    ∃ (a : Option Addr) (n c : Nat) (zs : List Int), v = .slice a n c ∧ Rd W 1 (.slice a n c) n (zs.map (Value.int .i64)) ∧ ∀ z ∈ zs, -9223372036854775808 ≤ z ∧ z ≤ 9223372036854775807 := by
  obtain ⟨a0, len, cap, rfl⟩ := okWide_slice Tryd.underlying22 hok
  obtain ⟨fuel, hf⟩ := h
  rcases open_ints Tryd.underlying22 Tryd.underlying3 c1 hf with ⟨hcs, _⟩ | ⟨a, len', cap', zs, hcs, _, hl, hm, hz, _, hcell, hw⟩
  · have hcs' : [Value.slice a0 len cap] = [Value.slice none 0 0] := hcs
    injection hcs' with e _
    injection e with e1 e2 e3
    subst e1; subst e2; subst e3
    exact ⟨none, 0, 0, [], rfl, ⟨none, 0, rfl, Nat.le_refl _, Nat.zero_le _, rfl, fun _ => ⟨rfl, rfl⟩, fun b hb => by cases hb⟩, fun z hz => by cases hz⟩
  · have hcs' : [Value.slice a0 len cap] = [Value.slice (some a) len' cap'] := hcs
    injection hcs' with e _
    injection e with e1 e2 e3
    subst e1; subst e2; subst e3
    simp only [if_true] at hz
    obtain ⟨s1, s2⟩ := has_of_ok hok
    refine ⟨some a, len, cap, zs.take len, rfl, ⟨some a, cap, rfl, hl, hm, by simp; omega, (fun e => by cases e), fun b hb => ?_⟩, fun z hz' => wf64 (hw z (List.mem_of_mem_take hz'))⟩
    obtain rfl := Option.some.inj hb
    refine ⟨s1, s2, fun j u hj => ?_⟩
    rw [List.getElem?_map] at hj
    obtain ⟨z, hz1, rfl⟩ := Option.map_eq_some_iff.1 hj
    have hjl := (List.getElem?_eq_some_iff.1 hz1).1
    simp at hjl
    have hc := hcell j (by omega)
    have hz2 : zs[j]? = some z := by rw [← hz1, List.getElem?_take, if_pos (by omega)]
    rw [List.getD, hz2] at hc
    have ha : a.add j = ⟨a.block, a.off + j, none⟩ := by
      obtain ⟨ab, ao, asp⟩ := a
      dsimp only at s1
      subst s1
      exact add_at ab ao j
    rw [ha] at hc
    exact hc
end Go.Proofs.YtbddcbbjmgepnaaDoor
