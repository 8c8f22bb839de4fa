/- Bsl, Lay. -/
import Derived.Test.YtndeidcddlmhbaaDoorZb2
import Derived.Test.YtndeidcddlmhbaaDoorZb3
import Derived.Test.YtndeidcddlmhbaaDoorRows
import Derived.Test.YtndeidcddlmhbaaDoorTie
import Derived.Test.YtndeidcddlmhbaaDoorCards
import Derived.Test.YtndeidcddlmhbaaDoorZb1
import Derived.LaidMore
import Derived.ChangeSame
import Derived.ProofKit
import Derived.OpenShut
import Derived.PinnedBridge
import Derived.Deep.DeepHandedRow
import Derived.Deep.DeepWitnessRowRef
/- The law BillsSettle. -/
namespace Go.Proofs.YtndeidcddlmhbaaDoor
open Go.RowKit

set_option maxRecDepth 100000 in
set_option maxHeartbeats 8000000 in
theorem billsSettle_c (a : Option Addr) (n c : Nat) (zs : List Int) (W : World) (hr : Rd W 1 (.slice a n c) n (zs.map (Value.int .i64))) (hz : ∀ z ∈ zs, -9223372036854775808 ≤ z ∧ z ≤ 9223372036854775807) :
    Calls Tryd.prog 9 #[.slice a n c] W fun e W' => e = .returned (.bool true) ∧ G W W' none := by
  have hSB : SB (W.alloc (.cells #[.slice a n c, .int .i64 0] 25)) W.heap.size 0 := by
    have hB := Bk.new W 25 #[.slice a n c, .int .i64 0]
    refine ⟨0, a, n, c, zs, Nat.le_refl _, hr.quiet ((G.refl _ _).alloc _), fun b e => ?_, hz, hB.cell 0, hB.cell 1, hB.free 1, hB.lt⟩
    obtain ⟨a', c', e', r1, r2, r3, r4, r5⟩ := hr
    cases e'
    exact (r5 b e).2.1
  have hG0 : G W (W.alloc (.cells #[.slice a n c, .int .i64 0] 25)) (some W.heap.size) := (G.refl _ _).alloc _
  clear hr hz
  go_enter Tryd.func9, Tryd.ntmps9
  go_wp2_with fail
  refine (rightDeal_c _ W.heap.size 0 hSB (by omega)).mono ?_; rintro e w1 ⟨x, rfl, hx, hSB1, hG1⟩
  have hC := Lib.hid (fun w => checkDeal_c x w)
  rw [hx] at hC
  have hSE := Lib.hid (fun v l p w => settle_c x v l p w)
  have hok := deE_ok hx
  have hse : Hid (∀ l p, liE l = 0 → inB p 0 1000000000 = true → seE x l p = 0 ∧ seL x l p = p + x.dep - liS l) := Lib.hid fun l p h1 h2 => by
    have h3 : seE x l p = 0 := by simp [seE, hx, h1, h2]
    exact ⟨h3, by simp [seL, h3]⟩
  clear hx
  obtain ⟨a0, a1, a2, a3, a4, a5, a6⟩ := x
  rw [show deC ⟨a0, a1, a2, a3, a4, a5, a6⟩ = #[.int .i64 a0, .int .i64 a1, .int .i64 a2, .int .i64 a3, .int .i64 a4, .int .i64 a5, .int .i64 a6] from rfl] at *
  have hdep : Hid (0 ≤ a6 ∧ a6 ≤ 1000000) := Lib.hid hok.2.2.2.2.2.2
  have hG01 := hG0.trans hG1
  clear hok hSB hG0 hG1
  go_wp2_with fail
  refine (billLines_c _ _ _ hSB1 (by omega)).mono ?_; rintro e w2 ⟨v, l, rfl, hown, hl, hn, hSB2, hG2⟩
  have hG02 := hG01.trans hG2
  have hs1 := hSB1.lt
  clear hSB1 hG01 hG2
  go_wp2_with fail
  refine (pick_c _ _ _ [0, 100, 99999] _ _ _ (hSB2.alloc _) (by omega) (by decide) (by decide) (Rd.newAt _ rfl rfl (by decide)) (hSB2.newAt _ _ _ (Nat.le_refl _))).mono ?_; rintro e w3 ⟨p, rfl, hp, hSB3, hG3⟩
  have hp0 : 0 ≤ p ∧ p ≤ 99999 := by simp only [List.mem_cons, List.mem_nil_iff, or_false] at hp; omega
  have HP : Hid (inB p 0 1000000000 = true) := Lib.hid (by simp [inB]; omega)
  have hG03 := (hG02.alloc (.cells _ 3)).trans hG3
  have hL4 := Rd.quiet (Rd.of_owns (OwnX.kept (OwnX.alloc hown (.cells _ 3)) hG3 hs1)) ((G.refl _ _).alloc (.cells #[.int .i64 a0, .int .i64 a1, .int .i64 a2, .int .i64 a3, .int .i64 a4, .int .i64 a5, .int .i64 a6] 112))
  have hN4 := Bk.new w3 112 #[.int .i64 a0, .int .i64 a1, .int .i64 a2, .int .i64 a3, .int .i64 a4, .int .i64 a5, .int .i64 a6]
  have hG04 := (hG03.alloc (.cells #[.int .i64 a0, .int .i64 a1, .int .i64 a2, .int .i64 a3, .int .i64 a4, .int .i64 a5, .int .i64 a6] 112)).own (Nat.le_refl _)
  clear hSB2 hSB3 hG02 hG03 hG3 hp hown
  go_wp2_with fail
  generalize w3.alloc (.cells #[.int .i64 a0, .int .i64 a1, .int .i64 a2, .int .i64 a3, .int .i64 a4, .int .i64 a5, .int .i64 a6] 112) = w4 at hL4 hN4 hG04 ⊢
  generalize w3.heap.size = g at hN4 ⊢
  refine (linesFault_c v l _ hL4 hl (by omega)).mono ?_; rintro e w5 ⟨rfl, hG5⟩
  have hL5 := Rd.quiet hL4 hG5
  have hN5 := hN4.quiet hG5
  have hG05 := hG04.trans hG5
  clear hL4 hN4 hG04 hG5
  by_cases h : liE l = 0
  · obtain ⟨q1, q2⟩ := hse.out l p h HP.out
    have hSEp : Hid (∀ w, Rd w 3 v l.length (rowL liC l) → Calls Tryd.prog 77 #[.agg #[.int .i64 a0, .int .i64 a1, .int .i64 a2, .int .i64 a3, .int .i64 a4, .int .i64 a5, .int .i64 a6], v, .int .i64 p] w fun e w' => e = .returned (.tuple #[.int .i64 (max 0 (p + a6 - liS l)), .int .i64 (max 0 (-(p + a6 - liS l))), .int .i64 0]) ∧ G w w' none) := Lib.hid fun w hw => by
      have := hSE.out v l p w hw hl (by omega)
      rw [q1, q2] at this
      exact this
    have hTOp : Hid (∀ w, Rd w 3 v l.length (rowL liC l) → Calls Tryd.prog 78 #[v] w fun e w' => e = .returned (.tuple #[.int .i64 (liS l), .int .i64 0]) ∧ G w w' none) := Lib.hid fun w hw => by
      have := total_c v l w hw hl (by omega)
      rw [toN, if_pos h, h] at this
      exact this
    obtain ⟨hb, hlen⟩ := liE_ok h
    have hbn := liS_bnd l hb l.length (Nat.le_refl _)
    rw [List.take_length] at hbn
    have hbn : -6000000000 ≤ liS l ∧ liS l ≤ 6000000000 := by omega
    rw [h]
    clear h q1 q2 hb hlen hSE hse hC hl
    generalize liS l = S at hSEp hTOp hbn ⊢
    have hdp := hdep.out
    go_wp2_with (refine wpList_load_row rfl 112 _ rfl g rfl 112 #[.int .i64 a0, .int .i64 a1, .int .i64 a2, .int .i64 a3, .int .i64 a4, .int .i64 a5, .int .i64 a6] (0, 0) _ hN5 Tryd.underlying112 rfl (de_info ⟨a0, a1, a2, a3, a4, a5, a6⟩) ?_)
    refine (hSEp.out _ hL5).mono ?_; rintro e w6 ⟨rfl, hG6⟩
    have hL6 := Rd.quiet hL5 hG6
    have hN6 := hN5.quiet hG6
    have hG06 := hG05.trans hG6
    clear hL5 hN5 hG05 hG6 hSEp
    go_wp2_with fail
    refine (hTOp.out _ hL6).mono ?_; rintro e w7 ⟨rfl, hG7⟩
    have hN7 := hN6.quiet hG7
    have hG07 := hG06.trans hG7
    clear hL6 hN6 hG06 hG7 hTOp
    have c6 : w7.cell? ⟨g, 6, none⟩ = some (.int .i64 a6) := hN7.cell 6
    have hw1 : IntKind.i64.wrap (p + a6) = p + a6 := by rw [IntKind.wrap_i64]; omega
    obtain ⟨B, hB⟩ : ∃ B, p + a6 - S = B := ⟨_, rfl⟩
    have hw2 : IntKind.i64.wrap (p + a6 - S) = B := by rw [IntKind.wrap_i64]; omega
    have hBb : -7000000000 ≤ B ∧ B ≤ 7000000000 := by omega
    rw [hB]
    clear hN7 hbn hdp hp0
    rcases (show B = 0 ∨ 0 < B ∨ B < 0 by omega) with h0 | h0 | h0
    · have HB := Lib.hid hB
      subst h0
      have e1 : max (0 : Int) 0 = 0 := rfl
      have e2 : -(0 : Int) = 0 := rfl
      rw [e2, e1]
      clear hB e1 e2
      go_wp2_with fail
      refine (ready_c _).mono ?_; rintro e w8 ⟨rfl, hG8⟩
      go_wp2_with fail
      go_ret
      exact ⟨rfl, hG07.trans hG8⟩
    · have e1 : max 0 B = B := by omega
      have e2 : max 0 (-B) = 0 := by omega
      rw [e1, e2]
      have hw3 : IntKind.i64.wrap (B - 0) = B := by rw [IntKind.wrap_i64]; omega
      have hn0 : (B == 0) = false := by simp; omega
      have hge : 0 ≤ B := by omega
      clear hB e1 e2
      go_wp2_with fail
      refine (ready_c _).mono ?_; rintro e w8 ⟨rfl, hG8⟩
      go_wp2_with fail
      go_ret
      exact ⟨rfl, hG07.trans hG8⟩
    · have e1 : max 0 B = 0 := by omega
      obtain ⟨C, hC⟩ : ∃ C, -B = C := ⟨_, rfl⟩
      have e2 : max 0 C = C := by omega
      rw [hC, e1, e2]
      have hw3 : IntKind.i64.wrap (-C) = B := by rw [IntKind.wrap_i64]; omega
      have hw4 : wrap64 (-C) = B := by unfold wrap64; omega
      have hge : 0 ≤ C := by omega
      have hn0 : (C == 0) = false := by simp; omega
      clear hB hC e1 e2
      go_wp2_with fail
      refine (ready_c _).mono ?_; rintro e w8 ⟨rfl, hG8⟩
      go_wp2_with fail
      go_ret
      exact ⟨rfl, hG07.trans hG8⟩
  · have h' : (liE l != 0) = true := by simpa using h
    clear h hSE hse hL5
    go_wp2_with (refine wpList_load_row rfl 112 _ rfl g rfl 112 #[.int .i64 a0, .int .i64 a1, .int .i64 a2, .int .i64 a3, .int .i64 a4, .int .i64 a5, .int .i64 a6] (0, 0) _ hN5 Tryd.underlying112 rfl (de_info ⟨a0, a1, a2, a3, a4, a5, a6⟩) ?_)
    refine (hC.out _).mono ?_; rintro e w6 ⟨rfl, hG6⟩
    go_wp2_with fail
    refine (ready_c _).mono ?_; rintro e w8 ⟨rfl, hG8⟩
    go_wp2_with fail
    go_ret
    exact ⟨rfl, (hG05.trans hG6).trans hG8⟩
end Go.Proofs.YtndeidcddlmhbaaDoor

/- What the row's list of variables gives; a start that meets it. -/
namespace Go.Proofs.YtndeidcddlmhbaaDoor
open Go.ChangeShapes Go.WideShapes Go.ChangeAt Go.RowKit

theorem own : ownKnob Tryd.prog.godebug = none := by kernel_rfl
theorem c1 : Tryd.prog.cellsOf 3 = 1 := by kernel_rfl
def laidL : List (String × DataW Unit) := [("unicode/utf8.acceptRanges", Rows.laid_unicode_utf8_acceptRanges), ("unicode/utf8.first", Rows.laid_unicode_utf8_first)]
/-- A start that meets the list: what the door's run leaves, Go's own table laid by hand. -/
noncomputable def laidWorld (os : Os) : World :=
  { World.doorLaid Tryd.prog 200 os with heap := (World.doorLaid Tryd.prog 200 os).heap.modify 1 fun
      | .cells _ t fr => .cells (Lib.firstTab.map (Value.int .u8)).toArray t fr
      | o => o }
set_option maxRecDepth 100000 in
theorem laid_met (os : Os) : laidMetH Tryd.prog laidL ((laidWorld os).forCall (fun _ _ => 0) ⟨#[], #[.slice none 0 0], []⟩).memory :=
  laidMetH_of_parts3 (fuel := 8) (laidMet_of_run' 8 (by kernel_rfl) (by kernel_rfl)) (by kernel_rfl) (by kernel_rfl)

/-! ### The row's last step -/
section
variable {H : Type} {enc : TypeId × Value → H} {P : Program}
theorem post_quiet {f : Func} {s : ChangeSpec} {apart fresh handsOn again : Bool} {W W' : World} {args : Array Value} {v : Value} {ds gs : List (DataW H)} {before pa pv : List MemPlace}
    (hW : DataW.Whole enc P f.params.toList s.vars apart W args.toList ds gs before) (hg : G W W' none)
    (hres : ∀ (b : Nat) (sp : Nat → Bool) (hd : Bool), DataW.TrodAll enc P W' b sp hd f.resultTypes.toList (v.resultList f.resultTypes.size) (s.fn H (ds ++ gs)).results [])
    (hargs : ∀ sp : Nat → Bool, (∀ p ∈ before, sp p.block = true) → DataW.TrodAll enc P W' 0 sp true f.params.toList args.toList (s.fn H (ds ++ gs)).args pa)
    (hvars : ∀ sp : Nat → Bool, (∀ p ∈ before, sp p.block = true) → DataW.TrodVars enc P W' sp s.vars (s.fn H (ds ++ gs)).vars pv)
    (hps : before = pa ++ pv)
    (hok : ∀ (j : Nat) (t : TypeId) (r : Value), f.resultTypes[j]? = some t → (v.resultList f.resultTypes.size)[j]? = some r → Value.okWide P W' .any 0 t r) :
    s.post enc P f apart fresh handsOn again W args v W' := by
  have hb := hg.below
  have lt : ∀ p ∈ before, p.block < W.heap.size := fun p hp => hW.lt p hp
  have old : ∀ p ∈ before, (fun b => decide (b < W.heap.size)) p.block = true := fun p hp => decide_eq_true (lt p hp)
  have sub : ∀ p, p ∈ ([] ++ pa) ++ pv → p ∈ before := fun p hp => by rw [hps]; simpa using hp
  refine ⟨ds, gs, before, [], pa, pv, hW, hres _ _ _, hargs _ old, hvars _ old, World.keptBut_mono (fun p hp => ⟨hp, .inr (by rw [← List.mem_append, ← hps]; exact hp)⟩) (hb.frame (· ∈ before)), fun _ => ⟨hok, ?_⟩⟩
  obtain ⟨_, _, _, _, _, hz, hn⟩ := hW
  refine ⟨_, _, ([] ++ pa) ++ pv, ⟨[] ++ pa, pv, trodAll_append (hargs _ fun _ _ => rfl) (hres _ _ _), hvars _ fun _ _ => rfl, rfl, fun b off hp => ?_, fun ha => ?_⟩, fun p hp _ => sub p hp⟩
  · rw [hb.frozen (lt _ (sub _ hp))]
    exact hz b off (sub _ hp)
  · have h := hn ha
    rw [hps] at h
    simpa using h
end
theorem laidOut : laidOutB Tryd.prog = true := by kernel_rfl
theorem wf64 {n : Int} (h : (Lit.int .i64 n).wf = true) : -9223372036854775808 ≤ n ∧ n ≤ 9223372036854775807 := by
  have h1 : IntKind.i64.min = -9223372036854775808 := rfl
  have h2 : IntKind.i64.max = 9223372036854775807 := rfl
  simp only [Lit.wf, Bool.and_eq_true, decide_eq_true_eq] at h
  omega
set_option maxRecDepth 100000 in
theorem has_of_ok {W : World} {base : Nat} {a : Addr} {n c : Nat} (hok : Value.okWide Tryd.prog W .any base 22 (.slice (some a) n c)) : a.spot = none ∧ a.block < W.heap.size := by
  simp only [Value.okWide, Tryd.underlying22, Cell.okWide, Cell.ok] at hok
  obtain ⟨_, _, _, h2, row, cells, h3, _⟩ := hok
  refine ⟨h2, ?_⟩
  unfold World.shape? at h3
  cases hh : W.heap[a.block]? with
  | none => simp [hh] at h3
  | some o => exact (Array.getElem?_eq_some_iff.1 hh).1
set_option maxRecDepth 100000 in
/-- The list of numbers that came in, as the walk wants it. -/
theorem rd_of_trod {H : Type} {enc : TypeId × Value → H} {W : World} {base : Nat} {v : Value} {d : DataW H} {p : List MemPlace} (hok : Value.okWide Tryd.prog W .any base 22 v) (h : DataW.Trod enc Tryd.prog W 0 (fun _ => true) true 22 v d p) :
    ∃ (a : Option Addr) (n c : Nat) (zs : List Int), v = .slice a n c ∧ Rd W 1 (.slice a n c) n (zs.map (Value.int .i64)) ∧ ∀ z ∈ zs, -9223372036854775808 ≤ z ∧ z ≤ 9223372036854775807 := by
  obtain ⟨a0, len, cap, rfl⟩ := okWide_slice Tryd.underlying22 hok
  obtain ⟨fuel, hf⟩ := h
  rcases open_ints Tryd.underlying22 Tryd.underlying3 c1 hf with ⟨hcs, _⟩ | ⟨a, len', cap', zs, hcs, _, hl, hm, hz, _, hcell, hw⟩
  · have hcs' : [Value.slice a0 len cap] = [Value.slice none 0 0] := hcs
    injection hcs' with e _
    injection e with e1 e2 e3
    subst e1; subst e2; subst e3
    exact ⟨none, 0, 0, [], rfl, ⟨none, 0, rfl, Nat.le_refl _, Nat.zero_le _, rfl, fun _ => ⟨rfl, rfl⟩, fun b hb => by cases hb⟩, fun z hz => by cases hz⟩
  · have hcs' : [Value.slice a0 len cap] = [Value.slice (some a) len' cap'] := hcs
    injection hcs' with e _
    injection e with e1 e2 e3
    subst e1; subst e2; subst e3
    simp only [if_true] at hz
    obtain ⟨s1, s2⟩ := has_of_ok hok
    refine ⟨some a, len, cap, zs.take len, rfl, ⟨some a, cap, rfl, hl, hm, by simp; omega, (fun e => by cases e), fun b hb => ?_⟩, fun z hz' => wf64 (hw z (List.mem_of_mem_take hz'))⟩
    obtain rfl := Option.some.inj hb
    refine ⟨s1, s2, fun j u hj => ?_⟩
    rw [List.getElem?_map] at hj
    obtain ⟨z, hz1, rfl⟩ := Option.map_eq_some_iff.1 hj
    have hjl := (List.getElem?_eq_some_iff.1 hz1).1
    simp at hjl
    have hc := hcell j (by omega)
    have hz2 : zs[j]? = some z := by rw [← hz1, List.getElem?_take, if_pos (by omega)]
    rw [List.getD, hz2] at hc
    have ha : a.add j = ⟨a.block, a.off + j, none⟩ := by
      obtain ⟨ab, ao, asp⟩ := a
      dsimp only at s1
      subst s1
      exact add_at ab ao j
    rw [ha] at hc
    exact hc
end Go.Proofs.YtndeidcddlmhbaaDoor
