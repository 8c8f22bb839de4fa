/- Ctl, Lay. -/
import Derived.Test.YtndeidcddlmhbaaDoorZc2
import Derived.Test.YtndeidcddlmhbaaDoorZc4
import Derived.Test.YtndeidcddlmhbaaDoorZc1
import Derived.Deep.RegionHeld3
import Derived.Test.YtndeidcddlmhbaaDoorRows
import Derived.Test.YtndeidcddlmhbaaDoorTie
import Derived.Test.YtndeidcddlmhbaaDoorCards
import Derived.LaidMore
import Derived.ChangeSame
import Derived.ProofKit
import Derived.OpenShut
import Derived.PinnedBridge
import Derived.Deep.DeepHandedRow
import Derived.Deep.DeepWitnessRowRef
/- The law CodesTake. -/
namespace Go.Proofs.YtndeidcddlmhbaaDoor
open Go.RowKit

theorem cb_errs (l : List Cd) (ks : List ByteArray) (k : ByteArray) (a z c q : Int) (hq : q = if inB c 0 1000000000 = true then 0 else 1) : errsOf [cdE l, askE l ks, keyE k, tE a z, q] = cbE l ks k a z c := by
  subst hq
  have he : errsOf [cdE l, askE l ks, keyE k, tE a z, if inB c 0 1000000000 = true then (0 : Int) else 1] = if cdE l = 0 then (if askE l ks = 0 then (if keyE k = 0 then (if tE a z = 0 then (if (if inB c 0 1000000000 = true then (0 : Int) else 1) = 0 then 0 else (if inB c 0 1000000000 = true then 0 else 1)) else tE a z) else keyE k) else askE l ks) else cdE l := rfl
  rw [he]
  unfold cbE keyE
  cases keyB k <;> cases inB c 0 1000000000 <;> simp
/-- What stands throughout: the codes, the keys, the time. -/
def TInv (W : World) (v : Value) (l : List Cd) (u : Value) (ks : List ByteArray) (gw : Nat) (a z : Int) (w : World) : Prop := RdR w 6 cdC v l ∧ RdS w u ks ∧ Bk w gw 29 #[.int .i64 a, .int .i64 z] ∧ G W w none
theorem TInv.quiet {W w w' : World} {v u : Value} {l : List Cd} {ks : List ByteArray} {gw : Nat} {a z : Int} (h : TInv W v l u ks gw a z w) (hG : G w w' none) : TInv W v l u ks gw a z w' := ⟨h.1.quiet hG, h.2.1.quiet hG, h.2.2.1.quiet hG, h.2.2.2.trans hG⟩
set_option maxRecDepth 100000 in
set_option maxHeartbeats 16000000 in
theorem codesTake_c (a : Option Addr) (n c : Nat) (zs : List Int) (W : World) (hr : Rd W 1 (.slice a n c) n (zs.map (Value.int .i64))) (hz : ∀ z ∈ zs, -9223372036854775808 ≤ z ∧ z ≤ 9223372036854775807) :
    Calls Tryd.prog 7 #[.slice a n c] W fun e W' => e = .returned (.bool true) ∧ G W W' none := by
  have hSB : SB (W.alloc (.cells #[.slice a n c, .int .i64 0] 25)) W.heap.size 0 := by
    have hB := Bk.new W 25 #[.slice a n c, .int .i64 0]
    refine ⟨0, a, n, c, zs, Nat.le_refl _, hr.quiet ((G.refl _ _).alloc _), fun b e => ?_, hz, hB.cell 0, hB.cell 1, hB.free 1, hB.lt⟩
    obtain ⟨a', c', e', r1, r2, r3, r4, r5⟩ := hr
    cases e'
    exact (r5 b e).2.1
  have hG0 : G W (W.alloc (.cells #[.slice a n c, .int .i64 0] 25)) (some W.heap.size) := (G.refl _ _).alloc _
  clear hr hz
  go_enter Tryd.func7, Tryd.ntmps7
  go_wp2_with fail
  refine (codes_c _ W.heap.size 0 hSB (by omega)).mono ?_; rintro e w1 ⟨v, l, rfl, hrd, hlok, hln, hvb, hSB1, hG1⟩
  have hvs : v.ownBlock ≠ some W.heap.size := fun e => by have := hvb _ e; simp at this; omega
  have HLOK := Lib.hid hlok
  have hWz : W.heap.size < w1.heap.size := hSB1.lt
  have hG01 := hG0.trans hG1
  clear hSB hG0 hG1 hvb hlok
  go_wp2_with fail
  refine (codeKeys_c _ W.heap.size _ hSB1 (by omega)).mono ?_; rintro e w2 ⟨u, ks, rfl, hks, hkn, hub, hSB2, hG2⟩
  have hus : u.ownBlock ≠ some W.heap.size := fun e => by have := hub _ e; omega
  have hrd2 := hrd.grown hG2 (fun q e => by cases e; exact hvs)
  have hG02 := hG01.trans hG2
  clear hSB1 hG01 hG2 hrd hub hWz
  go_wp2_with fail
  refine (classKey_c _ W.heap.size _ hSB2 (by omega)).mono ?_; rintro e w3 ⟨k, rfl, hkk, hSB3, hG3⟩
  have hrd3 := hrd2.grown hG3 (fun q e => by cases e; exact hvs)
  have hks3 := hks.grown hG3 (fun q e => by cases e; exact hus)
  have hG03 := hG02.trans hG3
  clear hSB2 hG02 hG3 hrd2 hks
  go_wp2_with fail
  refine (time_c _ W.heap.size _ hSB3 (by omega)).mono ?_; rintro e w4 ⟨ta, tz, rfl, hta, htz, hSB4, hG4⟩
  have hrd4 := hrd3.grown hG4 (fun q e => by cases e; exact hvs)
  have hks4 := hks3.grown hG4 (fun q e => by cases e; exact hus)
  have hG04 := hG03.trans hG4
  have HTA := Lib.hid (And.intro hta htz)
  clear hSB3 hG03 hG4 hrd3 hks3 hta htz
  go_wp2_with fail
  refine (pick_c _ _ _ [0, 9, 999, 1000, 100000, 1000000000, -1] _ _ _ (hSB4.alloc _) (by omega) (by decide) (by decide) (Rd.newAt _ rfl rfl (by decide)) (hSB4.newAt _ _ _ (Nat.le_refl _))).mono ?_; rintro e w5 ⟨c, rfl, hc, hSB5, hG5⟩
  have hc0 : -1 ≤ c ∧ c ≤ 1000000000 := by simp only [List.mem_cons, List.mem_nil_iff, or_false] at hc; omega
  obtain ⟨c0, c1⟩ := hc0
  have hA5 := (G.refl w5 none).alloc (.cells #[.int .i64 ta, .int .i64 tz] 29)
  have hI : TInv W v l u ks w5.heap.size ta tz (w5.alloc (.cells #[.int .i64 ta, .int .i64 tz] 29)) := ⟨((hrd4.quiet ((G.refl w4 none).alloc _)).grown hG5 (fun q e => by cases e; exact hvs)).quiet hA5, ((hks4.quiet ((G.refl w4 none).alloc _)).grown hG5 (fun q e => by cases e; exact hus)).quiet hA5, Bk.new _ _ _, (G.own ((hG04.alloc _).trans hG5) (Nat.le_refl _)).trans hA5⟩
  clear hSB4 hG04 hG5 hrd4 hks4 hc hSB5 hvs hus hA5
  go_wp2_with (refine wpList_load_row rfl 29 _ rfl w5.heap.size rfl 29 #[.int .i64 ta, .int .i64 tz] (0, 0) _ hI.2.2.1 Tryd.underlying29 rfl (wi_info ta tz) ?_)
  refine (bestCode_c v u l ks k ta tz c _ hI.1 HLOK.out (by omega) hI.2.1 (by omega) hkk HTA.out.1 HTA.out.2).mono ?_; rintro e w6 ⟨rfl, hH⟩
  have hI := hI.quiet hH
  clear hH
  generalize w5.heap.size = gw at hI ⊢
  obtain ⟨S, M, hSM⟩ : ∃ S M, cbN l ks k ta tz c = (S, M) := ⟨_, _, rfl⟩
  rw [hSM]
  have HSM := Lib.hid hSM
  clear hSM
  go_wp2_with fail
  refine (codesFault_c v l _ hI.1 HLOK.out (by omega)).mono ?_; rintro e w7 ⟨rfl, hH⟩
  have hI := hI.quiet hH
  clear hH
  go_wp2_with fail
  refine (checkCodes_c v l _ hI.1 HLOK.out (by omega)).mono ?_; rintro e w8 ⟨rfl, hH⟩
  have hI := hI.quiet hH
  clear hH
  have t0 : w8.cell? ⟨gw, 0, none⟩ = some (.int .i64 ta) := hI.2.2.1.cell 0
  have t1 : w8.cell? ⟨gw, 1, none⟩ = some (.int .i64 tz) := hI.2.2.1.cell 1
  go_wp2_with fail
  rcases (show c < 0 ∨ 0 ≤ c by omega) with k1 | k1
  · have hone := cb_errs l ks k ta tz c 1 (by rw [inB, decide_eq_false (show ¬ 0 ≤ c by omega)]; rfl)
    have hId := hI.quiet ((G.refl w8 none).drew)
    clear hI
    refine wp_region_held_drew (S := (fun w' => w'.cell? ⟨gw, 0, none⟩ = some (.int .i64 ta) ∧ w'.cell? ⟨gw, 1, none⟩ = some (.int .i64 tz))) (by kernel_rfl) ?_ (fun hHeld => ?_)
    · exact ⟨t0, t1⟩
    refine wpAnyH_take (i := 0) (oi := { dst := some 45, op := Op.move (Operand.tmp 12), type := 36, pos := _, after := #[], guard := none }) (v := ?_) rfl (by kernel_rfl) (by kernel_rfl) (by kernel_rfl) (fun _ _ _ h => h) (Or.inl ⟨by rfl, ?_⟩) (by assumption) ?_
    rotate_left
    · (intro w hSw; obtain ⟨s0, s1⟩ := hSw; (go_simp <;> with_reducible rfl))
    try simp only [Act.put, List.setIfInBounds_toArray, List.set_cons_zero, List.set_cons_succ]
    refine wpAnyH_take (i := 1) (oi := { dst := some 46, op := Op.move (Operand.tmp 4), type := 86, pos := _, after := #[], guard := none }) (v := ?_) rfl (by kernel_rfl) (by kernel_rfl) (by kernel_rfl) (fun _ _ _ h => h) (Or.inl ⟨by rfl, ?_⟩) (by assumption) ?_
    rotate_left
    · (intro w hSw; obtain ⟨s0, s1⟩ := hSw; (go_simp <;> with_reducible rfl))
    try simp only [Act.put, List.setIfInBounds_toArray, List.set_cons_zero, List.set_cons_succ]
    refine wpAnyH_take (i := 2) (oi := { dst := some 47, op := Op.move (Operand.tmp 5), type := 88, pos := _, after := #[], guard := none }) (v := ?_) rfl (by kernel_rfl) (by kernel_rfl) (by kernel_rfl) (fun _ _ _ h => h) (Or.inl ⟨by rfl, ?_⟩) (by assumption) ?_
    rotate_left
    · (intro w hSw; obtain ⟨s0, s1⟩ := hSw; (go_simp <;> with_reducible rfl))
    try simp only [Act.put, List.setIfInBounds_toArray, List.set_cons_zero, List.set_cons_succ]
    refine wpAnyH_take (i := 4) (oi := { dst := some 49, op := Op.move (Operand.tmp 6), type := 9, pos := _, after := #[], guard := none }) (v := ?_) rfl (by kernel_rfl) (by kernel_rfl) (by kernel_rfl) (fun _ _ _ h => h) (Or.inl ⟨by rfl, ?_⟩) (by assumption) ?_
    rotate_left
    · (intro w hSw; obtain ⟨s0, s1⟩ := hSw; (go_simp <;> with_reducible rfl))
    try simp only [Act.put, List.setIfInBounds_toArray, List.set_cons_zero, List.set_cons_succ]
    refine wpAnyH_take (i := 6) (oi := { dst := some 51, op := Op.load 29 (Operand.tmp 7), type := 29, pos := _, after := #[], guard := none }) (v := ?_) rfl (by kernel_rfl) (by kernel_rfl) (by kernel_rfl) (fun _ _ _ h => h) (Or.inl ⟨by rfl, ?_⟩) (by assumption) ?_
    rotate_left
    · (intro w hSw; obtain ⟨s0, s1⟩ := hSw; (go_simp <;> with_reducible rfl))
    try simp only [Act.put, List.setIfInBounds_toArray, List.set_cons_zero, List.set_cons_succ]
    refine wpAnyH_take (i := 8) (oi := { dst := some 53, op := Op.move (Operand.tmp 8), type := 3, pos := _, after := #[], guard := none }) (v := ?_) rfl (by kernel_rfl) (by kernel_rfl) (by kernel_rfl) (fun _ _ _ h => h) (Or.inl ⟨by rfl, ?_⟩) (by assumption) ?_
    rotate_left
    · (intro w hSw; obtain ⟨s0, s1⟩ := hSw; (go_simp <;> with_reducible rfl))
    try simp only [Act.put, List.setIfInBounds_toArray, List.set_cons_zero, List.set_cons_succ]
    refine wpAnyH_take (i := 9) (oi := { dst := some 54, op := Op.binOp BinOp.lss 3 (Operand.tmp 53) (Operand.const (Value.int IntKind.i64 0)) 3, type := 4, pos := _, after := #[{ on := 8, ground := Ground.data }], guard := none }) (v := ?_) rfl (by kernel_rfl) (by kernel_rfl) (by kernel_rfl) (fun _ _ _ h => h) (Or.inl ⟨by rfl, ?_⟩) (by assumption) ?_
    rotate_left
    · (intro w hSw; obtain ⟨s0, s1⟩ := hSw; (go_simp <;> with_reducible rfl))
    try simp only [Act.put, List.setIfInBounds_toArray, List.set_cons_zero, List.set_cons_succ]
    refine wpAnyH_ready (rs := [3]) (by kernel_rfl) (by simp) ?_
    refine AllReadyH.cons (o := { dst := some 48, op := Op.call { callee := Callee.value (Operand.func 56), args := #[Operand.tmp 46, Operand.tmp 47], argTypes := #[86, 88] }, type := 36, pos := _, after := #[{ on := 1, ground := Ground.data }, { on := 2, ground := Ground.data }], guard := none }) rfl (fun K hK => ?_) AllReadyH.nil
    go_simp
    refine (codeKeysFault_c v u l ks _ hId.1 (by omega) hId.2.1 (by omega)).mono ?_
    rintro e y1 ⟨rfl, hH⟩
    have hI1 := hId.quiet hH
    clear hH
    refine hK.out _ _ ?_ (fun hHeld => ?_)
    · exact ⟨hI1.2.2.1.cell 0, hI1.2.2.1.cell 1⟩
    clear hK K
    try simp only [Act.put, List.setIfInBounds_toArray, List.set_cons_zero, List.set_cons_succ]
    refine wpAnyH_ready (rs := [5]) (by kernel_rfl) (by simp) ?_
    refine AllReadyH.cons (o := { dst := some 50, op := Op.call { callee := Callee.value (Operand.func 40), args := #[Operand.tmp 49], argTypes := #[9] }, type := 36, pos := _, after := #[{ on := 4, ground := Ground.data }, { on := 3, ground := Ground.chain }], guard := none }) rfl (fun K hK => ?_) AllReadyH.nil
    go_simp
    refine (keyFault_c k _ hkk).mono ?_
    rintro e y2 ⟨rfl, hH⟩
    have hI2 := hI1.quiet hH
    clear hH
    refine hK.out _ _ ?_ (fun hHeld => ?_)
    · exact ⟨hI2.2.2.1.cell 0, hI2.2.2.1.cell 1⟩
    clear hK K
    try simp only [Act.put, List.setIfInBounds_toArray, List.set_cons_zero, List.set_cons_succ]
    refine wpAnyH_ready (rs := [7]) (by kernel_rfl) (by simp) ?_
    refine AllReadyH.cons (o := { dst := some 52, op := Op.call { callee := Callee.value (Operand.func 41), args := #[Operand.tmp 51], argTypes := #[29] }, type := 36, pos := _, after := #[{ on := 6, ground := Ground.data }, { on := 5, ground := Ground.chain }], guard := none }) rfl (fun K hK => ?_) AllReadyH.nil
    go_simp
    refine (timeFault_c ta tz _ HTA.out.1 HTA.out.2).mono ?_
    rintro e y3 ⟨rfl, hH⟩
    have hI3 := hI2.quiet hH
    clear hH
    refine hK.out _ _ ?_ (fun hHeld => ?_)
    · exact ⟨hI3.2.2.1.cell 0, hI3.2.2.1.cell 1⟩
    clear hK K
    try simp only [Act.put, List.setIfInBounds_toArray, List.set_cons_zero, List.set_cons_succ]
    refine wpAnyH_take (i := 10) (oi := { dst := some 55, op := Op.move (Operand.tmp 54), type := 4, pos := _, after := #[{ on := 9, ground := Ground.data }, { on := 7, ground := Ground.chain }], guard := none }) (v := ?_) rfl (by kernel_rfl) (by kernel_rfl) (by kernel_rfl) (fun _ _ _ h => h) (Or.inl ⟨by rfl, ?_⟩) (by assumption) ?_
    rotate_left
    · (intro w hSw; obtain ⟨s0, s1⟩ := hSw; (go_simp <;> with_reducible rfl))
    try simp only [Act.put, List.setIfInBounds_toArray, List.set_cons_zero, List.set_cons_succ]
    refine wpAnyH_take (i := 11) (oi := { dst := some 56, op := Op.move (Operand.tmp 8), type := 3, pos := _, after := #[{ on := 10, ground := Ground.guard }], guard := some (10, false) }) (v := undef) rfl (by kernel_rfl) (by kernel_rfl) (by kernel_rfl) (fun _ _ _ h => h) (Or.inr ⟨by rfl, rfl⟩) (by assumption) ?_
    try simp only [Act.put, List.setIfInBounds_toArray, List.set_cons_zero, List.set_cons_succ]
    refine wpAnyH_take (i := 12) (oi := { dst := some 57, op := Op.binOp BinOp.gtr 3 (Operand.tmp 56) (Operand.const (Value.int IntKind.i64 1000000000)) 3, type := 4, pos := _, after := #[{ on := 11, ground := Ground.data }, { on := 10, ground := Ground.guard }], guard := some (10, false) }) (v := undef) rfl (by kernel_rfl) (by kernel_rfl) (by kernel_rfl) (fun _ _ _ h => h) (Or.inr ⟨by rfl, rfl⟩) (by assumption) ?_
    try simp only [Act.put, List.setIfInBounds_toArray, List.set_cons_zero, List.set_cons_succ]
    refine wpAnyH_take (i := 13) (oi := { dst := some 58, op := Op.pick (Operand.tmp 55) (Operand.const (Value.bool true)) (Operand.tmp 57), type := 4, pos := _, after := #[{ on := 10, ground := Ground.data }, { on := 12, ground := Ground.data }], guard := none }) (v := ?_) rfl (by kernel_rfl) (by kernel_rfl) (by kernel_rfl) (fun _ _ _ h => h) (Or.inl ⟨by rfl, ?_⟩) (by assumption) ?_
    rotate_left
    · (intro w hSw; obtain ⟨s0, s1⟩ := hSw; (go_simp <;> with_reducible rfl))
    try simp only [Act.put, List.setIfInBounds_toArray, List.set_cons_zero, List.set_cons_succ]
    refine wpAnyH_ready (rs := [14]) (by kernel_rfl) (by simp) ?_
    refine AllReadyH.cons (o := { dst := some 59, op := Op.call { callee := Callee.value (Operand.func 20), args := #[Operand.tmp 58, Operand.const (Value.int IntKind.i64 1)], argTypes := #[4, 36] }, type := 36, pos := _, after := #[{ on := 13, ground := Ground.data }, { on := 10, ground := Ground.chain }], guard := none }) rfl (fun K hK => ?_) AllReadyH.nil
    go_simp
    refine (when_t _ _).mono ?_
    rintro e w' ⟨rfl, rfl⟩
    refine hK.out _ _ ?_ (fun hHeld => ?_)
    · exact ⟨hI3.2.2.1.cell 0, hI3.2.2.1.cell 1⟩
    clear hK K
    try simp only [Act.put, List.setIfInBounds_toArray, List.set_cons_zero, List.set_cons_succ]
    refine wpAnyH_ready (rs := [15]) (by kernel_rfl) (by simp) ?_
    refine AllReadyH.cons (o := { dst := some 60, op := Op.buildSlice 127 5 #[(0, Operand.tmp 45), (1, Operand.tmp 48), (2, Operand.tmp 50), (3, Operand.tmp 52), (4, Operand.tmp 59)], type := 127, pos := _, after := #[{ on := 0, ground := Ground.data }, { on := 3, ground := Ground.data }, { on := 5, ground := Ground.data }, { on := 7, ground := Ground.data }, { on := 14, ground := Ground.data }], guard := none }) rfl (fun K hK => ?_) AllReadyH.nil
    go_simp
    refine hK.out _ _ ?_ (fun hHeld => ?_)
    · exact ⟨(hI3.2.2.1.alloc _).cell 0, (hI3.2.2.1.alloc _).cell 1⟩
    clear hK K
    try simp only [Act.put, List.setIfInBounds_toArray, List.set_cons_zero, List.set_cons_succ]
    refine wpAnyH_ready (rs := [16]) (by kernel_rfl) (by simp) ?_
    refine AllReadyH.cons (o := { dst := some 61, op := Op.call { callee := Callee.value (Operand.func 18), args := #[Operand.tmp 60], argTypes := #[127] }, type := 36, pos := _, after := #[{ on := 15, ground := Ground.data }, { on := 14, ground := Ground.chain }], guard := none }) rfl (fun K hK => ?_) AllReadyH.nil
    go_simp
    refine (errs_c [cdE l, askE l ks, keyE k, tE ta tz, 1] _ _ (Rd.new #[.int .i64 (cdE l), .int .i64 (askE l ks), .int .i64 (keyE k), .int .i64 (tE ta tz), .int .i64 1] rfl (by show 5 ≤ maxLen; decide)) (by simp)).mono ?_
    rintro e w' ⟨rfl, rfl⟩
    rw [hone]
    refine hK.out _ _ ?_ (fun hHeld => ?_)
    · exact ⟨(hI3.2.2.1.alloc _).cell 0, (hI3.2.2.1.alloc _).cell 1⟩
    clear hK K
    try simp only [Act.put, List.setIfInBounds_toArray, List.set_cons_zero, List.set_cons_succ]
    refine wpAnyH_take (i := 17) (oi := { dst := some 12, op := Op.assign (Operand.tmp 61), type := 36, pos := _, after := #[{ on := 16, ground := Ground.data }, { on := 16, ground := Ground.chain }, { on := 0, ground := Ground.phase }, { on := 1, ground := Ground.phase }, { on := 2, ground := Ground.phase }, { on := 3, ground := Ground.phase }, { on := 4, ground := Ground.phase }, { on := 5, ground := Ground.phase }, { on := 6, ground := Ground.phase }, { on := 7, ground := Ground.phase }, { on := 8, ground := Ground.phase }, { on := 9, ground := Ground.phase }, { on := 10, ground := Ground.phase }, { on := 11, ground := Ground.phase }, { on := 12, ground := Ground.phase }, { on := 13, ground := Ground.phase }, { on := 14, ground := Ground.phase }, { on := 15, ground := Ground.phase }, { on := 16, ground := Ground.phase }], guard := none }) (v := ?_) rfl (by kernel_rfl) (by kernel_rfl) (by kernel_rfl) (fun _ _ _ h => h) (Or.inl ⟨by rfl, ?_⟩) (by assumption) ?_
    rotate_left
    · (intro w hSw; obtain ⟨s0, s1⟩ := hSw; (go_simp <;> with_reducible rfl))
    try simp only [Act.put, List.setIfInBounds_toArray, List.set_cons_zero, List.set_cons_succ]
    refine wpAnyH_done (by kernel_rfl) ?_ _
    have hI := hI3.quiet ((G.refl y3 none).alloc (.cells #[.int .i64 (cdE l), .int .i64 (askE l ks), .int .i64 (keyE k), .int .i64 (tE ta tz), .int .i64 1] 36))
    generalize y3.alloc (.cells #[.int .i64 (cdE l), .int .i64 (askE l ks), .int .i64 (keyE k), .int .i64 (tE ta tz), .int .i64 1] 36) = w9 at hI ⊢
    clear hone hId hI1 hI2 hI3 t0 t1
    by_cases hE : cbE l ks k ta tz c = 0
    · have hX : cbN l ks k ta tz c = bcF ks k (ta / 1440) (tN ta tz) c l := by rw [cbN, if_pos hE]
      obtain ⟨z1, z2, z3, z4⟩ := cbE_zero hE
      have hbc := bc_co ks k (ta / 1440) (tN ta tz) c z3 l (fun x hx => by have := cdE_ok z1 x hx; omega)
      have hS : (coF ks k (ta / 1440) (tN ta tz) c l).1 = S := by rw [← hX, HSM.out] at hbc; exact (Prod.mk.inj hbc).1.symm
      have hM : max 0 (coF ks k (ta / 1440) (tN ta tz) c l).2 = M := by rw [← hX, HSM.out] at hbc; exact (Prod.mk.inj hbc).2.symm
      have Z := Lib.hid (And.intro z1 (And.intro z2 (And.intro z3 z4)))
      rw [hE]
      clear hE hX hbc z1 z2 z3 z4
      go_wp2_with (refine wpList_load_row rfl 29 _ rfl gw rfl 29 #[.int .i64 ta, .int .i64 tz] (0, 0) _ hI.2.2.1 Tryd.underlying29 rfl (wi_info ta tz) ?_)
      refine (codeOf_c v u l ks k ta tz c _ hI.1 (by omega) hI.2.1 (by omega) Z.out.1 Z.out.2.1 Z.out.2.2.1 Z.out.2.2.2).mono ?_; rintro e x1 ⟨rfl, hH⟩
      rw [hS, hM]
      have hI := hI.quiet hH
      clear hH hS hM
      go_wp2_with fail
      refine (priced_c _).mono ?_; rintro e x2 ⟨rfl, hH⟩
      go_wp2_with fail
      go_ret
      exact ⟨rfl, hI.2.2.2.trans hH⟩
    · have hX : cbN l ks k ta tz c = (⟨#[]⟩, 0) := by rw [cbN, if_neg hE]
      obtain ⟨rfl, rfl⟩ : S = ⟨#[]⟩ ∧ M = 0 := by rw [HSM.out] at hX; exact Prod.mk.inj hX
      have hE' : (cbE l ks k ta tz c != 0) = true := by rw [bne_iff_ne]; exact hE
      clear hE hX HSM
      generalize cbE l ks k ta tz c = E at hE' ⊢
      go_wp2_with fail
      refine (priced_c _).mono ?_; rintro e x2 ⟨rfl, hH⟩
      go_wp2_with fail
      go_ret
      exact ⟨rfl, hI.2.2.2.trans hH⟩
  · have hone := cb_errs l ks k ta tz c 0 (by rw [inB, decide_eq_true k1, decide_eq_true c1]; rfl)
    have hn0 : ¬ c < 0 := by omega
    have hn1 : ¬ 1000000000 < c := by omega
    have hId := hI.quiet ((G.refl w8 none).drew)
    clear hI
    refine wp_region_held_drew (S := (fun w' => w'.cell? ⟨gw, 0, none⟩ = some (.int .i64 ta) ∧ w'.cell? ⟨gw, 1, none⟩ = some (.int .i64 tz))) (by kernel_rfl) ?_ (fun hHeld => ?_)
    · exact ⟨t0, t1⟩
    refine wpAnyH_take (i := 0) (oi := { dst := some 45, op := Op.move (Operand.tmp 12), type := 36, pos := _, after := #[], guard := none }) (v := ?_) rfl (by kernel_rfl) (by kernel_rfl) (by kernel_rfl) (fun _ _ _ h => h) (Or.inl ⟨by rfl, ?_⟩) (by assumption) ?_
    rotate_left
    · (intro w hSw; obtain ⟨s0, s1⟩ := hSw; (go_simp <;> with_reducible rfl))
    try simp only [Act.put, List.setIfInBounds_toArray, List.set_cons_zero, List.set_cons_succ]
    refine wpAnyH_take (i := 1) (oi := { dst := some 46, op := Op.move (Operand.tmp 4), type := 86, pos := _, after := #[], guard := none }) (v := ?_) rfl (by kernel_rfl) (by kernel_rfl) (by kernel_rfl) (fun _ _ _ h => h) (Or.inl ⟨by rfl, ?_⟩) (by assumption) ?_
    rotate_left
    · (intro w hSw; obtain ⟨s0, s1⟩ := hSw; (go_simp <;> with_reducible rfl))
    try simp only [Act.put, List.setIfInBounds_toArray, List.set_cons_zero, List.set_cons_succ]
    refine wpAnyH_take (i := 2) (oi := { dst := some 47, op := Op.move (Operand.tmp 5), type := 88, pos := _, after := #[], guard := none }) (v := ?_) rfl (by kernel_rfl) (by kernel_rfl) (by kernel_rfl) (fun _ _ _ h => h) (Or.inl ⟨by rfl, ?_⟩) (by assumption) ?_
    rotate_left
    · (intro w hSw; obtain ⟨s0, s1⟩ := hSw; (go_simp <;> with_reducible rfl))
    try simp only [Act.put, List.setIfInBounds_toArray, List.set_cons_zero, List.set_cons_succ]
    refine wpAnyH_take (i := 4) (oi := { dst := some 49, op := Op.move (Operand.tmp 6), type := 9, pos := _, after := #[], guard := none }) (v := ?_) rfl (by kernel_rfl) (by kernel_rfl) (by kernel_rfl) (fun _ _ _ h => h) (Or.inl ⟨by rfl, ?_⟩) (by assumption) ?_
    rotate_left
    · (intro w hSw; obtain ⟨s0, s1⟩ := hSw; (go_simp <;> with_reducible rfl))
    try simp only [Act.put, List.setIfInBounds_toArray, List.set_cons_zero, List.set_cons_succ]
    refine wpAnyH_take (i := 6) (oi := { dst := some 51, op := Op.load 29 (Operand.tmp 7), type := 29, pos := _, after := #[], guard := none }) (v := ?_) rfl (by kernel_rfl) (by kernel_rfl) (by kernel_rfl) (fun _ _ _ h => h) (Or.inl ⟨by rfl, ?_⟩) (by assumption) ?_
    rotate_left
    · (intro w hSw; obtain ⟨s0, s1⟩ := hSw; (go_simp <;> with_reducible rfl))
    try simp only [Act.put, List.setIfInBounds_toArray, List.set_cons_zero, List.set_cons_succ]
    refine wpAnyH_take (i := 8) (oi := { dst := some 53, op := Op.move (Operand.tmp 8), type := 3, pos := _, after := #[], guard := none }) (v := ?_) rfl (by kernel_rfl) (by kernel_rfl) (by kernel_rfl) (fun _ _ _ h => h) (Or.inl ⟨by rfl, ?_⟩) (by assumption) ?_
    rotate_left
    · (intro w hSw; obtain ⟨s0, s1⟩ := hSw; (go_simp <;> with_reducible rfl))
    try simp only [Act.put, List.setIfInBounds_toArray, List.set_cons_zero, List.set_cons_succ]
    refine wpAnyH_take (i := 9) (oi := { dst := some 54, op := Op.binOp BinOp.lss 3 (Operand.tmp 53) (Operand.const (Value.int IntKind.i64 0)) 3, type := 4, pos := _, after := #[{ on := 8, ground := Ground.data }], guard := none }) (v := ?_) rfl (by kernel_rfl) (by kernel_rfl) (by kernel_rfl) (fun _ _ _ h => h) (Or.inl ⟨by rfl, ?_⟩) (by assumption) ?_
    rotate_left
    · (intro w hSw; obtain ⟨s0, s1⟩ := hSw; (go_simp <;> with_reducible rfl))
    try simp only [Act.put, List.setIfInBounds_toArray, List.set_cons_zero, List.set_cons_succ]
    refine wpAnyH_ready (rs := [3]) (by kernel_rfl) (by simp) ?_
    refine AllReadyH.cons (o := { dst := some 48, op := Op.call { callee := Callee.value (Operand.func 56), args := #[Operand.tmp 46, Operand.tmp 47], argTypes := #[86, 88] }, type := 36, pos := _, after := #[{ on := 1, ground := Ground.data }, { on := 2, ground := Ground.data }], guard := none }) rfl (fun K hK => ?_) AllReadyH.nil
    go_simp
    refine (codeKeysFault_c v u l ks _ hId.1 (by omega) hId.2.1 (by omega)).mono ?_
    rintro e y1 ⟨rfl, hH⟩
    have hI1 := hId.quiet hH
    clear hH
    refine hK.out _ _ ?_ (fun hHeld => ?_)
    · exact ⟨hI1.2.2.1.cell 0, hI1.2.2.1.cell 1⟩
    clear hK K
    try simp only [Act.put, List.setIfInBounds_toArray, List.set_cons_zero, List.set_cons_succ]
    refine wpAnyH_ready (rs := [5]) (by kernel_rfl) (by simp) ?_
    refine AllReadyH.cons (o := { dst := some 50, op := Op.call { callee := Callee.value (Operand.func 40), args := #[Operand.tmp 49], argTypes := #[9] }, type := 36, pos := _, after := #[{ on := 4, ground := Ground.data }, { on := 3, ground := Ground.chain }], guard := none }) rfl (fun K hK => ?_) AllReadyH.nil
    go_simp
    refine (keyFault_c k _ hkk).mono ?_
    rintro e y2 ⟨rfl, hH⟩
    have hI2 := hI1.quiet hH
    clear hH
    refine hK.out _ _ ?_ (fun hHeld => ?_)
    · exact ⟨hI2.2.2.1.cell 0, hI2.2.2.1.cell 1⟩
    clear hK K
    try simp only [Act.put, List.setIfInBounds_toArray, List.set_cons_zero, List.set_cons_succ]
    refine wpAnyH_ready (rs := [7]) (by kernel_rfl) (by simp) ?_
    refine AllReadyH.cons (o := { dst := some 52, op := Op.call { callee := Callee.value (Operand.func 41), args := #[Operand.tmp 51], argTypes := #[29] }, type := 36, pos := _, after := #[{ on := 6, ground := Ground.data }, { on := 5, ground := Ground.chain }], guard := none }) rfl (fun K hK => ?_) AllReadyH.nil
    go_simp
    refine (timeFault_c ta tz _ HTA.out.1 HTA.out.2).mono ?_
    rintro e y3 ⟨rfl, hH⟩
    have hI3 := hI2.quiet hH
    clear hH
    refine hK.out _ _ ?_ (fun hHeld => ?_)
    · exact ⟨hI3.2.2.1.cell 0, hI3.2.2.1.cell 1⟩
    clear hK K
    try simp only [Act.put, List.setIfInBounds_toArray, List.set_cons_zero, List.set_cons_succ]
    refine wpAnyH_take (i := 10) (oi := { dst := some 55, op := Op.move (Operand.tmp 54), type := 4, pos := _, after := #[{ on := 9, ground := Ground.data }, { on := 7, ground := Ground.chain }], guard := none }) (v := ?_) rfl (by kernel_rfl) (by kernel_rfl) (by kernel_rfl) (fun _ _ _ h => h) (Or.inl ⟨by rfl, ?_⟩) (by assumption) ?_
    rotate_left
    · (intro w hSw; obtain ⟨s0, s1⟩ := hSw; (go_simp <;> with_reducible rfl))
    try simp only [Act.put, List.setIfInBounds_toArray, List.set_cons_zero, List.set_cons_succ]
    refine wpAnyH_take (i := 11) (oi := { dst := some 56, op := Op.move (Operand.tmp 8), type := 3, pos := _, after := #[{ on := 10, ground := Ground.guard }], guard := some (10, false) }) (v := ?_) rfl (by kernel_rfl) (by kernel_rfl) (by kernel_rfl) (fun _ _ _ h => h) (Or.inl ⟨by rfl, ?_⟩) (by assumption) ?_
    rotate_left
    · (intro w hSw; obtain ⟨s0, s1⟩ := hSw; (go_simp <;> with_reducible rfl))
    try simp only [Act.put, List.setIfInBounds_toArray, List.set_cons_zero, List.set_cons_succ]
    refine wpAnyH_take (i := 12) (oi := { dst := some 57, op := Op.binOp BinOp.gtr 3 (Operand.tmp 56) (Operand.const (Value.int IntKind.i64 1000000000)) 3, type := 4, pos := _, after := #[{ on := 11, ground := Ground.data }, { on := 10, ground := Ground.guard }], guard := some (10, false) }) (v := ?_) rfl (by kernel_rfl) (by kernel_rfl) (by kernel_rfl) (fun _ _ _ h => h) (Or.inl ⟨by rfl, ?_⟩) (by assumption) ?_
    rotate_left
    · (intro w hSw; obtain ⟨s0, s1⟩ := hSw; (go_simp <;> with_reducible rfl))
    try simp only [Act.put, List.setIfInBounds_toArray, List.set_cons_zero, List.set_cons_succ]
    refine wpAnyH_take (i := 13) (oi := { dst := some 58, op := Op.pick (Operand.tmp 55) (Operand.const (Value.bool true)) (Operand.tmp 57), type := 4, pos := _, after := #[{ on := 10, ground := Ground.data }, { on := 12, ground := Ground.data }], guard := none }) (v := ?_) rfl (by kernel_rfl) (by kernel_rfl) (by kernel_rfl) (fun _ _ _ h => h) (Or.inl ⟨by rfl, ?_⟩) (by assumption) ?_
    rotate_left
    · (intro w hSw; obtain ⟨s0, s1⟩ := hSw; (go_simp <;> with_reducible rfl))
    try simp only [Act.put, List.setIfInBounds_toArray, List.set_cons_zero, List.set_cons_succ]
    refine wpAnyH_ready (rs := [14]) (by kernel_rfl) (by simp) ?_
    refine AllReadyH.cons (o := { dst := some 59, op := Op.call { callee := Callee.value (Operand.func 20), args := #[Operand.tmp 58, Operand.const (Value.int IntKind.i64 1)], argTypes := #[4, 36] }, type := 36, pos := _, after := #[{ on := 13, ground := Ground.data }, { on := 10, ground := Ground.chain }], guard := none }) rfl (fun K hK => ?_) AllReadyH.nil
    go_simp
    refine (when_f _ _).mono ?_
    rintro e w' ⟨rfl, rfl⟩
    refine hK.out _ _ ?_ (fun hHeld => ?_)
    · exact ⟨hI3.2.2.1.cell 0, hI3.2.2.1.cell 1⟩
    clear hK K
    try simp only [Act.put, List.setIfInBounds_toArray, List.set_cons_zero, List.set_cons_succ]
    refine wpAnyH_ready (rs := [15]) (by kernel_rfl) (by simp) ?_
    refine AllReadyH.cons (o := { dst := some 60, op := Op.buildSlice 127 5 #[(0, Operand.tmp 45), (1, Operand.tmp 48), (2, Operand.tmp 50), (3, Operand.tmp 52), (4, Operand.tmp 59)], type := 127, pos := _, after := #[{ on := 0, ground := Ground.data }, { on := 3, ground := Ground.data }, { on := 5, ground := Ground.data }, { on := 7, ground := Ground.data }, { on := 14, ground := Ground.data }], guard := none }) rfl (fun K hK => ?_) AllReadyH.nil
    go_simp
    refine hK.out _ _ ?_ (fun hHeld => ?_)
    · exact ⟨(hI3.2.2.1.alloc _).cell 0, (hI3.2.2.1.alloc _).cell 1⟩
    clear hK K
    try simp only [Act.put, List.setIfInBounds_toArray, List.set_cons_zero, List.set_cons_succ]
    refine wpAnyH_ready (rs := [16]) (by kernel_rfl) (by simp) ?_
    refine AllReadyH.cons (o := { dst := some 61, op := Op.call { callee := Callee.value (Operand.func 18), args := #[Operand.tmp 60], argTypes := #[127] }, type := 36, pos := _, after := #[{ on := 15, ground := Ground.data }, { on := 14, ground := Ground.chain }], guard := none }) rfl (fun K hK => ?_) AllReadyH.nil
    go_simp
    refine (errs_c [cdE l, askE l ks, keyE k, tE ta tz, 0] _ _ (Rd.new #[.int .i64 (cdE l), .int .i64 (askE l ks), .int .i64 (keyE k), .int .i64 (tE ta tz), .int .i64 0] rfl (by show 5 ≤ maxLen; decide)) (by simp)).mono ?_
    rintro e w' ⟨rfl, rfl⟩
    rw [hone]
    refine hK.out _ _ ?_ (fun hHeld => ?_)
    · exact ⟨(hI3.2.2.1.alloc _).cell 0, (hI3.2.2.1.alloc _).cell 1⟩
    clear hK K
    try simp only [Act.put, List.setIfInBounds_toArray, List.set_cons_zero, List.set_cons_succ]
    refine wpAnyH_take (i := 17) (oi := { dst := some 12, op := Op.assign (Operand.tmp 61), type := 36, pos := _, after := #[{ on := 16, ground := Ground.data }, { on := 16, ground := Ground.chain }, { on := 0, ground := Ground.phase }, { on := 1, ground := Ground.phase }, { on := 2, ground := Ground.phase }, { on := 3, ground := Ground.phase }, { on := 4, ground := Ground.phase }, { on := 5, ground := Ground.phase }, { on := 6, ground := Ground.phase }, { on := 7, ground := Ground.phase }, { on := 8, ground := Ground.phase }, { on := 9, ground := Ground.phase }, { on := 10, ground := Ground.phase }, { on := 11, ground := Ground.phase }, { on := 12, ground := Ground.phase }, { on := 13, ground := Ground.phase }, { on := 14, ground := Ground.phase }, { on := 15, ground := Ground.phase }, { on := 16, ground := Ground.phase }], guard := none }) (v := ?_) rfl (by kernel_rfl) (by kernel_rfl) (by kernel_rfl) (fun _ _ _ h => h) (Or.inl ⟨by rfl, ?_⟩) (by assumption) ?_
    rotate_left
    · (intro w hSw; obtain ⟨s0, s1⟩ := hSw; (go_simp <;> with_reducible rfl))
    try simp only [Act.put, List.setIfInBounds_toArray, List.set_cons_zero, List.set_cons_succ]
    refine wpAnyH_done (by kernel_rfl) ?_ _
    have hI := hI3.quiet ((G.refl y3 none).alloc (.cells #[.int .i64 (cdE l), .int .i64 (askE l ks), .int .i64 (keyE k), .int .i64 (tE ta tz), .int .i64 0] 36))
    generalize y3.alloc (.cells #[.int .i64 (cdE l), .int .i64 (askE l ks), .int .i64 (keyE k), .int .i64 (tE ta tz), .int .i64 0] 36) = w9 at hI ⊢
    clear hone hId hI1 hI2 hI3 t0 t1
    by_cases hE : cbE l ks k ta tz c = 0
    · have hX : cbN l ks k ta tz c = bcF ks k (ta / 1440) (tN ta tz) c l := by rw [cbN, if_pos hE]
      obtain ⟨z1, z2, z3, z4⟩ := cbE_zero hE
      have hbc := bc_co ks k (ta / 1440) (tN ta tz) c z3 l (fun x hx => by have := cdE_ok z1 x hx; omega)
      have hS : (coF ks k (ta / 1440) (tN ta tz) c l).1 = S := by rw [← hX, HSM.out] at hbc; exact (Prod.mk.inj hbc).1.symm
      have hM : max 0 (coF ks k (ta / 1440) (tN ta tz) c l).2 = M := by rw [← hX, HSM.out] at hbc; exact (Prod.mk.inj hbc).2.symm
      have Z := Lib.hid (And.intro z1 (And.intro z2 (And.intro z3 z4)))
      rw [hE]
      clear hE hX hbc z1 z2 z3 z4
      go_wp2_with (refine wpList_load_row rfl 29 _ rfl gw rfl 29 #[.int .i64 ta, .int .i64 tz] (0, 0) _ hI.2.2.1 Tryd.underlying29 rfl (wi_info ta tz) ?_)
      refine (codeOf_c v u l ks k ta tz c _ hI.1 (by omega) hI.2.1 (by omega) Z.out.1 Z.out.2.1 Z.out.2.2.1 Z.out.2.2.2).mono ?_; rintro e x1 ⟨rfl, hH⟩
      rw [hS, hM]
      have hI := hI.quiet hH
      clear hH hS hM
      go_wp2_with fail
      refine (priced_c _).mono ?_; rintro e x2 ⟨rfl, hH⟩
      go_wp2_with fail
      go_ret
      exact ⟨rfl, hI.2.2.2.trans hH⟩
    · have hX : cbN l ks k ta tz c = (⟨#[]⟩, 0) := by rw [cbN, if_neg hE]
      obtain ⟨rfl, rfl⟩ : S = ⟨#[]⟩ ∧ M = 0 := by rw [HSM.out] at hX; exact Prod.mk.inj hX
      have hE' : (cbE l ks k ta tz c != 0) = true := by rw [bne_iff_ne]; exact hE
      clear hE hX HSM
      generalize cbE l ks k ta tz c = E at hE' ⊢
      go_wp2_with fail
      refine (priced_c _).mono ?_; rintro e x2 ⟨rfl, hH⟩
      go_wp2_with fail
      go_ret
      exact ⟨rfl, hI.2.2.2.trans hH⟩
end Go.Proofs.YtndeidcddlmhbaaDoor

/- What the row's list of variables gives; a start that meets it. -/
namespace Go.Proofs.YtndeidcddlmhbaaDoor
open Go.ChangeShapes Go.WideShapes Go.ChangeAt Go.RowKit

theorem own : ownKnob Tryd.prog.godebug = none := by kernel_rfl
theorem c1 : Tryd.prog.cellsOf 3 = 1 := by kernel_rfl
def laidL : List (String × DataW Unit) := [("unicode/utf8.acceptRanges", Rows.laid_unicode_utf8_acceptRanges), ("unicode/utf8.first", Rows.laid_unicode_utf8_first)]
/-- A start that meets the list: what the door's run leaves, Go's own table laid by hand. -/
noncomputable def laidWorld (os : Os) : World :=
  { World.doorLaid Tryd.prog 200 os with heap := (World.doorLaid Tryd.prog 200 os).heap.modify 1 fun
      | .cells _ t fr => .cells (Lib.firstTab.map (Value.int .u8)).toArray t fr
      | o => o }
set_option maxRecDepth 100000 in
theorem laid_met (os : Os) : laidMetH Tryd.prog laidL ((laidWorld os).forCall (fun _ _ => 0) ⟨#[], #[.slice none 0 0], []⟩).memory :=
  laidMetH_of_parts3 (fuel := 8) (laidMet_of_run' 8 (by kernel_rfl) (by kernel_rfl)) (by kernel_rfl) (by kernel_rfl)

/-! ### The row's last step -/
section
variable {H : Type} {enc : TypeId × Value → H} {P : Program}
theorem post_quiet {f : Func} {s : ChangeSpec} {apart fresh handsOn again : Bool} {W W' : World} {args : Array Value} {v : Value} {ds gs : List (DataW H)} {before pa pv : List MemPlace}
    (hW : DataW.Whole enc P f.params.toList s.vars apart W args.toList ds gs before) (hg : G W W' none)
    (hres : ∀ (b : Nat) (sp : Nat → Bool) (hd : Bool), DataW.TrodAll enc P W' b sp hd f.resultTypes.toList (v.resultList f.resultTypes.size) (s.fn H (ds ++ gs)).results [])
    (hargs : ∀ sp : Nat → Bool, (∀ p ∈ before, sp p.block = true) → DataW.TrodAll enc P W' 0 sp true f.params.toList args.toList (s.fn H (ds ++ gs)).args pa)
    (hvars : ∀ sp : Nat → Bool, (∀ p ∈ before, sp p.block = true) → DataW.TrodVars enc P W' sp s.vars (s.fn H (ds ++ gs)).vars pv)
    (hps : before = pa ++ pv)
    (hok : ∀ (j : Nat) (t : TypeId) (r : Value), f.resultTypes[j]? = some t → (v.resultList f.resultTypes.size)[j]? = some r → Value.okWide P W' .any 0 t r) :
    s.post enc P f apart fresh handsOn again W args v W' := by
  have hb := hg.below
  have lt : ∀ p ∈ before, p.block < W.heap.size := fun p hp => hW.lt p hp
  have old : ∀ p ∈ before, (fun b => decide (b < W.heap.size)) p.block = true := fun p hp => decide_eq_true (lt p hp)
  have sub : ∀ p, p ∈ ([] ++ pa) ++ pv → p ∈ before := fun p hp => by rw [hps]; simpa using hp
  refine ⟨ds, gs, before, [], pa, pv, hW, hres _ _ _, hargs _ old, hvars _ old, World.keptBut_mono (fun p hp => ⟨hp, .inr (by rw [← List.mem_append, ← hps]; exact hp)⟩) (hb.frame (· ∈ before)), fun _ => ⟨hok, ?_⟩⟩
  obtain ⟨_, _, _, _, _, hz, hn⟩ := hW
  refine ⟨_, _, ([] ++ pa) ++ pv, ⟨[] ++ pa, pv, trodAll_append (hargs _ fun _ _ => rfl) (hres _ _ _), hvars _ fun _ _ => rfl, rfl, fun b off hp => ?_, fun ha => ?_⟩, fun p hp _ => sub p hp⟩
  · rw [hb.frozen (lt _ (sub _ hp))]
    exact hz b off (sub _ hp)
  · have h := hn ha
    rw [hps] at h
    simpa using h
end
theorem laidOut : laidOutB Tryd.prog = true := by kernel_rfl
theorem wf64 {n : Int} (h : (Lit.int .i64 n).wf = true) : -9223372036854775808 ≤ n ∧ n ≤ 9223372036854775807 := by
  have h1 : IntKind.i64.min = -9223372036854775808 := rfl
  have h2 : IntKind.i64.max = 9223372036854775807 := rfl
  simp only [Lit.wf, Bool.and_eq_true, decide_eq_true_eq] at h
  omega
set_option maxRecDepth 100000 in
theorem has_of_ok {W : World} {base : Nat} {a : Addr} {n c : Nat} (hok : Value.okWide Tryd.prog W .any base 22 (.slice (some a) n c)) : a.spot = none ∧ a.block < W.heap.size := by
  simp only [Value.okWide, Tryd.underlying22, Cell.okWide, Cell.ok] at hok
  obtain ⟨_, _, _, h2, row, cells, h3, _⟩ := hok
  refine ⟨h2, ?_⟩
  unfold World.shape? at h3
  cases hh : W.heap[a.block]? with
  | none => simp [hh] at h3
  | some o => exact (Array.getElem?_eq_some_iff.1 hh).1
set_option maxRecDepth 100000 in
/-- The list of numbers that came in, as the walk wants it. -/
theorem rd_of_trod {H : Type} {enc : TypeId × Value → H} {W : World} {base : Nat} {v : Value} {d : DataW H} {p : List MemPlace} (hok : Value.okWide Tryd.prog W .any base 22 v) (h : DataW.Trod enc Tryd.prog W 0 (fun _ => true) true 22 v d p) :
    ∃ (a : Option Addr) (n c : Nat) (zs : List Int), v = .slice a n c ∧ Rd W 1 (.slice a n c) n (zs.map (Value.int .i64)) ∧ ∀ z ∈ zs, -9223372036854775808 ≤ z ∧ z ≤ 9223372036854775807 := by
  obtain ⟨a0, len, cap, rfl⟩ := okWide_slice Tryd.underlying22 hok
  obtain ⟨fuel, hf⟩ := h
  rcases open_ints Tryd.underlying22 Tryd.underlying3 c1 hf with ⟨hcs, _⟩ | ⟨a, len', cap', zs, hcs, _, hl, hm, hz, _, hcell, hw⟩
  · have hcs' : [Value.slice a0 len cap] = [Value.slice none 0 0] := hcs
    injection hcs' with e _
    injection e with e1 e2 e3
    subst e1; subst e2; subst e3
    exact ⟨none, 0, 0, [], rfl, ⟨none, 0, rfl, Nat.le_refl _, Nat.zero_le _, rfl, fun _ => ⟨rfl, rfl⟩, fun b hb => by cases hb⟩, fun z hz => by cases hz⟩
  · have hcs' : [Value.slice a0 len cap] = [Value.slice (some a) len' cap'] := hcs
    injection hcs' with e _
    injection e with e1 e2 e3
    subst e1; subst e2; subst e3
    simp only [if_true] at hz
    obtain ⟨s1, s2⟩ := has_of_ok hok
    refine ⟨some a, len, cap, zs.take len, rfl, ⟨some a, cap, rfl, hl, hm, by simp; omega, (fun e => by cases e), fun b hb => ?_⟩, fun z hz' => wf64 (hw z (List.mem_of_mem_take hz'))⟩
    obtain rfl := Option.some.inj hb
    refine ⟨s1, s2, fun j u hj => ?_⟩
    rw [List.getElem?_map] at hj
    obtain ⟨z, hz1, rfl⟩ := Option.map_eq_some_iff.1 hj
    have hjl := (List.getElem?_eq_some_iff.1 hz1).1
    simp at hjl
    have hc := hcell j (by omega)
    have hz2 : zs[j]? = some z := by rw [← hz1, List.getElem?_take, if_pos (by omega)]
    rw [List.getD, hz2] at hc
    have ha : a.add j = ⟨a.block, a.off + j, none⟩ := by
      obtain ⟨ab, ao, asp⟩ := a
      dsimp only at s1
      subst s1
      exact add_at ab ao j
    rw [ha] at hc
    exact hc
end Go.Proofs.YtndeidcddlmhbaaDoor
