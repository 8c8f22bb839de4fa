/- Rcl, Lay. -/
import Derived.Test.YtndeidcddlmhbaaDoorZr2
import Derived.Test.YtndeidcddlmhbaaDoorZr3
import Derived.Test.YtndeidcddlmhbaaDoorZr1
import Derived.Laws.StructEq
import Derived.StillTailTactics
import Derived.Test.YtndeidcddlmhbaaDoorRows
import Derived.Test.YtndeidcddlmhbaaDoorTie
import Derived.Test.YtndeidcddlmhbaaDoorCards
import Derived.LaidMore
import Derived.ChangeSame
import Derived.ProofKit
import Derived.OpenShut
import Derived.PinnedBridge
import Derived.Deep.DeepHandedRow
import Derived.Deep.DeepWitnessRowRef
/- The law RateChecks. -/
namespace Go.Proofs.YtndeidcddlmhbaaDoor
open Go.RowKit

theorem ra_eql (x : Ra) (w : World) : (binOp .eql 79 (.agg (raC x)) (.agg (raC x))).run Tryd.prog w = .ok (.bool true) w := by
  obtain ⟨k, a, z, h, d, e4, v⟩ := x
  have ht : Tryd.prog.underlying 79 = some (.struct (Tryd.prog.fieldsOf 79)) := by kernel_rfl
  have hp : Tryd.prog.stoodInHeld 79 = false := by kernel_rfl
  rw [run_eql_struct, run_equalIn_agg w 9999 79 _ _ ht hp]
  simp [raC, Tryd.underlying79, Tryd.underlying3, Tryd.underlying9, go_sem]
theorem ro_errs (l : List Ra) (k : ByteArray) (d q : Int) (hq : q = if inB d 0 4000 = true then 0 else 1) :
    (errsOf [raE l, keyE k, q] = 0 → roN l k d = raG (l.find? (raF k d)) ∧ roE l k d = if (l.find? (raF k d)).isSome = true then 0 else 8) ∧ (errsOf [raE l, keyE k, q] ≠ 0 → roN l k d = raZ ∧ roE l k d = errsOf [raE l, keyE k, q]) := by
  subst hq
  have he : errsOf [raE l, keyE k, if inB d 0 4000 = true then (0 : Int) else 1] = if raE l = 0 then (if keyE k = 0 then (if (if inB d 0 4000 = true then (0 : Int) else 1) = 0 then 0 else (if inB d 0 4000 = true then 0 else 1)) else keyE k) else raE l := rfl
  rw [he]
  by_cases h0 : raE l = 0
  · rw [if_pos h0]
    have hr : roE l k d = if keyB k = false then 5 else if inB d 0 4000 = false then 1 else if (l.find? (raF k d)).isSome = true then 0 else 8 := by rw [roE, if_pos h0]
    cases hk : keyB k with
    | false =>
      have hke : keyE k = 5 := by simp [keyE, hk]
      have hr2 : roE l k d = 5 := by rw [hr, if_pos hk]
      rw [hke, if_neg (by decide)]
      exact ⟨fun h => absurd h (by decide), fun _ => ⟨by rw [roN, if_neg (by rw [hr2]; decide)], hr2⟩⟩
    | true =>
      have hke : keyE k = 0 := by simp [keyE, hk]
      rw [hke, if_pos rfl]
      cases hd : inB d 0 4000 with
      | false =>
        have hr2 : roE l k d = 1 := by rw [hr, if_neg (by simp [hk]), if_pos hd]
        exact ⟨fun h => absurd h (by decide), fun _ => ⟨by rw [roN, if_neg (by rw [hr2]; decide)], by rw [hr2]; rfl⟩⟩
      | true =>
        have hr2 : roE l k d = if (l.find? (raF k d)).isSome = true then 0 else 8 := by rw [hr, if_neg (by simp [hk]), if_neg (by simp [hd])]
        refine ⟨fun _ => ⟨?_, hr2⟩, fun h => absurd rfl h⟩
        unfold roN
        rw [hr2]
        cases l.find? (raF k d) with
        | none => rfl
        | some x => rfl
  · rw [if_neg h0]
    have hr2 : roE l k d = raE l := by rw [roE, if_neg h0]
    exact ⟨fun h => absurd h h0, fun _ => ⟨by rw [roN, if_neg (by rw [hr2]; exact h0)], hr2⟩⟩
/-- What stands throughout: the rates, the time, the rate that was found. -/
def VInv (W : World) (v : Value) (l : List Ra) (gw : Nat) (a z : Int) (gx : Nat) (X : Ra) (w : World) : Prop := RdR w 7 raC v l ∧ Bk w gw 29 #[.int .i64 a, .int .i64 z] ∧ Bk w gx 79 (raC X) ∧ G W w none
theorem VInv.quiet {W w w' : World} {v : Value} {l : List Ra} {gw gx : Nat} {a z : Int} {X : Ra} (h : VInv W v l gw a z gx X w) (hG : G w w' none) : VInv W v l gw a z gx X w' := ⟨h.1.quiet hG, h.2.1.quiet hG, h.2.2.1.quiet hG, h.2.2.2.trans hG⟩
set_option maxRecDepth 100000 in
set_option maxHeartbeats 16000000 in
theorem rateChecks_c (a : Option Addr) (n c : Nat) (zs : List Int) (W : World) (hr : Rd W 1 (.slice a n c) n (zs.map (Value.int .i64))) (hz : ∀ z ∈ zs, -9223372036854775808 ≤ z ∧ z ≤ 9223372036854775807) :
    Calls Tryd.prog 6 #[.slice a n c] W fun e W' => e = .returned (.bool true) ∧ G W W' none := by
  have hSB : SB (W.alloc (.cells #[.slice a n c, .int .i64 0] 25)) W.heap.size 0 := by
    have hB := Bk.new W 25 #[.slice a n c, .int .i64 0]
    refine ⟨0, a, n, c, zs, Nat.le_refl _, hr.quiet ((G.refl _ _).alloc _), fun b e => ?_, hz, hB.cell 0, hB.cell 1, hB.free 1, hB.lt⟩
    obtain ⟨a', c', e', r1, r2, r3, r4, r5⟩ := hr
    cases e'
    exact (r5 b e).2.1
  have hG0 : G W (W.alloc (.cells #[.slice a n c, .int .i64 0] 25)) (some W.heap.size) := (G.refl _ _).alloc _
  clear hr hz
  go_enter Tryd.func6, Tryd.ntmps6
  go_wp2_with fail
  refine (rates_c _ W.heap.size 0 hSB (by omega)).mono ?_; rintro e w1 ⟨v, l, rfl, hrd, hlok, hln, hvb, hSB1, hG1⟩
  have hvs : v.ownBlock ≠ some W.heap.size := fun e => by have := hvb _ e; simp at this; omega
  have HLOK := Lib.hid hlok
  have hG01 := hG0.trans hG1
  clear hSB hG0 hG1 hvb hlok
  go_wp2_with fail
  refine (time_c _ W.heap.size _ hSB1 (by omega)).mono ?_; rintro e w2 ⟨ta, tz, rfl, hta, htz, hSB2, hG2⟩
  have hrd2 := hrd.grown hG2 (fun q e => by cases e; exact hvs)
  have hG02 := hG01.trans hG2
  have HTA := Lib.hid (And.intro hta htz)
  clear hSB1 hG01 hG2 hrd hta htz
  go_wp2_with fail
  refine (classKey_c _ W.heap.size _ hSB2 (by omega)).mono ?_; rintro e w3 ⟨k, rfl, hks, hSB3, hG3⟩
  have hrd3 := hrd2.grown hG3 (fun q e => by cases e; exact hvs)
  have hG03 := hG02.trans hG3
  clear hSB2 hG02 hG3 hrd2
  go_wp2_with fail
  refine (pick_c _ _ _ [0, 1, 3, 5, 20, 4000, -1, 4001] _ _ _ (hSB3.alloc _) (by omega) (by decide) (by decide) (Rd.newAt _ rfl rfl (by decide)) (hSB3.newAt _ _ _ (Nat.le_refl _))).mono ?_; rintro e w4 ⟨d, rfl, hd, hSB4, hG4⟩
  have hd0 : -1 ≤ d ∧ d ≤ 4001 := by simp only [List.mem_cons, List.mem_nil_iff, or_false] at hd; omega
  obtain ⟨d0, d1⟩ := hd0
  have hrd4 := (hrd3.quiet ((G.refl w3 none).alloc _)).grown hG4 (fun q e => by cases e; exact hvs)
  have hG04 := G.own ((hG03.alloc _).trans hG4) (Nat.le_refl _)
  clear hSB3 hG03 hG4 hrd3 hd hSB4 hvs
  have hrd5 := hrd4.quiet ((G.refl w4 none).alloc (.cells #[.int .i64 ta, .int .i64 tz] 29))
  have hN5 := Bk.new w4 29 #[.int .i64 ta, .int .i64 tz]
  have hG05 := hG04.alloc (.cells #[.int .i64 ta, .int .i64 tz] 29)
  clear hrd4 hG04
  go_wp2_with (refine wpList_load_row rfl 29 _ rfl w4.heap.size rfl 29 #[.int .i64 ta, .int .i64 tz] (0, 0) _ hN5 Tryd.underlying29 rfl (wi_info ta tz) ?_)
  refine (days_c ta tz _ HTA.out.1 HTA.out.2).mono ?_; rintro e w6 ⟨rfl, hG6⟩
  have hrd6 := hrd5.quiet hG6
  have hN6 := hN5.quiet hG6
  have hG06 := hG05.trans hG6
  clear hrd5 hN5 hG05 hG6
  generalize w4.heap.size = gw at hN6 ⊢
  go_wp2_with fail
  refine (rateOn_c v l k d _ hrd6 HLOK.out (by omega) hks).mono ?_; rintro e w7 ⟨rfl, hG7⟩
  obtain ⟨X, hX⟩ : ∃ X, roN l k d = X := ⟨_, rfl⟩
  rw [hX, show raC X = #[.string X.1, .int .i64 X.2.1, .int .i64 X.2.2.1, .int .i64 X.2.2.2.1, .int .i64 X.2.2.2.2.1, .int .i64 X.2.2.2.2.2.1, .int .i64 X.2.2.2.2.2.2] from rfl]
  have HX := Lib.hid hX
  clear hX
  have hA7 := (G.refl w7 none).alloc (.cells #[.string X.1, .int .i64 X.2.1, .int .i64 X.2.2.1, .int .i64 X.2.2.2.1, .int .i64 X.2.2.2.2.1, .int .i64 X.2.2.2.2.2.1, .int .i64 X.2.2.2.2.2.2] 79)
  have hI : VInv W v l gw ta tz w7.heap.size X (w7.alloc (.cells #[.string X.1, .int .i64 X.2.1, .int .i64 X.2.2.1, .int .i64 X.2.2.2.1, .int .i64 X.2.2.2.2.1, .int .i64 X.2.2.2.2.2.1, .int .i64 X.2.2.2.2.2.2] 79)) := ⟨(hrd6.quiet hG7).quiet hA7, (hN6.quiet hG7).quiet hA7, Bk.new w7 79 (raC X), (hG06.trans hG7).trans hA7⟩
  clear hrd6 hN6 hG06 hG7 hA7
  go_wp2_with fail
  refine (ratesFault_c v l _ hI.1 HLOK.out (by omega)).mono ?_; rintro e w8 ⟨rfl, hH⟩
  have hI := hI.quiet hH
  clear hH
  generalize w7.heap.size = gx at hI ⊢
  go_wp2_with fail
  refine (checkRates_c v l _ hI.1 HLOK.out (by omega)).mono ?_; rintro e w9 ⟨rfl, hH⟩
  have hI := hI.quiet hH
  clear hH
  have t0 : w9.cell? ⟨gw, 0, none⟩ = some (.int .i64 ta) := hI.2.1.cell 0
  have t1 : w9.cell? ⟨gw, 1, none⟩ = some (.int .i64 tz) := hI.2.1.cell 1
  go_wp2_with fail
  refine (timeFault_c ta tz _ HTA.out.1 HTA.out.2).mono ?_; rintro e w10 ⟨rfl, hH⟩
  have hI := hI.quiet hH
  clear hH t0 t1
  by_cases hT : tE ta tz = 0
  · have HT := Lib.hid hT
    rw [hT]
    clear hT
    have t0 : w10.cell? ⟨gw, 0, none⟩ = some (.int .i64 ta) := hI.2.1.cell 0
    have t1 : w10.cell? ⟨gw, 1, none⟩ = some (.int .i64 tz) := hI.2.1.cell 1
    go_wp2_with fail
    refine (daysOf_c ta tz _ HT.out).mono ?_; rintro e w11 ⟨rfl, hH⟩
    have hI := hI.quiet hH
    clear hH t0 t1
    generalize tN ta tz = N
    have hgg0 := hI.2.2.1.lt
    have hgw0 := hI.2.2.2.size
    have hZ : Bk (w11.alloc (.cells #[.string ⟨#[]⟩, .int .i64 0, .int .i64 0, .int .i64 0, .int .i64 0, .int .i64 0, .int .i64 0] 79)) w11.heap.size 79 (raC raZ) := Bk.new _ _ _
    have hI := hI.quiet ((G.refl w11 none).alloc (.cells #[.string ⟨#[]⟩, .int .i64 0, .int .i64 0, .int .i64 0, .int .i64 0, .int .i64 0, .int .i64 0] 79))
    go_wp2_with fail
    refine (keyFault_c k _ hks).mono ?_; rintro e w12 ⟨rfl, hH⟩
    have hI := hI.quiet hH
    have hZ := hZ.quiet hH
    clear hH
    have hgg := hgg0
    have hgw := hgw0
    generalize w11.heap.size = gz at hZ hgg hgw ⊢
    clear hgg0 hgw0
    rcases (show d < 0 ∨ (0 ≤ d ∧ 4000 < d) ∨ (0 ≤ d ∧ d ≤ 4000) by omega) with k1 | ⟨k1, k2⟩ | ⟨k1, k2⟩
    · have hone := ro_errs l k d 1 (by rw [inB, decide_eq_false (show ¬ 0 ≤ d by omega)]; rfl)
      go_wp2_with fail
      refine (when_t _ _).mono ?_; rintro e w' ⟨rfl, rfl⟩
      have hA := (G.refl w12 none).alloc (.cells #[.int .i64 (raE l), .int .i64 (keyE k), .int .i64 1] 36)
      have hI := hI.quiet hA
      have hZ := hZ.quiet hA
      clear hA
      go_wp2_with fail
      refine (errs_c [raE l, keyE k, 1] _ _ (Rd.new #[.int .i64 (raE l), .int .i64 (keyE k), .int .i64 1] rfl (by show 3 ≤ maxLen; decide)) (by simp)).mono ?_; rintro e w' ⟨rfl, rfl⟩
      generalize w12.alloc (.cells #[.int .i64 (raE l), .int .i64 (keyE k), .int .i64 1] 36) = w13 at hI hZ ⊢
      by_cases hE : errsOf [raE l, keyE k, 1] = 0
      · obtain ⟨hN, hQ⟩ := hone.1 hE
        have hXG : raG (l.find? (raF k d)) = X := hN.symm.trans HX.out
        rw [hE]
        clear hE hone hN
        cases hs : (l.find? (raF k d)).isSome with
        | false =>
          rw [hs] at hQ
          have hQ2 : roE l k d = 8 := hQ
          rw [hQ2]
          clear hQ hQ2
          go_wp2_with fail
          refine (rateAt_c v l k d _ hI.1 HLOK.out (by omega)).mono ?_; rintro e w14 ⟨rfl, hH⟩
          rw [hXG, hs, show raC X = #[.string X.1, .int .i64 X.2.1, .int .i64 X.2.2.1, .int .i64 X.2.2.2.1, .int .i64 X.2.2.2.2.1, .int .i64 X.2.2.2.2.2.1, .int .i64 X.2.2.2.2.2.2] from rfl]
          have hI := hI.quiet hH
          have hZ := hZ.quiet hH
          have hA := (G.refl w14 none).alloc (.cells #[.string X.1, .int .i64 X.2.1, .int .i64 X.2.2.1, .int .i64 X.2.2.2.1, .int .i64 X.2.2.2.2.1, .int .i64 X.2.2.2.2.2.1, .int .i64 X.2.2.2.2.2.2] 79)
          have hY : Bk (w14.alloc (.cells #[.string X.1, .int .i64 X.2.1, .int .i64 X.2.2.1, .int .i64 X.2.2.2.1, .int .i64 X.2.2.2.2.1, .int .i64 X.2.2.2.2.2.1, .int .i64 X.2.2.2.2.2.2] 79)) w14.heap.size 79 (raC X) := Bk.new _ _ _
          have hI := hI.quiet hA
          have hZ := hZ.quiet hA
          clear hH hA hXG hs
          go_wp2_with fail
          generalize w14.alloc (.cells #[.string X.1, .int .i64 X.2.1, .int .i64 X.2.2.1, .int .i64 X.2.2.2.1, .int .i64 X.2.2.2.2.1, .int .i64 X.2.2.2.2.2.1, .int .i64 X.2.2.2.2.2.2] 79) = w15 at hI hZ hY ⊢
          generalize w14.heap.size = gy at hY ⊢
          have y0 : w15.cell? ⟨gy, 0, none⟩ = some (.string X.1) := hY.cell 0
          have y1 : w15.cell? ⟨gy, 1, none⟩ = some (.int .i64 X.2.1) := hY.cell 1
          have y2 : w15.cell? ⟨gy, 2, none⟩ = some (.int .i64 X.2.2.1) := hY.cell 2
          have y3 : w15.cell? ⟨gy, 3, none⟩ = some (.int .i64 X.2.2.2.1) := hY.cell 3
          have y4 : w15.cell? ⟨gy, 4, none⟩ = some (.int .i64 X.2.2.2.2.1) := hY.cell 4
          have y5 : w15.cell? ⟨gy, 5, none⟩ = some (.int .i64 X.2.2.2.2.2.1) := hY.cell 5
          have y6 : w15.cell? ⟨gy, 6, none⟩ = some (.int .i64 X.2.2.2.2.2.2) := hY.cell 6
          go_still_tail 4, (by kernel_rfl)
          still_call ((when_t 8 _).mono fun _ _ h => ⟨h.1, h.2.symm⟩)
          refine wpStill_nil ?_
          change wpList _ _ _ _ _ w15.drew
          have hI := hI.quiet ((G.refl w15 none).drew)
          have hZ := hZ.quiet ((G.refl w15 none).drew)
          clear hY y0 y1 y2 y3 y4 y5 y6
          generalize w15.drew = w16 at hI hZ ⊢
          have x0 : Bk (w16.setRow gz #[.string X.1, .int .i64 X.2.1, .int .i64 X.2.2.1, .int .i64 X.2.2.2.1, .int .i64 X.2.2.2.2.1, .int .i64 X.2.2.2.2.2.1, .int .i64 X.2.2.2.2.2.2]) gx 79 (raC X) := hI.2.2.1.farRow (show gx ≠ gz by omega) _
          have z0 : Bk (w16.setRow gz #[.string X.1, .int .i64 X.2.1, .int .i64 X.2.2.1, .int .i64 X.2.2.2.1, .int .i64 X.2.2.2.2.1, .int .i64 X.2.2.2.2.2.1, .int .i64 X.2.2.2.2.2.2]) gz 79 (raC X) := hZ.setRow _
          have hGW : G W (w16.setRow gz #[.string X.1, .int .i64 X.2.1, .int .i64 X.2.2.1, .int .i64 X.2.2.2.1, .int .i64 X.2.2.2.2.1, .int .i64 X.2.2.2.2.2.1, .int .i64 X.2.2.2.2.2.2]) none := hI.2.2.2.setRow (.inl hgw) _
          have hnq : ∀ w : World, (binOp .eql 79 (.agg #[.string X.1, .int .i64 X.2.1, .int .i64 X.2.2.1, .int .i64 X.2.2.2.1, .int .i64 X.2.2.2.2.1, .int .i64 X.2.2.2.2.2.1, .int .i64 X.2.2.2.2.2.2]) (.agg #[.string X.1, .int .i64 X.2.1, .int .i64 X.2.2.1, .int .i64 X.2.2.2.1, .int .i64 X.2.2.2.2.1, .int .i64 X.2.2.2.2.2.1, .int .i64 X.2.2.2.2.2.2])).run Tryd.prog w = .ok (.bool true) w := fun w => ra_eql X w
          have c0 : (w16.setRow gz #[.string X.1, .int .i64 X.2.1, .int .i64 X.2.2.1, .int .i64 X.2.2.2.1, .int .i64 X.2.2.2.2.1, .int .i64 X.2.2.2.2.2.1, .int .i64 X.2.2.2.2.2.2]).cell? ⟨gx, 0, none⟩ = some (.string X.1) := x0.cell 0
          have c1 : (w16.setRow gz #[.string X.1, .int .i64 X.2.1, .int .i64 X.2.2.1, .int .i64 X.2.2.2.1, .int .i64 X.2.2.2.2.1, .int .i64 X.2.2.2.2.2.1, .int .i64 X.2.2.2.2.2.2]).cell? ⟨gx, 1, none⟩ = some (.int .i64 X.2.1) := x0.cell 1
          have c2 : (w16.setRow gz #[.string X.1, .int .i64 X.2.1, .int .i64 X.2.2.1, .int .i64 X.2.2.2.1, .int .i64 X.2.2.2.2.1, .int .i64 X.2.2.2.2.2.1, .int .i64 X.2.2.2.2.2.2]).cell? ⟨gx, 2, none⟩ = some (.int .i64 X.2.2.1) := x0.cell 2
          have c3 : (w16.setRow gz #[.string X.1, .int .i64 X.2.1, .int .i64 X.2.2.1, .int .i64 X.2.2.2.1, .int .i64 X.2.2.2.2.1, .int .i64 X.2.2.2.2.2.1, .int .i64 X.2.2.2.2.2.2]).cell? ⟨gx, 3, none⟩ = some (.int .i64 X.2.2.2.1) := x0.cell 3
          have c4 : (w16.setRow gz #[.string X.1, .int .i64 X.2.1, .int .i64 X.2.2.1, .int .i64 X.2.2.2.1, .int .i64 X.2.2.2.2.1, .int .i64 X.2.2.2.2.2.1, .int .i64 X.2.2.2.2.2.2]).cell? ⟨gx, 4, none⟩ = some (.int .i64 X.2.2.2.2.1) := x0.cell 4
          have c5 : (w16.setRow gz #[.string X.1, .int .i64 X.2.1, .int .i64 X.2.2.1, .int .i64 X.2.2.2.1, .int .i64 X.2.2.2.2.1, .int .i64 X.2.2.2.2.2.1, .int .i64 X.2.2.2.2.2.2]).cell? ⟨gx, 5, none⟩ = some (.int .i64 X.2.2.2.2.2.1) := x0.cell 5
          have c6 : (w16.setRow gz #[.string X.1, .int .i64 X.2.1, .int .i64 X.2.2.1, .int .i64 X.2.2.2.1, .int .i64 X.2.2.2.2.1, .int .i64 X.2.2.2.2.2.1, .int .i64 X.2.2.2.2.2.2]).cell? ⟨gx, 6, none⟩ = some (.int .i64 X.2.2.2.2.2.2) := x0.cell 6
          have e0 : (w16.setRow gz #[.string X.1, .int .i64 X.2.1, .int .i64 X.2.2.1, .int .i64 X.2.2.2.1, .int .i64 X.2.2.2.2.1, .int .i64 X.2.2.2.2.2.1, .int .i64 X.2.2.2.2.2.2]).cell? ⟨gz, 0, none⟩ = some (.string X.1) := z0.cell 0
          have e1 : (w16.setRow gz #[.string X.1, .int .i64 X.2.1, .int .i64 X.2.2.1, .int .i64 X.2.2.2.1, .int .i64 X.2.2.2.2.1, .int .i64 X.2.2.2.2.2.1, .int .i64 X.2.2.2.2.2.2]).cell? ⟨gz, 1, none⟩ = some (.int .i64 X.2.1) := z0.cell 1
          have e2 : (w16.setRow gz #[.string X.1, .int .i64 X.2.1, .int .i64 X.2.2.1, .int .i64 X.2.2.2.1, .int .i64 X.2.2.2.2.1, .int .i64 X.2.2.2.2.2.1, .int .i64 X.2.2.2.2.2.2]).cell? ⟨gz, 2, none⟩ = some (.int .i64 X.2.2.1) := z0.cell 2
          have e3 : (w16.setRow gz #[.string X.1, .int .i64 X.2.1, .int .i64 X.2.2.1, .int .i64 X.2.2.2.1, .int .i64 X.2.2.2.2.1, .int .i64 X.2.2.2.2.2.1, .int .i64 X.2.2.2.2.2.2]).cell? ⟨gz, 3, none⟩ = some (.int .i64 X.2.2.2.1) := z0.cell 3
          have e4 : (w16.setRow gz #[.string X.1, .int .i64 X.2.1, .int .i64 X.2.2.1, .int .i64 X.2.2.2.1, .int .i64 X.2.2.2.2.1, .int .i64 X.2.2.2.2.2.1, .int .i64 X.2.2.2.2.2.2]).cell? ⟨gz, 4, none⟩ = some (.int .i64 X.2.2.2.2.1) := z0.cell 4
          have e5 : (w16.setRow gz #[.string X.1, .int .i64 X.2.1, .int .i64 X.2.2.1, .int .i64 X.2.2.2.1, .int .i64 X.2.2.2.2.1, .int .i64 X.2.2.2.2.2.1, .int .i64 X.2.2.2.2.2.2]).cell? ⟨gz, 5, none⟩ = some (.int .i64 X.2.2.2.2.2.1) := z0.cell 5
          have e6 : (w16.setRow gz #[.string X.1, .int .i64 X.2.1, .int .i64 X.2.2.1, .int .i64 X.2.2.2.1, .int .i64 X.2.2.2.2.1, .int .i64 X.2.2.2.2.2.1, .int .i64 X.2.2.2.2.2.2]).cell? ⟨gz, 6, none⟩ = some (.int .i64 X.2.2.2.2.2.2) := z0.cell 6
          clear hI x0 z0
          go_wp2_with (refine wpList_store_row rfl 79 _ _ rfl gz #[.string X.1, .int .i64 X.2.1, .int .i64 X.2.2.1, .int .i64 X.2.2.2.1, .int .i64 X.2.2.2.2.1, .int .i64 X.2.2.2.2.2.1, .int .i64 X.2.2.2.2.2.2] rfl rfl 79 _ hZ (ra_info X) rfl (ra_oneB X) ?_)
          refine (priced_c _).mono ?_; rintro e w17 ⟨rfl, hH⟩
          go_wp2_with fail
          go_ret
          exact ⟨rfl, hGW.trans hH⟩
        | true =>
          rw [hs] at hQ
          have hQ2 : roE l k d = 0 := hQ
          rw [hQ2]
          clear hQ hQ2
          go_wp2_with fail
          refine (rateAt_c v l k d _ hI.1 HLOK.out (by omega)).mono ?_; rintro e w14 ⟨rfl, hH⟩
          rw [hXG, hs, show raC X = #[.string X.1, .int .i64 X.2.1, .int .i64 X.2.2.1, .int .i64 X.2.2.2.1, .int .i64 X.2.2.2.2.1, .int .i64 X.2.2.2.2.2.1, .int .i64 X.2.2.2.2.2.2] from rfl]
          have hI := hI.quiet hH
          have hZ := hZ.quiet hH
          have hA := (G.refl w14 none).alloc (.cells #[.string X.1, .int .i64 X.2.1, .int .i64 X.2.2.1, .int .i64 X.2.2.2.1, .int .i64 X.2.2.2.2.1, .int .i64 X.2.2.2.2.2.1, .int .i64 X.2.2.2.2.2.2] 79)
          have hY : Bk (w14.alloc (.cells #[.string X.1, .int .i64 X.2.1, .int .i64 X.2.2.1, .int .i64 X.2.2.2.1, .int .i64 X.2.2.2.2.1, .int .i64 X.2.2.2.2.2.1, .int .i64 X.2.2.2.2.2.2] 79)) w14.heap.size 79 (raC X) := Bk.new _ _ _
          have hI := hI.quiet hA
          have hZ := hZ.quiet hA
          clear hH hA hXG hs
          go_wp2_with fail
          generalize w14.alloc (.cells #[.string X.1, .int .i64 X.2.1, .int .i64 X.2.2.1, .int .i64 X.2.2.2.1, .int .i64 X.2.2.2.2.1, .int .i64 X.2.2.2.2.2.1, .int .i64 X.2.2.2.2.2.2] 79) = w15 at hI hZ hY ⊢
          generalize w14.heap.size = gy at hY ⊢
          have y0 : w15.cell? ⟨gy, 0, none⟩ = some (.string X.1) := hY.cell 0
          have y1 : w15.cell? ⟨gy, 1, none⟩ = some (.int .i64 X.2.1) := hY.cell 1
          have y2 : w15.cell? ⟨gy, 2, none⟩ = some (.int .i64 X.2.2.1) := hY.cell 2
          have y3 : w15.cell? ⟨gy, 3, none⟩ = some (.int .i64 X.2.2.2.1) := hY.cell 3
          have y4 : w15.cell? ⟨gy, 4, none⟩ = some (.int .i64 X.2.2.2.2.1) := hY.cell 4
          have y5 : w15.cell? ⟨gy, 5, none⟩ = some (.int .i64 X.2.2.2.2.2.1) := hY.cell 5
          have y6 : w15.cell? ⟨gy, 6, none⟩ = some (.int .i64 X.2.2.2.2.2.2) := hY.cell 6
          go_still_tail 4, (by kernel_rfl)
          still_call ((when_f 8 _).mono fun _ _ h => ⟨h.1, h.2.symm⟩)
          refine wpStill_nil ?_
          change wpList _ _ _ _ _ w15.drew
          have hI := hI.quiet ((G.refl w15 none).drew)
          have hZ := hZ.quiet ((G.refl w15 none).drew)
          clear hY y0 y1 y2 y3 y4 y5 y6
          generalize w15.drew = w16 at hI hZ ⊢
          have x0 : Bk (w16.setRow gz #[.string X.1, .int .i64 X.2.1, .int .i64 X.2.2.1, .int .i64 X.2.2.2.1, .int .i64 X.2.2.2.2.1, .int .i64 X.2.2.2.2.2.1, .int .i64 X.2.2.2.2.2.2]) gx 79 (raC X) := hI.2.2.1.farRow (show gx ≠ gz by omega) _
          have z0 : Bk (w16.setRow gz #[.string X.1, .int .i64 X.2.1, .int .i64 X.2.2.1, .int .i64 X.2.2.2.1, .int .i64 X.2.2.2.2.1, .int .i64 X.2.2.2.2.2.1, .int .i64 X.2.2.2.2.2.2]) gz 79 (raC X) := hZ.setRow _
          have hGW : G W (w16.setRow gz #[.string X.1, .int .i64 X.2.1, .int .i64 X.2.2.1, .int .i64 X.2.2.2.1, .int .i64 X.2.2.2.2.1, .int .i64 X.2.2.2.2.2.1, .int .i64 X.2.2.2.2.2.2]) none := hI.2.2.2.setRow (.inl hgw) _
          have hnq : ∀ w : World, (binOp .eql 79 (.agg #[.string X.1, .int .i64 X.2.1, .int .i64 X.2.2.1, .int .i64 X.2.2.2.1, .int .i64 X.2.2.2.2.1, .int .i64 X.2.2.2.2.2.1, .int .i64 X.2.2.2.2.2.2]) (.agg #[.string X.1, .int .i64 X.2.1, .int .i64 X.2.2.1, .int .i64 X.2.2.2.1, .int .i64 X.2.2.2.2.1, .int .i64 X.2.2.2.2.2.1, .int .i64 X.2.2.2.2.2.2])).run Tryd.prog w = .ok (.bool true) w := fun w => ra_eql X w
          have c0 : (w16.setRow gz #[.string X.1, .int .i64 X.2.1, .int .i64 X.2.2.1, .int .i64 X.2.2.2.1, .int .i64 X.2.2.2.2.1, .int .i64 X.2.2.2.2.2.1, .int .i64 X.2.2.2.2.2.2]).cell? ⟨gx, 0, none⟩ = some (.string X.1) := x0.cell 0
          have c1 : (w16.setRow gz #[.string X.1, .int .i64 X.2.1, .int .i64 X.2.2.1, .int .i64 X.2.2.2.1, .int .i64 X.2.2.2.2.1, .int .i64 X.2.2.2.2.2.1, .int .i64 X.2.2.2.2.2.2]).cell? ⟨gx, 1, none⟩ = some (.int .i64 X.2.1) := x0.cell 1
          have c2 : (w16.setRow gz #[.string X.1, .int .i64 X.2.1, .int .i64 X.2.2.1, .int .i64 X.2.2.2.1, .int .i64 X.2.2.2.2.1, .int .i64 X.2.2.2.2.2.1, .int .i64 X.2.2.2.2.2.2]).cell? ⟨gx, 2, none⟩ = some (.int .i64 X.2.2.1) := x0.cell 2
          have c3 : (w16.setRow gz #[.string X.1, .int .i64 X.2.1, .int .i64 X.2.2.1, .int .i64 X.2.2.2.1, .int .i64 X.2.2.2.2.1, .int .i64 X.2.2.2.2.2.1, .int .i64 X.2.2.2.2.2.2]).cell? ⟨gx, 3, none⟩ = some (.int .i64 X.2.2.2.1) := x0.cell 3
          have c4 : (w16.setRow gz #[.string X.1, .int .i64 X.2.1, .int .i64 X.2.2.1, .int .i64 X.2.2.2.1, .int .i64 X.2.2.2.2.1, .int .i64 X.2.2.2.2.2.1, .int .i64 X.2.2.2.2.2.2]).cell? ⟨gx, 4, none⟩ = some (.int .i64 X.2.2.2.2.1) := x0.cell 4
          have c5 : (w16.setRow gz #[.string X.1, .int .i64 X.2.1, .int .i64 X.2.2.1, .int .i64 X.2.2.2.1, .int .i64 X.2.2.2.2.1, .int .i64 X.2.2.2.2.2.1, .int .i64 X.2.2.2.2.2.2]).cell? ⟨gx, 5, none⟩ = some (.int .i64 X.2.2.2.2.2.1) := x0.cell 5
          have c6 : (w16.setRow gz #[.string X.1, .int .i64 X.2.1, .int .i64 X.2.2.1, .int .i64 X.2.2.2.1, .int .i64 X.2.2.2.2.1, .int .i64 X.2.2.2.2.2.1, .int .i64 X.2.2.2.2.2.2]).cell? ⟨gx, 6, none⟩ = some (.int .i64 X.2.2.2.2.2.2) := x0.cell 6
          have e0 : (w16.setRow gz #[.string X.1, .int .i64 X.2.1, .int .i64 X.2.2.1, .int .i64 X.2.2.2.1, .int .i64 X.2.2.2.2.1, .int .i64 X.2.2.2.2.2.1, .int .i64 X.2.2.2.2.2.2]).cell? ⟨gz, 0, none⟩ = some (.string X.1) := z0.cell 0
          have e1 : (w16.setRow gz #[.string X.1, .int .i64 X.2.1, .int .i64 X.2.2.1, .int .i64 X.2.2.2.1, .int .i64 X.2.2.2.2.1, .int .i64 X.2.2.2.2.2.1, .int .i64 X.2.2.2.2.2.2]).cell? ⟨gz, 1, none⟩ = some (.int .i64 X.2.1) := z0.cell 1
          have e2 : (w16.setRow gz #[.string X.1, .int .i64 X.2.1, .int .i64 X.2.2.1, .int .i64 X.2.2.2.1, .int .i64 X.2.2.2.2.1, .int .i64 X.2.2.2.2.2.1, .int .i64 X.2.2.2.2.2.2]).cell? ⟨gz, 2, none⟩ = some (.int .i64 X.2.2.1) := z0.cell 2
          have e3 : (w16.setRow gz #[.string X.1, .int .i64 X.2.1, .int .i64 X.2.2.1, .int .i64 X.2.2.2.1, .int .i64 X.2.2.2.2.1, .int .i64 X.2.2.2.2.2.1, .int .i64 X.2.2.2.2.2.2]).cell? ⟨gz, 3, none⟩ = some (.int .i64 X.2.2.2.1) := z0.cell 3
          have e4 : (w16.setRow gz #[.string X.1, .int .i64 X.2.1, .int .i64 X.2.2.1, .int .i64 X.2.2.2.1, .int .i64 X.2.2.2.2.1, .int .i64 X.2.2.2.2.2.1, .int .i64 X.2.2.2.2.2.2]).cell? ⟨gz, 4, none⟩ = some (.int .i64 X.2.2.2.2.1) := z0.cell 4
          have e5 : (w16.setRow gz #[.string X.1, .int .i64 X.2.1, .int .i64 X.2.2.1, .int .i64 X.2.2.2.1, .int .i64 X.2.2.2.2.1, .int .i64 X.2.2.2.2.2.1, .int .i64 X.2.2.2.2.2.2]).cell? ⟨gz, 5, none⟩ = some (.int .i64 X.2.2.2.2.2.1) := z0.cell 5
          have e6 : (w16.setRow gz #[.string X.1, .int .i64 X.2.1, .int .i64 X.2.2.1, .int .i64 X.2.2.2.1, .int .i64 X.2.2.2.2.1, .int .i64 X.2.2.2.2.2.1, .int .i64 X.2.2.2.2.2.2]).cell? ⟨gz, 6, none⟩ = some (.int .i64 X.2.2.2.2.2.2) := z0.cell 6
          clear hI x0 z0
          go_wp2_with (refine wpList_store_row rfl 79 _ _ rfl gz #[.string X.1, .int .i64 X.2.1, .int .i64 X.2.2.1, .int .i64 X.2.2.2.1, .int .i64 X.2.2.2.2.1, .int .i64 X.2.2.2.2.2.1, .int .i64 X.2.2.2.2.2.2] rfl rfl 79 _ hZ (ra_info X) rfl (ra_oneB X) ?_)
          refine (priced_c _).mono ?_; rintro e w17 ⟨rfl, hH⟩
          go_wp2_with fail
          go_ret
          exact ⟨rfl, hGW.trans hH⟩
      · obtain ⟨hN, hQ⟩ := hone.2 hE
        have hXZ : X = raZ := HX.out.symm.trans hN
        have hE' : (errsOf [raE l, keyE k, 1] == 0) = false := by simpa using hE
        rw [hQ]
        subst hXZ
        clear hE hone hN hQ HX
        generalize errsOf [raE l, keyE k, 1] = E at hE' ⊢
        have hnq : ∀ w : World, (binOp .eql 79 (.agg #[.string ⟨#[]⟩, .int .i64 0, .int .i64 0, .int .i64 0, .int .i64 0, .int .i64 0, .int .i64 0]) (.agg #[.string ⟨#[]⟩, .int .i64 0, .int .i64 0, .int .i64 0, .int .i64 0, .int .i64 0, .int .i64 0])).run Tryd.prog w = .ok (.bool true) w := fun w => ra_eql raZ w
        have x0 := hI.2.2.1
        have c0 : w13.cell? ⟨gx, 0, none⟩ = some (.string ⟨#[]⟩) := x0.cell 0
        have c1 : w13.cell? ⟨gx, 1, none⟩ = some (.int .i64 0) := x0.cell 1
        have c2 : w13.cell? ⟨gx, 2, none⟩ = some (.int .i64 0) := x0.cell 2
        have c3 : w13.cell? ⟨gx, 3, none⟩ = some (.int .i64 0) := x0.cell 3
        have c4 : w13.cell? ⟨gx, 4, none⟩ = some (.int .i64 0) := x0.cell 4
        have c5 : w13.cell? ⟨gx, 5, none⟩ = some (.int .i64 0) := x0.cell 5
        have c6 : w13.cell? ⟨gx, 6, none⟩ = some (.int .i64 0) := x0.cell 6
        have z0 : w13.cell? ⟨gz, 0, none⟩ = some (.string ⟨#[]⟩) := hZ.cell 0
        have z1 : w13.cell? ⟨gz, 1, none⟩ = some (.int .i64 0) := hZ.cell 1
        have z2 : w13.cell? ⟨gz, 2, none⟩ = some (.int .i64 0) := hZ.cell 2
        have z3 : w13.cell? ⟨gz, 3, none⟩ = some (.int .i64 0) := hZ.cell 3
        have z4 : w13.cell? ⟨gz, 4, none⟩ = some (.int .i64 0) := hZ.cell 4
        have z5 : w13.cell? ⟨gz, 5, none⟩ = some (.int .i64 0) := hZ.cell 5
        have z6 : w13.cell? ⟨gz, 6, none⟩ = some (.int .i64 0) := hZ.cell 6
        have hGW := hI.2.2.2
        clear hI hZ x0
        go_wp2_with fail
        refine (priced_c _).mono ?_; rintro e w15 ⟨rfl, hH⟩
        go_wp2_with fail
        go_ret
        exact ⟨rfl, hGW.trans hH⟩
    · have hone := ro_errs l k d 1 (by rw [inB, decide_eq_false (show ¬ d ≤ 4000 by omega), Bool.and_false]; rfl)
      go_wp2_with fail
      refine (when_t _ _).mono ?_; rintro e w' ⟨rfl, rfl⟩
      have hA := (G.refl w12 none).alloc (.cells #[.int .i64 (raE l), .int .i64 (keyE k), .int .i64 1] 36)
      have hI := hI.quiet hA
      have hZ := hZ.quiet hA
      clear hA
      go_wp2_with fail
      refine (errs_c [raE l, keyE k, 1] _ _ (Rd.new #[.int .i64 (raE l), .int .i64 (keyE k), .int .i64 1] rfl (by show 3 ≤ maxLen; decide)) (by simp)).mono ?_; rintro e w' ⟨rfl, rfl⟩
      generalize w12.alloc (.cells #[.int .i64 (raE l), .int .i64 (keyE k), .int .i64 1] 36) = w13 at hI hZ ⊢
      by_cases hE : errsOf [raE l, keyE k, 1] = 0
      · obtain ⟨hN, hQ⟩ := hone.1 hE
        have hXG : raG (l.find? (raF k d)) = X := hN.symm.trans HX.out
        rw [hE]
        clear hE hone hN
        cases hs : (l.find? (raF k d)).isSome with
        | false =>
          rw [hs] at hQ
          have hQ2 : roE l k d = 8 := hQ
          rw [hQ2]
          clear hQ hQ2
          go_wp2_with fail
          refine (rateAt_c v l k d _ hI.1 HLOK.out (by omega)).mono ?_; rintro e w14 ⟨rfl, hH⟩
          rw [hXG, hs, show raC X = #[.string X.1, .int .i64 X.2.1, .int .i64 X.2.2.1, .int .i64 X.2.2.2.1, .int .i64 X.2.2.2.2.1, .int .i64 X.2.2.2.2.2.1, .int .i64 X.2.2.2.2.2.2] from rfl]
          have hI := hI.quiet hH
          have hZ := hZ.quiet hH
          have hA := (G.refl w14 none).alloc (.cells #[.string X.1, .int .i64 X.2.1, .int .i64 X.2.2.1, .int .i64 X.2.2.2.1, .int .i64 X.2.2.2.2.1, .int .i64 X.2.2.2.2.2.1, .int .i64 X.2.2.2.2.2.2] 79)
          have hY : Bk (w14.alloc (.cells #[.string X.1, .int .i64 X.2.1, .int .i64 X.2.2.1, .int .i64 X.2.2.2.1, .int .i64 X.2.2.2.2.1, .int .i64 X.2.2.2.2.2.1, .int .i64 X.2.2.2.2.2.2] 79)) w14.heap.size 79 (raC X) := Bk.new _ _ _
          have hI := hI.quiet hA
          have hZ := hZ.quiet hA
          clear hH hA hXG hs
          go_wp2_with fail
          generalize w14.alloc (.cells #[.string X.1, .int .i64 X.2.1, .int .i64 X.2.2.1, .int .i64 X.2.2.2.1, .int .i64 X.2.2.2.2.1, .int .i64 X.2.2.2.2.2.1, .int .i64 X.2.2.2.2.2.2] 79) = w15 at hI hZ hY ⊢
          generalize w14.heap.size = gy at hY ⊢
          have y0 : w15.cell? ⟨gy, 0, none⟩ = some (.string X.1) := hY.cell 0
          have y1 : w15.cell? ⟨gy, 1, none⟩ = some (.int .i64 X.2.1) := hY.cell 1
          have y2 : w15.cell? ⟨gy, 2, none⟩ = some (.int .i64 X.2.2.1) := hY.cell 2
          have y3 : w15.cell? ⟨gy, 3, none⟩ = some (.int .i64 X.2.2.2.1) := hY.cell 3
          have y4 : w15.cell? ⟨gy, 4, none⟩ = some (.int .i64 X.2.2.2.2.1) := hY.cell 4
          have y5 : w15.cell? ⟨gy, 5, none⟩ = some (.int .i64 X.2.2.2.2.2.1) := hY.cell 5
          have y6 : w15.cell? ⟨gy, 6, none⟩ = some (.int .i64 X.2.2.2.2.2.2) := hY.cell 6
          go_still_tail 4, (by kernel_rfl)
          still_call ((when_t 8 _).mono fun _ _ h => ⟨h.1, h.2.symm⟩)
          refine wpStill_nil ?_
          change wpList _ _ _ _ _ w15.drew
          have hI := hI.quiet ((G.refl w15 none).drew)
          have hZ := hZ.quiet ((G.refl w15 none).drew)
          clear hY y0 y1 y2 y3 y4 y5 y6
          generalize w15.drew = w16 at hI hZ ⊢
          have x0 : Bk (w16.setRow gz #[.string X.1, .int .i64 X.2.1, .int .i64 X.2.2.1, .int .i64 X.2.2.2.1, .int .i64 X.2.2.2.2.1, .int .i64 X.2.2.2.2.2.1, .int .i64 X.2.2.2.2.2.2]) gx 79 (raC X) := hI.2.2.1.farRow (show gx ≠ gz by omega) _
          have z0 : Bk (w16.setRow gz #[.string X.1, .int .i64 X.2.1, .int .i64 X.2.2.1, .int .i64 X.2.2.2.1, .int .i64 X.2.2.2.2.1, .int .i64 X.2.2.2.2.2.1, .int .i64 X.2.2.2.2.2.2]) gz 79 (raC X) := hZ.setRow _
          have hGW : G W (w16.setRow gz #[.string X.1, .int .i64 X.2.1, .int .i64 X.2.2.1, .int .i64 X.2.2.2.1, .int .i64 X.2.2.2.2.1, .int .i64 X.2.2.2.2.2.1, .int .i64 X.2.2.2.2.2.2]) none := hI.2.2.2.setRow (.inl hgw) _
          have hnq : ∀ w : World, (binOp .eql 79 (.agg #[.string X.1, .int .i64 X.2.1, .int .i64 X.2.2.1, .int .i64 X.2.2.2.1, .int .i64 X.2.2.2.2.1, .int .i64 X.2.2.2.2.2.1, .int .i64 X.2.2.2.2.2.2]) (.agg #[.string X.1, .int .i64 X.2.1, .int .i64 X.2.2.1, .int .i64 X.2.2.2.1, .int .i64 X.2.2.2.2.1, .int .i64 X.2.2.2.2.2.1, .int .i64 X.2.2.2.2.2.2])).run Tryd.prog w = .ok (.bool true) w := fun w => ra_eql X w
          have c0 : (w16.setRow gz #[.string X.1, .int .i64 X.2.1, .int .i64 X.2.2.1, .int .i64 X.2.2.2.1, .int .i64 X.2.2.2.2.1, .int .i64 X.2.2.2.2.2.1, .int .i64 X.2.2.2.2.2.2]).cell? ⟨gx, 0, none⟩ = some (.string X.1) := x0.cell 0
          have c1 : (w16.setRow gz #[.string X.1, .int .i64 X.2.1, .int .i64 X.2.2.1, .int .i64 X.2.2.2.1, .int .i64 X.2.2.2.2.1, .int .i64 X.2.2.2.2.2.1, .int .i64 X.2.2.2.2.2.2]).cell? ⟨gx, 1, none⟩ = some (.int .i64 X.2.1) := x0.cell 1
          have c2 : (w16.setRow gz #[.string X.1, .int .i64 X.2.1, .int .i64 X.2.2.1, .int .i64 X.2.2.2.1, .int .i64 X.2.2.2.2.1, .int .i64 X.2.2.2.2.2.1, .int .i64 X.2.2.2.2.2.2]).cell? ⟨gx, 2, none⟩ = some (.int .i64 X.2.2.1) := x0.cell 2
          have c3 : (w16.setRow gz #[.string X.1, .int .i64 X.2.1, .int .i64 X.2.2.1, .int .i64 X.2.2.2.1, .int .i64 X.2.2.2.2.1, .int .i64 X.2.2.2.2.2.1, .int .i64 X.2.2.2.2.2.2]).cell? ⟨gx, 3, none⟩ = some (.int .i64 X.2.2.2.1) := x0.cell 3
          have c4 : (w16.setRow gz #[.string X.1, .int .i64 X.2.1, .int .i64 X.2.2.1, .int .i64 X.2.2.2.1, .int .i64 X.2.2.2.2.1, .int .i64 X.2.2.2.2.2.1, .int .i64 X.2.2.2.2.2.2]).cell? ⟨gx, 4, none⟩ = some (.int .i64 X.2.2.2.2.1) := x0.cell 4
          have c5 : (w16.setRow gz #[.string X.1, .int .i64 X.2.1, .int .i64 X.2.2.1, .int .i64 X.2.2.2.1, .int .i64 X.2.2.2.2.1, .int .i64 X.2.2.2.2.2.1, .int .i64 X.2.2.2.2.2.2]).cell? ⟨gx, 5, none⟩ = some (.int .i64 X.2.2.2.2.2.1) := x0.cell 5
          have c6 : (w16.setRow gz #[.string X.1, .int .i64 X.2.1, .int .i64 X.2.2.1, .int .i64 X.2.2.2.1, .int .i64 X.2.2.2.2.1, .int .i64 X.2.2.2.2.2.1, .int .i64 X.2.2.2.2.2.2]).cell? ⟨gx, 6, none⟩ = some (.int .i64 X.2.2.2.2.2.2) := x0.cell 6
          have e0 : (w16.setRow gz #[.string X.1, .int .i64 X.2.1, .int .i64 X.2.2.1, .int .i64 X.2.2.2.1, .int .i64 X.2.2.2.2.1, .int .i64 X.2.2.2.2.2.1, .int .i64 X.2.2.2.2.2.2]).cell? ⟨gz, 0, none⟩ = some (.string X.1) := z0.cell 0
          have e1 : (w16.setRow gz #[.string X.1, .int .i64 X.2.1, .int .i64 X.2.2.1, .int .i64 X.2.2.2.1, .int .i64 X.2.2.2.2.1, .int .i64 X.2.2.2.2.2.1, .int .i64 X.2.2.2.2.2.2]).cell? ⟨gz, 1, none⟩ = some (.int .i64 X.2.1) := z0.cell 1
          have e2 : (w16.setRow gz #[.string X.1, .int .i64 X.2.1, .int .i64 X.2.2.1, .int .i64 X.2.2.2.1, .int .i64 X.2.2.2.2.1, .int .i64 X.2.2.2.2.2.1, .int .i64 X.2.2.2.2.2.2]).cell? ⟨gz, 2, none⟩ = some (.int .i64 X.2.2.1) := z0.cell 2
          have e3 : (w16.setRow gz #[.string X.1, .int .i64 X.2.1, .int .i64 X.2.2.1, .int .i64 X.2.2.2.1, .int .i64 X.2.2.2.2.1, .int .i64 X.2.2.2.2.2.1, .int .i64 X.2.2.2.2.2.2]).cell? ⟨gz, 3, none⟩ = some (.int .i64 X.2.2.2.1) := z0.cell 3
          have e4 : (w16.setRow gz #[.string X.1, .int .i64 X.2.1, .int .i64 X.2.2.1, .int .i64 X.2.2.2.1, .int .i64 X.2.2.2.2.1, .int .i64 X.2.2.2.2.2.1, .int .i64 X.2.2.2.2.2.2]).cell? ⟨gz, 4, none⟩ = some (.int .i64 X.2.2.2.2.1) := z0.cell 4
          have e5 : (w16.setRow gz #[.string X.1, .int .i64 X.2.1, .int .i64 X.2.2.1, .int .i64 X.2.2.2.1, .int .i64 X.2.2.2.2.1, .int .i64 X.2.2.2.2.2.1, .int .i64 X.2.2.2.2.2.2]).cell? ⟨gz, 5, none⟩ = some (.int .i64 X.2.2.2.2.2.1) := z0.cell 5
          have e6 : (w16.setRow gz #[.string X.1, .int .i64 X.2.1, .int .i64 X.2.2.1, .int .i64 X.2.2.2.1, .int .i64 X.2.2.2.2.1, .int .i64 X.2.2.2.2.2.1, .int .i64 X.2.2.2.2.2.2]).cell? ⟨gz, 6, none⟩ = some (.int .i64 X.2.2.2.2.2.2) := z0.cell 6
          clear hI x0 z0
          go_wp2_with (refine wpList_store_row rfl 79 _ _ rfl gz #[.string X.1, .int .i64 X.2.1, .int .i64 X.2.2.1, .int .i64 X.2.2.2.1, .int .i64 X.2.2.2.2.1, .int .i64 X.2.2.2.2.2.1, .int .i64 X.2.2.2.2.2.2] rfl rfl 79 _ hZ (ra_info X) rfl (ra_oneB X) ?_)
          refine (priced_c _).mono ?_; rintro e w17 ⟨rfl, hH⟩
          go_wp2_with fail
          go_ret
          exact ⟨rfl, hGW.trans hH⟩
        | true =>
          rw [hs] at hQ
          have hQ2 : roE l k d = 0 := hQ
          rw [hQ2]
          clear hQ hQ2
          go_wp2_with fail
          refine (rateAt_c v l k d _ hI.1 HLOK.out (by omega)).mono ?_; rintro e w14 ⟨rfl, hH⟩
          rw [hXG, hs, show raC X = #[.string X.1, .int .i64 X.2.1, .int .i64 X.2.2.1, .int .i64 X.2.2.2.1, .int .i64 X.2.2.2.2.1, .int .i64 X.2.2.2.2.2.1, .int .i64 X.2.2.2.2.2.2] from rfl]
          have hI := hI.quiet hH
          have hZ := hZ.quiet hH
          have hA := (G.refl w14 none).alloc (.cells #[.string X.1, .int .i64 X.2.1, .int .i64 X.2.2.1, .int .i64 X.2.2.2.1, .int .i64 X.2.2.2.2.1, .int .i64 X.2.2.2.2.2.1, .int .i64 X.2.2.2.2.2.2] 79)
          have hY : Bk (w14.alloc (.cells #[.string X.1, .int .i64 X.2.1, .int .i64 X.2.2.1, .int .i64 X.2.2.2.1, .int .i64 X.2.2.2.2.1, .int .i64 X.2.2.2.2.2.1, .int .i64 X.2.2.2.2.2.2] 79)) w14.heap.size 79 (raC X) := Bk.new _ _ _
          have hI := hI.quiet hA
          have hZ := hZ.quiet hA
          clear hH hA hXG hs
          go_wp2_with fail
          generalize w14.alloc (.cells #[.string X.1, .int .i64 X.2.1, .int .i64 X.2.2.1, .int .i64 X.2.2.2.1, .int .i64 X.2.2.2.2.1, .int .i64 X.2.2.2.2.2.1, .int .i64 X.2.2.2.2.2.2] 79) = w15 at hI hZ hY ⊢
          generalize w14.heap.size = gy at hY ⊢
          have y0 : w15.cell? ⟨gy, 0, none⟩ = some (.string X.1) := hY.cell 0
          have y1 : w15.cell? ⟨gy, 1, none⟩ = some (.int .i64 X.2.1) := hY.cell 1
          have y2 : w15.cell? ⟨gy, 2, none⟩ = some (.int .i64 X.2.2.1) := hY.cell 2
          have y3 : w15.cell? ⟨gy, 3, none⟩ = some (.int .i64 X.2.2.2.1) := hY.cell 3
          have y4 : w15.cell? ⟨gy, 4, none⟩ = some (.int .i64 X.2.2.2.2.1) := hY.cell 4
          have y5 : w15.cell? ⟨gy, 5, none⟩ = some (.int .i64 X.2.2.2.2.2.1) := hY.cell 5
          have y6 : w15.cell? ⟨gy, 6, none⟩ = some (.int .i64 X.2.2.2.2.2.2) := hY.cell 6
          go_still_tail 4, (by kernel_rfl)
          still_call ((when_f 8 _).mono fun _ _ h => ⟨h.1, h.2.symm⟩)
          refine wpStill_nil ?_
          change wpList _ _ _ _ _ w15.drew
          have hI := hI.quiet ((G.refl w15 none).drew)
          have hZ := hZ.quiet ((G.refl w15 none).drew)
          clear hY y0 y1 y2 y3 y4 y5 y6
          generalize w15.drew = w16 at hI hZ ⊢
          have x0 : Bk (w16.setRow gz #[.string X.1, .int .i64 X.2.1, .int .i64 X.2.2.1, .int .i64 X.2.2.2.1, .int .i64 X.2.2.2.2.1, .int .i64 X.2.2.2.2.2.1, .int .i64 X.2.2.2.2.2.2]) gx 79 (raC X) := hI.2.2.1.farRow (show gx ≠ gz by omega) _
          have z0 : Bk (w16.setRow gz #[.string X.1, .int .i64 X.2.1, .int .i64 X.2.2.1, .int .i64 X.2.2.2.1, .int .i64 X.2.2.2.2.1, .int .i64 X.2.2.2.2.2.1, .int .i64 X.2.2.2.2.2.2]) gz 79 (raC X) := hZ.setRow _
          have hGW : G W (w16.setRow gz #[.string X.1, .int .i64 X.2.1, .int .i64 X.2.2.1, .int .i64 X.2.2.2.1, .int .i64 X.2.2.2.2.1, .int .i64 X.2.2.2.2.2.1, .int .i64 X.2.2.2.2.2.2]) none := hI.2.2.2.setRow (.inl hgw) _
          have hnq : ∀ w : World, (binOp .eql 79 (.agg #[.string X.1, .int .i64 X.2.1, .int .i64 X.2.2.1, .int .i64 X.2.2.2.1, .int .i64 X.2.2.2.2.1, .int .i64 X.2.2.2.2.2.1, .int .i64 X.2.2.2.2.2.2]) (.agg #[.string X.1, .int .i64 X.2.1, .int .i64 X.2.2.1, .int .i64 X.2.2.2.1, .int .i64 X.2.2.2.2.1, .int .i64 X.2.2.2.2.2.1, .int .i64 X.2.2.2.2.2.2])).run Tryd.prog w = .ok (.bool true) w := fun w => ra_eql X w
          have c0 : (w16.setRow gz #[.string X.1, .int .i64 X.2.1, .int .i64 X.2.2.1, .int .i64 X.2.2.2.1, .int .i64 X.2.2.2.2.1, .int .i64 X.2.2.2.2.2.1, .int .i64 X.2.2.2.2.2.2]).cell? ⟨gx, 0, none⟩ = some (.string X.1) := x0.cell 0
          have c1 : (w16.setRow gz #[.string X.1, .int .i64 X.2.1, .int .i64 X.2.2.1, .int .i64 X.2.2.2.1, .int .i64 X.2.2.2.2.1, .int .i64 X.2.2.2.2.2.1, .int .i64 X.2.2.2.2.2.2]).cell? ⟨gx, 1, none⟩ = some (.int .i64 X.2.1) := x0.cell 1
          have c2 : (w16.setRow gz #[.string X.1, .int .i64 X.2.1, .int .i64 X.2.2.1, .int .i64 X.2.2.2.1, .int .i64 X.2.2.2.2.1, .int .i64 X.2.2.2.2.2.1, .int .i64 X.2.2.2.2.2.2]).cell? ⟨gx, 2, none⟩ = some (.int .i64 X.2.2.1) := x0.cell 2
          have c3 : (w16.setRow gz #[.string X.1, .int .i64 X.2.1, .int .i64 X.2.2.1, .int .i64 X.2.2.2.1, .int .i64 X.2.2.2.2.1, .int .i64 X.2.2.2.2.2.1, .int .i64 X.2.2.2.2.2.2]).cell? ⟨gx, 3, none⟩ = some (.int .i64 X.2.2.2.1) := x0.cell 3
          have c4 : (w16.setRow gz #[.string X.1, .int .i64 X.2.1, .int .i64 X.2.2.1, .int .i64 X.2.2.2.1, .int .i64 X.2.2.2.2.1, .int .i64 X.2.2.2.2.2.1, .int .i64 X.2.2.2.2.2.2]).cell? ⟨gx, 4, none⟩ = some (.int .i64 X.2.2.2.2.1) := x0.cell 4
          have c5 : (w16.setRow gz #[.string X.1, .int .i64 X.2.1, .int .i64 X.2.2.1, .int .i64 X.2.2.2.1, .int .i64 X.2.2.2.2.1, .int .i64 X.2.2.2.2.2.1, .int .i64 X.2.2.2.2.2.2]).cell? ⟨gx, 5, none⟩ = some (.int .i64 X.2.2.2.2.2.1) := x0.cell 5
          have c6 : (w16.setRow gz #[.string X.1, .int .i64 X.2.1, .int .i64 X.2.2.1, .int .i64 X.2.2.2.1, .int .i64 X.2.2.2.2.1, .int .i64 X.2.2.2.2.2.1, .int .i64 X.2.2.2.2.2.2]).cell? ⟨gx, 6, none⟩ = some (.int .i64 X.2.2.2.2.2.2) := x0.cell 6
          have e0 : (w16.setRow gz #[.string X.1, .int .i64 X.2.1, .int .i64 X.2.2.1, .int .i64 X.2.2.2.1, .int .i64 X.2.2.2.2.1, .int .i64 X.2.2.2.2.2.1, .int .i64 X.2.2.2.2.2.2]).cell? ⟨gz, 0, none⟩ = some (.string X.1) := z0.cell 0
          have e1 : (w16.setRow gz #[.string X.1, .int .i64 X.2.1, .int .i64 X.2.2.1, .int .i64 X.2.2.2.1, .int .i64 X.2.2.2.2.1, .int .i64 X.2.2.2.2.2.1, .int .i64 X.2.2.2.2.2.2]).cell? ⟨gz, 1, none⟩ = some (.int .i64 X.2.1) := z0.cell 1
          have e2 : (w16.setRow gz #[.string X.1, .int .i64 X.2.1, .int .i64 X.2.2.1, .int .i64 X.2.2.2.1, .int .i64 X.2.2.2.2.1, .int .i64 X.2.2.2.2.2.1, .int .i64 X.2.2.2.2.2.2]).cell? ⟨gz, 2, none⟩ = some (.int .i64 X.2.2.1) := z0.cell 2
          have e3 : (w16.setRow gz #[.string X.1, .int .i64 X.2.1, .int .i64 X.2.2.1, .int .i64 X.2.2.2.1, .int .i64 X.2.2.2.2.1, .int .i64 X.2.2.2.2.2.1, .int .i64 X.2.2.2.2.2.2]).cell? ⟨gz, 3, none⟩ = some (.int .i64 X.2.2.2.1) := z0.cell 3
          have e4 : (w16.setRow gz #[.string X.1, .int .i64 X.2.1, .int .i64 X.2.2.1, .int .i64 X.2.2.2.1, .int .i64 X.2.2.2.2.1, .int .i64 X.2.2.2.2.2.1, .int .i64 X.2.2.2.2.2.2]).cell? ⟨gz, 4, none⟩ = some (.int .i64 X.2.2.2.2.1) := z0.cell 4
          have e5 : (w16.setRow gz #[.string X.1, .int .i64 X.2.1, .int .i64 X.2.2.1, .int .i64 X.2.2.2.1, .int .i64 X.2.2.2.2.1, .int .i64 X.2.2.2.2.2.1, .int .i64 X.2.2.2.2.2.2]).cell? ⟨gz, 5, none⟩ = some (.int .i64 X.2.2.2.2.2.1) := z0.cell 5
          have e6 : (w16.setRow gz #[.string X.1, .int .i64 X.2.1, .int .i64 X.2.2.1, .int .i64 X.2.2.2.1, .int .i64 X.2.2.2.2.1, .int .i64 X.2.2.2.2.2.1, .int .i64 X.2.2.2.2.2.2]).cell? ⟨gz, 6, none⟩ = some (.int .i64 X.2.2.2.2.2.2) := z0.cell 6
          clear hI x0 z0
          go_wp2_with (refine wpList_store_row rfl 79 _ _ rfl gz #[.string X.1, .int .i64 X.2.1, .int .i64 X.2.2.1, .int .i64 X.2.2.2.1, .int .i64 X.2.2.2.2.1, .int .i64 X.2.2.2.2.2.1, .int .i64 X.2.2.2.2.2.2] rfl rfl 79 _ hZ (ra_info X) rfl (ra_oneB X) ?_)
          refine (priced_c _).mono ?_; rintro e w17 ⟨rfl, hH⟩
          go_wp2_with fail
          go_ret
          exact ⟨rfl, hGW.trans hH⟩
      · obtain ⟨hN, hQ⟩ := hone.2 hE
        have hXZ : X = raZ := HX.out.symm.trans hN
        have hE' : (errsOf [raE l, keyE k, 1] == 0) = false := by simpa using hE
        rw [hQ]
        subst hXZ
        clear hE hone hN hQ HX
        generalize errsOf [raE l, keyE k, 1] = E at hE' ⊢
        have hnq : ∀ w : World, (binOp .eql 79 (.agg #[.string ⟨#[]⟩, .int .i64 0, .int .i64 0, .int .i64 0, .int .i64 0, .int .i64 0, .int .i64 0]) (.agg #[.string ⟨#[]⟩, .int .i64 0, .int .i64 0, .int .i64 0, .int .i64 0, .int .i64 0, .int .i64 0])).run Tryd.prog w = .ok (.bool true) w := fun w => ra_eql raZ w
        have x0 := hI.2.2.1
        have c0 : w13.cell? ⟨gx, 0, none⟩ = some (.string ⟨#[]⟩) := x0.cell 0
        have c1 : w13.cell? ⟨gx, 1, none⟩ = some (.int .i64 0) := x0.cell 1
        have c2 : w13.cell? ⟨gx, 2, none⟩ = some (.int .i64 0) := x0.cell 2
        have c3 : w13.cell? ⟨gx, 3, none⟩ = some (.int .i64 0) := x0.cell 3
        have c4 : w13.cell? ⟨gx, 4, none⟩ = some (.int .i64 0) := x0.cell 4
        have c5 : w13.cell? ⟨gx, 5, none⟩ = some (.int .i64 0) := x0.cell 5
        have c6 : w13.cell? ⟨gx, 6, none⟩ = some (.int .i64 0) := x0.cell 6
        have z0 : w13.cell? ⟨gz, 0, none⟩ = some (.string ⟨#[]⟩) := hZ.cell 0
        have z1 : w13.cell? ⟨gz, 1, none⟩ = some (.int .i64 0) := hZ.cell 1
        have z2 : w13.cell? ⟨gz, 2, none⟩ = some (.int .i64 0) := hZ.cell 2
        have z3 : w13.cell? ⟨gz, 3, none⟩ = some (.int .i64 0) := hZ.cell 3
        have z4 : w13.cell? ⟨gz, 4, none⟩ = some (.int .i64 0) := hZ.cell 4
        have z5 : w13.cell? ⟨gz, 5, none⟩ = some (.int .i64 0) := hZ.cell 5
        have z6 : w13.cell? ⟨gz, 6, none⟩ = some (.int .i64 0) := hZ.cell 6
        have hGW := hI.2.2.2
        clear hI hZ x0
        go_wp2_with fail
        refine (priced_c _).mono ?_; rintro e w15 ⟨rfl, hH⟩
        go_wp2_with fail
        go_ret
        exact ⟨rfl, hGW.trans hH⟩
    · have hone := ro_errs l k d 0 (by rw [inB, decide_eq_true k1, decide_eq_true k2]; rfl)
      go_wp2_with fail
      rw [show (decide (d < 0) || decide (4000 < d)) = false by rw [decide_eq_false (show ¬ d < 0 by omega), decide_eq_false (show ¬ 4000 < d by omega)]; rfl]
      refine (when_f _ _).mono ?_; rintro e w' ⟨rfl, rfl⟩
      have hA := (G.refl w12 none).alloc (.cells #[.int .i64 (raE l), .int .i64 (keyE k), .int .i64 0] 36)
      have hI := hI.quiet hA
      have hZ := hZ.quiet hA
      clear hA
      go_wp2_with fail
      refine (errs_c [raE l, keyE k, 0] _ _ (Rd.new #[.int .i64 (raE l), .int .i64 (keyE k), .int .i64 0] rfl (by show 3 ≤ maxLen; decide)) (by simp)).mono ?_; rintro e w' ⟨rfl, rfl⟩
      generalize w12.alloc (.cells #[.int .i64 (raE l), .int .i64 (keyE k), .int .i64 0] 36) = w13 at hI hZ ⊢
      by_cases hE : errsOf [raE l, keyE k, 0] = 0
      · obtain ⟨hN, hQ⟩ := hone.1 hE
        have hXG : raG (l.find? (raF k d)) = X := hN.symm.trans HX.out
        rw [hE]
        clear hE hone hN
        cases hs : (l.find? (raF k d)).isSome with
        | false =>
          rw [hs] at hQ
          have hQ2 : roE l k d = 8 := hQ
          rw [hQ2]
          clear hQ hQ2
          go_wp2_with fail
          refine (rateAt_c v l k d _ hI.1 HLOK.out (by omega)).mono ?_; rintro e w14 ⟨rfl, hH⟩
          rw [hXG, hs, show raC X = #[.string X.1, .int .i64 X.2.1, .int .i64 X.2.2.1, .int .i64 X.2.2.2.1, .int .i64 X.2.2.2.2.1, .int .i64 X.2.2.2.2.2.1, .int .i64 X.2.2.2.2.2.2] from rfl]
          have hI := hI.quiet hH
          have hZ := hZ.quiet hH
          have hA := (G.refl w14 none).alloc (.cells #[.string X.1, .int .i64 X.2.1, .int .i64 X.2.2.1, .int .i64 X.2.2.2.1, .int .i64 X.2.2.2.2.1, .int .i64 X.2.2.2.2.2.1, .int .i64 X.2.2.2.2.2.2] 79)
          have hY : Bk (w14.alloc (.cells #[.string X.1, .int .i64 X.2.1, .int .i64 X.2.2.1, .int .i64 X.2.2.2.1, .int .i64 X.2.2.2.2.1, .int .i64 X.2.2.2.2.2.1, .int .i64 X.2.2.2.2.2.2] 79)) w14.heap.size 79 (raC X) := Bk.new _ _ _
          have hI := hI.quiet hA
          have hZ := hZ.quiet hA
          clear hH hA hXG hs
          go_wp2_with fail
          generalize w14.alloc (.cells #[.string X.1, .int .i64 X.2.1, .int .i64 X.2.2.1, .int .i64 X.2.2.2.1, .int .i64 X.2.2.2.2.1, .int .i64 X.2.2.2.2.2.1, .int .i64 X.2.2.2.2.2.2] 79) = w15 at hI hZ hY ⊢
          generalize w14.heap.size = gy at hY ⊢
          have y0 : w15.cell? ⟨gy, 0, none⟩ = some (.string X.1) := hY.cell 0
          have y1 : w15.cell? ⟨gy, 1, none⟩ = some (.int .i64 X.2.1) := hY.cell 1
          have y2 : w15.cell? ⟨gy, 2, none⟩ = some (.int .i64 X.2.2.1) := hY.cell 2
          have y3 : w15.cell? ⟨gy, 3, none⟩ = some (.int .i64 X.2.2.2.1) := hY.cell 3
          have y4 : w15.cell? ⟨gy, 4, none⟩ = some (.int .i64 X.2.2.2.2.1) := hY.cell 4
          have y5 : w15.cell? ⟨gy, 5, none⟩ = some (.int .i64 X.2.2.2.2.2.1) := hY.cell 5
          have y6 : w15.cell? ⟨gy, 6, none⟩ = some (.int .i64 X.2.2.2.2.2.2) := hY.cell 6
          go_still_tail 4, (by kernel_rfl)
          still_call ((when_t 8 _).mono fun _ _ h => ⟨h.1, h.2.symm⟩)
          refine wpStill_nil ?_
          change wpList _ _ _ _ _ w15.drew
          have hI := hI.quiet ((G.refl w15 none).drew)
          have hZ := hZ.quiet ((G.refl w15 none).drew)
          clear hY y0 y1 y2 y3 y4 y5 y6
          generalize w15.drew = w16 at hI hZ ⊢
          have x0 : Bk (w16.setRow gz #[.string X.1, .int .i64 X.2.1, .int .i64 X.2.2.1, .int .i64 X.2.2.2.1, .int .i64 X.2.2.2.2.1, .int .i64 X.2.2.2.2.2.1, .int .i64 X.2.2.2.2.2.2]) gx 79 (raC X) := hI.2.2.1.farRow (show gx ≠ gz by omega) _
          have z0 : Bk (w16.setRow gz #[.string X.1, .int .i64 X.2.1, .int .i64 X.2.2.1, .int .i64 X.2.2.2.1, .int .i64 X.2.2.2.2.1, .int .i64 X.2.2.2.2.2.1, .int .i64 X.2.2.2.2.2.2]) gz 79 (raC X) := hZ.setRow _
          have hGW : G W (w16.setRow gz #[.string X.1, .int .i64 X.2.1, .int .i64 X.2.2.1, .int .i64 X.2.2.2.1, .int .i64 X.2.2.2.2.1, .int .i64 X.2.2.2.2.2.1, .int .i64 X.2.2.2.2.2.2]) none := hI.2.2.2.setRow (.inl hgw) _
          have hnq : ∀ w : World, (binOp .eql 79 (.agg #[.string X.1, .int .i64 X.2.1, .int .i64 X.2.2.1, .int .i64 X.2.2.2.1, .int .i64 X.2.2.2.2.1, .int .i64 X.2.2.2.2.2.1, .int .i64 X.2.2.2.2.2.2]) (.agg #[.string X.1, .int .i64 X.2.1, .int .i64 X.2.2.1, .int .i64 X.2.2.2.1, .int .i64 X.2.2.2.2.1, .int .i64 X.2.2.2.2.2.1, .int .i64 X.2.2.2.2.2.2])).run Tryd.prog w = .ok (.bool true) w := fun w => ra_eql X w
          have c0 : (w16.setRow gz #[.string X.1, .int .i64 X.2.1, .int .i64 X.2.2.1, .int .i64 X.2.2.2.1, .int .i64 X.2.2.2.2.1, .int .i64 X.2.2.2.2.2.1, .int .i64 X.2.2.2.2.2.2]).cell? ⟨gx, 0, none⟩ = some (.string X.1) := x0.cell 0
          have c1 : (w16.setRow gz #[.string X.1, .int .i64 X.2.1, .int .i64 X.2.2.1, .int .i64 X.2.2.2.1, .int .i64 X.2.2.2.2.1, .int .i64 X.2.2.2.2.2.1, .int .i64 X.2.2.2.2.2.2]).cell? ⟨gx, 1, none⟩ = some (.int .i64 X.2.1) := x0.cell 1
          have c2 : (w16.setRow gz #[.string X.1, .int .i64 X.2.1, .int .i64 X.2.2.1, .int .i64 X.2.2.2.1, .int .i64 X.2.2.2.2.1, .int .i64 X.2.2.2.2.2.1, .int .i64 X.2.2.2.2.2.2]).cell? ⟨gx, 2, none⟩ = some (.int .i64 X.2.2.1) := x0.cell 2
          have c3 : (w16.setRow gz #[.string X.1, .int .i64 X.2.1, .int .i64 X.2.2.1, .int .i64 X.2.2.2.1, .int .i64 X.2.2.2.2.1, .int .i64 X.2.2.2.2.2.1, .int .i64 X.2.2.2.2.2.2]).cell? ⟨gx, 3, none⟩ = some (.int .i64 X.2.2.2.1) := x0.cell 3
          have c4 : (w16.setRow gz #[.string X.1, .int .i64 X.2.1, .int .i64 X.2.2.1, .int .i64 X.2.2.2.1, .int .i64 X.2.2.2.2.1, .int .i64 X.2.2.2.2.2.1, .int .i64 X.2.2.2.2.2.2]).cell? ⟨gx, 4, none⟩ = some (.int .i64 X.2.2.2.2.1) := x0.cell 4
          have c5 : (w16.setRow gz #[.string X.1, .int .i64 X.2.1, .int .i64 X.2.2.1, .int .i64 X.2.2.2.1, .int .i64 X.2.2.2.2.1, .int .i64 X.2.2.2.2.2.1, .int .i64 X.2.2.2.2.2.2]).cell? ⟨gx, 5, none⟩ = some (.int .i64 X.2.2.2.2.2.1) := x0.cell 5
          have c6 : (w16.setRow gz #[.string X.1, .int .i64 X.2.1, .int .i64 X.2.2.1, .int .i64 X.2.2.2.1, .int .i64 X.2.2.2.2.1, .int .i64 X.2.2.2.2.2.1, .int .i64 X.2.2.2.2.2.2]).cell? ⟨gx, 6, none⟩ = some (.int .i64 X.2.2.2.2.2.2) := x0.cell 6
          have e0 : (w16.setRow gz #[.string X.1, .int .i64 X.2.1, .int .i64 X.2.2.1, .int .i64 X.2.2.2.1, .int .i64 X.2.2.2.2.1, .int .i64 X.2.2.2.2.2.1, .int .i64 X.2.2.2.2.2.2]).cell? ⟨gz, 0, none⟩ = some (.string X.1) := z0.cell 0
          have e1 : (w16.setRow gz #[.string X.1, .int .i64 X.2.1, .int .i64 X.2.2.1, .int .i64 X.2.2.2.1, .int .i64 X.2.2.2.2.1, .int .i64 X.2.2.2.2.2.1, .int .i64 X.2.2.2.2.2.2]).cell? ⟨gz, 1, none⟩ = some (.int .i64 X.2.1) := z0.cell 1
          have e2 : (w16.setRow gz #[.string X.1, .int .i64 X.2.1, .int .i64 X.2.2.1, .int .i64 X.2.2.2.1, .int .i64 X.2.2.2.2.1, .int .i64 X.2.2.2.2.2.1, .int .i64 X.2.2.2.2.2.2]).cell? ⟨gz, 2, none⟩ = some (.int .i64 X.2.2.1) := z0.cell 2
          have e3 : (w16.setRow gz #[.string X.1, .int .i64 X.2.1, .int .i64 X.2.2.1, .int .i64 X.2.2.2.1, .int .i64 X.2.2.2.2.1, .int .i64 X.2.2.2.2.2.1, .int .i64 X.2.2.2.2.2.2]).cell? ⟨gz, 3, none⟩ = some (.int .i64 X.2.2.2.1) := z0.cell 3
          have e4 : (w16.setRow gz #[.string X.1, .int .i64 X.2.1, .int .i64 X.2.2.1, .int .i64 X.2.2.2.1, .int .i64 X.2.2.2.2.1, .int .i64 X.2.2.2.2.2.1, .int .i64 X.2.2.2.2.2.2]).cell? ⟨gz, 4, none⟩ = some (.int .i64 X.2.2.2.2.1) := z0.cell 4
          have e5 : (w16.setRow gz #[.string X.1, .int .i64 X.2.1, .int .i64 X.2.2.1, .int .i64 X.2.2.2.1, .int .i64 X.2.2.2.2.1, .int .i64 X.2.2.2.2.2.1, .int .i64 X.2.2.2.2.2.2]).cell? ⟨gz, 5, none⟩ = some (.int .i64 X.2.2.2.2.2.1) := z0.cell 5
          have e6 : (w16.setRow gz #[.string X.1, .int .i64 X.2.1, .int .i64 X.2.2.1, .int .i64 X.2.2.2.1, .int .i64 X.2.2.2.2.1, .int .i64 X.2.2.2.2.2.1, .int .i64 X.2.2.2.2.2.2]).cell? ⟨gz, 6, none⟩ = some (.int .i64 X.2.2.2.2.2.2) := z0.cell 6
          clear hI x0 z0
          go_wp2_with (refine wpList_store_row rfl 79 _ _ rfl gz #[.string X.1, .int .i64 X.2.1, .int .i64 X.2.2.1, .int .i64 X.2.2.2.1, .int .i64 X.2.2.2.2.1, .int .i64 X.2.2.2.2.2.1, .int .i64 X.2.2.2.2.2.2] rfl rfl 79 _ hZ (ra_info X) rfl (ra_oneB X) ?_)
          refine (priced_c _).mono ?_; rintro e w17 ⟨rfl, hH⟩
          go_wp2_with fail
          go_ret
          exact ⟨rfl, hGW.trans hH⟩
        | true =>
          rw [hs] at hQ
          have hQ2 : roE l k d = 0 := hQ
          rw [hQ2]
          clear hQ hQ2
          go_wp2_with fail
          refine (rateAt_c v l k d _ hI.1 HLOK.out (by omega)).mono ?_; rintro e w14 ⟨rfl, hH⟩
          rw [hXG, hs, show raC X = #[.string X.1, .int .i64 X.2.1, .int .i64 X.2.2.1, .int .i64 X.2.2.2.1, .int .i64 X.2.2.2.2.1, .int .i64 X.2.2.2.2.2.1, .int .i64 X.2.2.2.2.2.2] from rfl]
          have hI := hI.quiet hH
          have hZ := hZ.quiet hH
          have hA := (G.refl w14 none).alloc (.cells #[.string X.1, .int .i64 X.2.1, .int .i64 X.2.2.1, .int .i64 X.2.2.2.1, .int .i64 X.2.2.2.2.1, .int .i64 X.2.2.2.2.2.1, .int .i64 X.2.2.2.2.2.2] 79)
          have hY : Bk (w14.alloc (.cells #[.string X.1, .int .i64 X.2.1, .int .i64 X.2.2.1, .int .i64 X.2.2.2.1, .int .i64 X.2.2.2.2.1, .int .i64 X.2.2.2.2.2.1, .int .i64 X.2.2.2.2.2.2] 79)) w14.heap.size 79 (raC X) := Bk.new _ _ _
          have hI := hI.quiet hA
          have hZ := hZ.quiet hA
          clear hH hA hXG hs
          go_wp2_with fail
          generalize w14.alloc (.cells #[.string X.1, .int .i64 X.2.1, .int .i64 X.2.2.1, .int .i64 X.2.2.2.1, .int .i64 X.2.2.2.2.1, .int .i64 X.2.2.2.2.2.1, .int .i64 X.2.2.2.2.2.2] 79) = w15 at hI hZ hY ⊢
          generalize w14.heap.size = gy at hY ⊢
          have y0 : w15.cell? ⟨gy, 0, none⟩ = some (.string X.1) := hY.cell 0
          have y1 : w15.cell? ⟨gy, 1, none⟩ = some (.int .i64 X.2.1) := hY.cell 1
          have y2 : w15.cell? ⟨gy, 2, none⟩ = some (.int .i64 X.2.2.1) := hY.cell 2
          have y3 : w15.cell? ⟨gy, 3, none⟩ = some (.int .i64 X.2.2.2.1) := hY.cell 3
          have y4 : w15.cell? ⟨gy, 4, none⟩ = some (.int .i64 X.2.2.2.2.1) := hY.cell 4
          have y5 : w15.cell? ⟨gy, 5, none⟩ = some (.int .i64 X.2.2.2.2.2.1) := hY.cell 5
          have y6 : w15.cell? ⟨gy, 6, none⟩ = some (.int .i64 X.2.2.2.2.2.2) := hY.cell 6
          go_still_tail 4, (by kernel_rfl)
          still_call ((when_f 8 _).mono fun _ _ h => ⟨h.1, h.2.symm⟩)
          refine wpStill_nil ?_
          change wpList _ _ _ _ _ w15.drew
          have hI := hI.quiet ((G.refl w15 none).drew)
          have hZ := hZ.quiet ((G.refl w15 none).drew)
          clear hY y0 y1 y2 y3 y4 y5 y6
          generalize w15.drew = w16 at hI hZ ⊢
          have x0 : Bk (w16.setRow gz #[.string X.1, .int .i64 X.2.1, .int .i64 X.2.2.1, .int .i64 X.2.2.2.1, .int .i64 X.2.2.2.2.1, .int .i64 X.2.2.2.2.2.1, .int .i64 X.2.2.2.2.2.2]) gx 79 (raC X) := hI.2.2.1.farRow (show gx ≠ gz by omega) _
          have z0 : Bk (w16.setRow gz #[.string X.1, .int .i64 X.2.1, .int .i64 X.2.2.1, .int .i64 X.2.2.2.1, .int .i64 X.2.2.2.2.1, .int .i64 X.2.2.2.2.2.1, .int .i64 X.2.2.2.2.2.2]) gz 79 (raC X) := hZ.setRow _
          have hGW : G W (w16.setRow gz #[.string X.1, .int .i64 X.2.1, .int .i64 X.2.2.1, .int .i64 X.2.2.2.1, .int .i64 X.2.2.2.2.1, .int .i64 X.2.2.2.2.2.1, .int .i64 X.2.2.2.2.2.2]) none := hI.2.2.2.setRow (.inl hgw) _
          have hnq : ∀ w : World, (binOp .eql 79 (.agg #[.string X.1, .int .i64 X.2.1, .int .i64 X.2.2.1, .int .i64 X.2.2.2.1, .int .i64 X.2.2.2.2.1, .int .i64 X.2.2.2.2.2.1, .int .i64 X.2.2.2.2.2.2]) (.agg #[.string X.1, .int .i64 X.2.1, .int .i64 X.2.2.1, .int .i64 X.2.2.2.1, .int .i64 X.2.2.2.2.1, .int .i64 X.2.2.2.2.2.1, .int .i64 X.2.2.2.2.2.2])).run Tryd.prog w = .ok (.bool true) w := fun w => ra_eql X w
          have c0 : (w16.setRow gz #[.string X.1, .int .i64 X.2.1, .int .i64 X.2.2.1, .int .i64 X.2.2.2.1, .int .i64 X.2.2.2.2.1, .int .i64 X.2.2.2.2.2.1, .int .i64 X.2.2.2.2.2.2]).cell? ⟨gx, 0, none⟩ = some (.string X.1) := x0.cell 0
          have c1 : (w16.setRow gz #[.string X.1, .int .i64 X.2.1, .int .i64 X.2.2.1, .int .i64 X.2.2.2.1, .int .i64 X.2.2.2.2.1, .int .i64 X.2.2.2.2.2.1, .int .i64 X.2.2.2.2.2.2]).cell? ⟨gx, 1, none⟩ = some (.int .i64 X.2.1) := x0.cell 1
          have c2 : (w16.setRow gz #[.string X.1, .int .i64 X.2.1, .int .i64 X.2.2.1, .int .i64 X.2.2.2.1, .int .i64 X.2.2.2.2.1, .int .i64 X.2.2.2.2.2.1, .int .i64 X.2.2.2.2.2.2]).cell? ⟨gx, 2, none⟩ = some (.int .i64 X.2.2.1) := x0.cell 2
          have c3 : (w16.setRow gz #[.string X.1, .int .i64 X.2.1, .int .i64 X.2.2.1, .int .i64 X.2.2.2.1, .int .i64 X.2.2.2.2.1, .int .i64 X.2.2.2.2.2.1, .int .i64 X.2.2.2.2.2.2]).cell? ⟨gx, 3, none⟩ = some (.int .i64 X.2.2.2.1) := x0.cell 3
          have c4 : (w16.setRow gz #[.string X.1, .int .i64 X.2.1, .int .i64 X.2.2.1, .int .i64 X.2.2.2.1, .int .i64 X.2.2.2.2.1, .int .i64 X.2.2.2.2.2.1, .int .i64 X.2.2.2.2.2.2]).cell? ⟨gx, 4, none⟩ = some (.int .i64 X.2.2.2.2.1) := x0.cell 4
          have c5 : (w16.setRow gz #[.string X.1, .int .i64 X.2.1, .int .i64 X.2.2.1, .int .i64 X.2.2.2.1, .int .i64 X.2.2.2.2.1, .int .i64 X.2.2.2.2.2.1, .int .i64 X.2.2.2.2.2.2]).cell? ⟨gx, 5, none⟩ = some (.int .i64 X.2.2.2.2.2.1) := x0.cell 5
          have c6 : (w16.setRow gz #[.string X.1, .int .i64 X.2.1, .int .i64 X.2.2.1, .int .i64 X.2.2.2.1, .int .i64 X.2.2.2.2.1, .int .i64 X.2.2.2.2.2.1, .int .i64 X.2.2.2.2.2.2]).cell? ⟨gx, 6, none⟩ = some (.int .i64 X.2.2.2.2.2.2) := x0.cell 6
          have e0 : (w16.setRow gz #[.string X.1, .int .i64 X.2.1, .int .i64 X.2.2.1, .int .i64 X.2.2.2.1, .int .i64 X.2.2.2.2.1, .int .i64 X.2.2.2.2.2.1, .int .i64 X.2.2.2.2.2.2]).cell? ⟨gz, 0, none⟩ = some (.string X.1) := z0.cell 0
          have e1 : (w16.setRow gz #[.string X.1, .int .i64 X.2.1, .int .i64 X.2.2.1, .int .i64 X.2.2.2.1, .int .i64 X.2.2.2.2.1, .int .i64 X.2.2.2.2.2.1, .int .i64 X.2.2.2.2.2.2]).cell? ⟨gz, 1, none⟩ = some (.int .i64 X.2.1) := z0.cell 1
          have e2 : (w16.setRow gz #[.string X.1, .int .i64 X.2.1, .int .i64 X.2.2.1, .int .i64 X.2.2.2.1, .int .i64 X.2.2.2.2.1, .int .i64 X.2.2.2.2.2.1, .int .i64 X.2.2.2.2.2.2]).cell? ⟨gz, 2, none⟩ = some (.int .i64 X.2.2.1) := z0.cell 2
          have e3 : (w16.setRow gz #[.string X.1, .int .i64 X.2.1, .int .i64 X.2.2.1, .int .i64 X.2.2.2.1, .int .i64 X.2.2.2.2.1, .int .i64 X.2.2.2.2.2.1, .int .i64 X.2.2.2.2.2.2]).cell? ⟨gz, 3, none⟩ = some (.int .i64 X.2.2.2.1) := z0.cell 3
          have e4 : (w16.setRow gz #[.string X.1, .int .i64 X.2.1, .int .i64 X.2.2.1, .int .i64 X.2.2.2.1, .int .i64 X.2.2.2.2.1, .int .i64 X.2.2.2.2.2.1, .int .i64 X.2.2.2.2.2.2]).cell? ⟨gz, 4, none⟩ = some (.int .i64 X.2.2.2.2.1) := z0.cell 4
          have e5 : (w16.setRow gz #[.string X.1, .int .i64 X.2.1, .int .i64 X.2.2.1, .int .i64 X.2.2.2.1, .int .i64 X.2.2.2.2.1, .int .i64 X.2.2.2.2.2.1, .int .i64 X.2.2.2.2.2.2]).cell? ⟨gz, 5, none⟩ = some (.int .i64 X.2.2.2.2.2.1) := z0.cell 5
          have e6 : (w16.setRow gz #[.string X.1, .int .i64 X.2.1, .int .i64 X.2.2.1, .int .i64 X.2.2.2.1, .int .i64 X.2.2.2.2.1, .int .i64 X.2.2.2.2.2.1, .int .i64 X.2.2.2.2.2.2]).cell? ⟨gz, 6, none⟩ = some (.int .i64 X.2.2.2.2.2.2) := z0.cell 6
          clear hI x0 z0
          go_wp2_with (refine wpList_store_row rfl 79 _ _ rfl gz #[.string X.1, .int .i64 X.2.1, .int .i64 X.2.2.1, .int .i64 X.2.2.2.1, .int .i64 X.2.2.2.2.1, .int .i64 X.2.2.2.2.2.1, .int .i64 X.2.2.2.2.2.2] rfl rfl 79 _ hZ (ra_info X) rfl (ra_oneB X) ?_)
          refine (priced_c _).mono ?_; rintro e w17 ⟨rfl, hH⟩
          go_wp2_with fail
          go_ret
          exact ⟨rfl, hGW.trans hH⟩
      · obtain ⟨hN, hQ⟩ := hone.2 hE
        have hXZ : X = raZ := HX.out.symm.trans hN
        have hE' : (errsOf [raE l, keyE k, 0] == 0) = false := by simpa using hE
        rw [hQ]
        subst hXZ
        clear hE hone hN hQ HX
        generalize errsOf [raE l, keyE k, 0] = E at hE' ⊢
        have hnq : ∀ w : World, (binOp .eql 79 (.agg #[.string ⟨#[]⟩, .int .i64 0, .int .i64 0, .int .i64 0, .int .i64 0, .int .i64 0, .int .i64 0]) (.agg #[.string ⟨#[]⟩, .int .i64 0, .int .i64 0, .int .i64 0, .int .i64 0, .int .i64 0, .int .i64 0])).run Tryd.prog w = .ok (.bool true) w := fun w => ra_eql raZ w
        have x0 := hI.2.2.1
        have c0 : w13.cell? ⟨gx, 0, none⟩ = some (.string ⟨#[]⟩) := x0.cell 0
        have c1 : w13.cell? ⟨gx, 1, none⟩ = some (.int .i64 0) := x0.cell 1
        have c2 : w13.cell? ⟨gx, 2, none⟩ = some (.int .i64 0) := x0.cell 2
        have c3 : w13.cell? ⟨gx, 3, none⟩ = some (.int .i64 0) := x0.cell 3
        have c4 : w13.cell? ⟨gx, 4, none⟩ = some (.int .i64 0) := x0.cell 4
        have c5 : w13.cell? ⟨gx, 5, none⟩ = some (.int .i64 0) := x0.cell 5
        have c6 : w13.cell? ⟨gx, 6, none⟩ = some (.int .i64 0) := x0.cell 6
        have z0 : w13.cell? ⟨gz, 0, none⟩ = some (.string ⟨#[]⟩) := hZ.cell 0
        have z1 : w13.cell? ⟨gz, 1, none⟩ = some (.int .i64 0) := hZ.cell 1
        have z2 : w13.cell? ⟨gz, 2, none⟩ = some (.int .i64 0) := hZ.cell 2
        have z3 : w13.cell? ⟨gz, 3, none⟩ = some (.int .i64 0) := hZ.cell 3
        have z4 : w13.cell? ⟨gz, 4, none⟩ = some (.int .i64 0) := hZ.cell 4
        have z5 : w13.cell? ⟨gz, 5, none⟩ = some (.int .i64 0) := hZ.cell 5
        have z6 : w13.cell? ⟨gz, 6, none⟩ = some (.int .i64 0) := hZ.cell 6
        have hGW := hI.2.2.2
        clear hI hZ x0
        go_wp2_with fail
        refine (priced_c _).mono ?_; rintro e w15 ⟨rfl, hH⟩
        go_wp2_with fail
        go_ret
        exact ⟨rfl, hGW.trans hH⟩
  · have hTN : tN ta tz = 0 := by rw [tN, if_neg hT]
    have hT1 : (tE ta tz == 0) = false := by simpa using hT
    have hT2 : (tE ta tz != 0) = true := by simpa using hT
    rw [hTN]
    clear hT hTN
    generalize tE ta tz = TE at hT1 hT2 ⊢
    have hgg0 := hI.2.2.1.lt
    have hgw0 := hI.2.2.2.size
    have hZ : Bk (w10.alloc (.cells #[.string ⟨#[]⟩, .int .i64 0, .int .i64 0, .int .i64 0, .int .i64 0, .int .i64 0, .int .i64 0] 79)) w10.heap.size 79 (raC raZ) := Bk.new _ _ _
    have hI := hI.quiet ((G.refl w10 none).alloc (.cells #[.string ⟨#[]⟩, .int .i64 0, .int .i64 0, .int .i64 0, .int .i64 0, .int .i64 0, .int .i64 0] 79))
    go_wp2_with fail
    refine (keyFault_c k _ hks).mono ?_; rintro e w12 ⟨rfl, hH⟩
    have hI := hI.quiet hH
    have hZ := hZ.quiet hH
    clear hH
    have hgg := hgg0
    have hgw := hgw0
    generalize w10.heap.size = gz at hZ hgg hgw ⊢
    clear hgg0 hgw0
    rcases (show d < 0 ∨ (0 ≤ d ∧ 4000 < d) ∨ (0 ≤ d ∧ d ≤ 4000) by omega) with k1 | ⟨k1, k2⟩ | ⟨k1, k2⟩
    · have hone := ro_errs l k d 1 (by rw [inB, decide_eq_false (show ¬ 0 ≤ d by omega)]; rfl)
      go_wp2_with fail
      refine (when_t _ _).mono ?_; rintro e w' ⟨rfl, rfl⟩
      have hA := (G.refl w12 none).alloc (.cells #[.int .i64 (raE l), .int .i64 (keyE k), .int .i64 1] 36)
      have hI := hI.quiet hA
      have hZ := hZ.quiet hA
      clear hA
      go_wp2_with fail
      refine (errs_c [raE l, keyE k, 1] _ _ (Rd.new #[.int .i64 (raE l), .int .i64 (keyE k), .int .i64 1] rfl (by show 3 ≤ maxLen; decide)) (by simp)).mono ?_; rintro e w' ⟨rfl, rfl⟩
      generalize w12.alloc (.cells #[.int .i64 (raE l), .int .i64 (keyE k), .int .i64 1] 36) = w13 at hI hZ ⊢
      by_cases hE : errsOf [raE l, keyE k, 1] = 0
      · obtain ⟨hN, hQ⟩ := hone.1 hE
        have hXG : raG (l.find? (raF k d)) = X := hN.symm.trans HX.out
        rw [hE]
        clear hE hone hN
        cases hs : (l.find? (raF k d)).isSome with
        | false =>
          rw [hs] at hQ
          have hQ2 : roE l k d = 8 := hQ
          rw [hQ2]
          clear hQ hQ2
          go_wp2_with fail
          refine (rateAt_c v l k d _ hI.1 HLOK.out (by omega)).mono ?_; rintro e w14 ⟨rfl, hH⟩
          rw [hXG, hs, show raC X = #[.string X.1, .int .i64 X.2.1, .int .i64 X.2.2.1, .int .i64 X.2.2.2.1, .int .i64 X.2.2.2.2.1, .int .i64 X.2.2.2.2.2.1, .int .i64 X.2.2.2.2.2.2] from rfl]
          have hI := hI.quiet hH
          have hZ := hZ.quiet hH
          have hA := (G.refl w14 none).alloc (.cells #[.string X.1, .int .i64 X.2.1, .int .i64 X.2.2.1, .int .i64 X.2.2.2.1, .int .i64 X.2.2.2.2.1, .int .i64 X.2.2.2.2.2.1, .int .i64 X.2.2.2.2.2.2] 79)
          have hY : Bk (w14.alloc (.cells #[.string X.1, .int .i64 X.2.1, .int .i64 X.2.2.1, .int .i64 X.2.2.2.1, .int .i64 X.2.2.2.2.1, .int .i64 X.2.2.2.2.2.1, .int .i64 X.2.2.2.2.2.2] 79)) w14.heap.size 79 (raC X) := Bk.new _ _ _
          have hI := hI.quiet hA
          have hZ := hZ.quiet hA
          clear hH hA hXG hs
          go_wp2_with fail
          generalize w14.alloc (.cells #[.string X.1, .int .i64 X.2.1, .int .i64 X.2.2.1, .int .i64 X.2.2.2.1, .int .i64 X.2.2.2.2.1, .int .i64 X.2.2.2.2.2.1, .int .i64 X.2.2.2.2.2.2] 79) = w15 at hI hZ hY ⊢
          generalize w14.heap.size = gy at hY ⊢
          have y0 : w15.cell? ⟨gy, 0, none⟩ = some (.string X.1) := hY.cell 0
          have y1 : w15.cell? ⟨gy, 1, none⟩ = some (.int .i64 X.2.1) := hY.cell 1
          have y2 : w15.cell? ⟨gy, 2, none⟩ = some (.int .i64 X.2.2.1) := hY.cell 2
          have y3 : w15.cell? ⟨gy, 3, none⟩ = some (.int .i64 X.2.2.2.1) := hY.cell 3
          have y4 : w15.cell? ⟨gy, 4, none⟩ = some (.int .i64 X.2.2.2.2.1) := hY.cell 4
          have y5 : w15.cell? ⟨gy, 5, none⟩ = some (.int .i64 X.2.2.2.2.2.1) := hY.cell 5
          have y6 : w15.cell? ⟨gy, 6, none⟩ = some (.int .i64 X.2.2.2.2.2.2) := hY.cell 6
          go_still_tail 4, (by kernel_rfl)
          still_call ((when_t 8 _).mono fun _ _ h => ⟨h.1, h.2.symm⟩)
          refine wpStill_nil ?_
          change wpList _ _ _ _ _ w15.drew
          have hI := hI.quiet ((G.refl w15 none).drew)
          have hZ := hZ.quiet ((G.refl w15 none).drew)
          clear hY y0 y1 y2 y3 y4 y5 y6
          generalize w15.drew = w16 at hI hZ ⊢
          have x0 : Bk (w16.setRow gz #[.string X.1, .int .i64 X.2.1, .int .i64 X.2.2.1, .int .i64 X.2.2.2.1, .int .i64 X.2.2.2.2.1, .int .i64 X.2.2.2.2.2.1, .int .i64 X.2.2.2.2.2.2]) gx 79 (raC X) := hI.2.2.1.farRow (show gx ≠ gz by omega) _
          have z0 : Bk (w16.setRow gz #[.string X.1, .int .i64 X.2.1, .int .i64 X.2.2.1, .int .i64 X.2.2.2.1, .int .i64 X.2.2.2.2.1, .int .i64 X.2.2.2.2.2.1, .int .i64 X.2.2.2.2.2.2]) gz 79 (raC X) := hZ.setRow _
          have hGW : G W (w16.setRow gz #[.string X.1, .int .i64 X.2.1, .int .i64 X.2.2.1, .int .i64 X.2.2.2.1, .int .i64 X.2.2.2.2.1, .int .i64 X.2.2.2.2.2.1, .int .i64 X.2.2.2.2.2.2]) none := hI.2.2.2.setRow (.inl hgw) _
          have hnq : ∀ w : World, (binOp .eql 79 (.agg #[.string X.1, .int .i64 X.2.1, .int .i64 X.2.2.1, .int .i64 X.2.2.2.1, .int .i64 X.2.2.2.2.1, .int .i64 X.2.2.2.2.2.1, .int .i64 X.2.2.2.2.2.2]) (.agg #[.string X.1, .int .i64 X.2.1, .int .i64 X.2.2.1, .int .i64 X.2.2.2.1, .int .i64 X.2.2.2.2.1, .int .i64 X.2.2.2.2.2.1, .int .i64 X.2.2.2.2.2.2])).run Tryd.prog w = .ok (.bool true) w := fun w => ra_eql X w
          have c0 : (w16.setRow gz #[.string X.1, .int .i64 X.2.1, .int .i64 X.2.2.1, .int .i64 X.2.2.2.1, .int .i64 X.2.2.2.2.1, .int .i64 X.2.2.2.2.2.1, .int .i64 X.2.2.2.2.2.2]).cell? ⟨gx, 0, none⟩ = some (.string X.1) := x0.cell 0
          have c1 : (w16.setRow gz #[.string X.1, .int .i64 X.2.1, .int .i64 X.2.2.1, .int .i64 X.2.2.2.1, .int .i64 X.2.2.2.2.1, .int .i64 X.2.2.2.2.2.1, .int .i64 X.2.2.2.2.2.2]).cell? ⟨gx, 1, none⟩ = some (.int .i64 X.2.1) := x0.cell 1
          have c2 : (w16.setRow gz #[.string X.1, .int .i64 X.2.1, .int .i64 X.2.2.1, .int .i64 X.2.2.2.1, .int .i64 X.2.2.2.2.1, .int .i64 X.2.2.2.2.2.1, .int .i64 X.2.2.2.2.2.2]).cell? ⟨gx, 2, none⟩ = some (.int .i64 X.2.2.1) := x0.cell 2
          have c3 : (w16.setRow gz #[.string X.1, .int .i64 X.2.1, .int .i64 X.2.2.1, .int .i64 X.2.2.2.1, .int .i64 X.2.2.2.2.1, .int .i64 X.2.2.2.2.2.1, .int .i64 X.2.2.2.2.2.2]).cell? ⟨gx, 3, none⟩ = some (.int .i64 X.2.2.2.1) := x0.cell 3
          have c4 : (w16.setRow gz #[.string X.1, .int .i64 X.2.1, .int .i64 X.2.2.1, .int .i64 X.2.2.2.1, .int .i64 X.2.2.2.2.1, .int .i64 X.2.2.2.2.2.1, .int .i64 X.2.2.2.2.2.2]).cell? ⟨gx, 4, none⟩ = some (.int .i64 X.2.2.2.2.1) := x0.cell 4
          have c5 : (w16.setRow gz #[.string X.1, .int .i64 X.2.1, .int .i64 X.2.2.1, .int .i64 X.2.2.2.1, .int .i64 X.2.2.2.2.1, .int .i64 X.2.2.2.2.2.1, .int .i64 X.2.2.2.2.2.2]).cell? ⟨gx, 5, none⟩ = some (.int .i64 X.2.2.2.2.2.1) := x0.cell 5
          have c6 : (w16.setRow gz #[.string X.1, .int .i64 X.2.1, .int .i64 X.2.2.1, .int .i64 X.2.2.2.1, .int .i64 X.2.2.2.2.1, .int .i64 X.2.2.2.2.2.1, .int .i64 X.2.2.2.2.2.2]).cell? ⟨gx, 6, none⟩ = some (.int .i64 X.2.2.2.2.2.2) := x0.cell 6
          have e0 : (w16.setRow gz #[.string X.1, .int .i64 X.2.1, .int .i64 X.2.2.1, .int .i64 X.2.2.2.1, .int .i64 X.2.2.2.2.1, .int .i64 X.2.2.2.2.2.1, .int .i64 X.2.2.2.2.2.2]).cell? ⟨gz, 0, none⟩ = some (.string X.1) := z0.cell 0
          have e1 : (w16.setRow gz #[.string X.1, .int .i64 X.2.1, .int .i64 X.2.2.1, .int .i64 X.2.2.2.1, .int .i64 X.2.2.2.2.1, .int .i64 X.2.2.2.2.2.1, .int .i64 X.2.2.2.2.2.2]).cell? ⟨gz, 1, none⟩ = some (.int .i64 X.2.1) := z0.cell 1
          have e2 : (w16.setRow gz #[.string X.1, .int .i64 X.2.1, .int .i64 X.2.2.1, .int .i64 X.2.2.2.1, .int .i64 X.2.2.2.2.1, .int .i64 X.2.2.2.2.2.1, .int .i64 X.2.2.2.2.2.2]).cell? ⟨gz, 2, none⟩ = some (.int .i64 X.2.2.1) := z0.cell 2
          have e3 : (w16.setRow gz #[.string X.1, .int .i64 X.2.1, .int .i64 X.2.2.1, .int .i64 X.2.2.2.1, .int .i64 X.2.2.2.2.1, .int .i64 X.2.2.2.2.2.1, .int .i64 X.2.2.2.2.2.2]).cell? ⟨gz, 3, none⟩ = some (.int .i64 X.2.2.2.1) := z0.cell 3
          have e4 : (w16.setRow gz #[.string X.1, .int .i64 X.2.1, .int .i64 X.2.2.1, .int .i64 X.2.2.2.1, .int .i64 X.2.2.2.2.1, .int .i64 X.2.2.2.2.2.1, .int .i64 X.2.2.2.2.2.2]).cell? ⟨gz, 4, none⟩ = some (.int .i64 X.2.2.2.2.1) := z0.cell 4
          have e5 : (w16.setRow gz #[.string X.1, .int .i64 X.2.1, .int .i64 X.2.2.1, .int .i64 X.2.2.2.1, .int .i64 X.2.2.2.2.1, .int .i64 X.2.2.2.2.2.1, .int .i64 X.2.2.2.2.2.2]).cell? ⟨gz, 5, none⟩ = some (.int .i64 X.2.2.2.2.2.1) := z0.cell 5
          have e6 : (w16.setRow gz #[.string X.1, .int .i64 X.2.1, .int .i64 X.2.2.1, .int .i64 X.2.2.2.1, .int .i64 X.2.2.2.2.1, .int .i64 X.2.2.2.2.2.1, .int .i64 X.2.2.2.2.2.2]).cell? ⟨gz, 6, none⟩ = some (.int .i64 X.2.2.2.2.2.2) := z0.cell 6
          clear hI x0 z0
          go_wp2_with (refine wpList_store_row rfl 79 _ _ rfl gz #[.string X.1, .int .i64 X.2.1, .int .i64 X.2.2.1, .int .i64 X.2.2.2.1, .int .i64 X.2.2.2.2.1, .int .i64 X.2.2.2.2.2.1, .int .i64 X.2.2.2.2.2.2] rfl rfl 79 _ hZ (ra_info X) rfl (ra_oneB X) ?_)
          refine (priced_c _).mono ?_; rintro e w17 ⟨rfl, hH⟩
          go_wp2_with fail
          go_ret
          exact ⟨rfl, hGW.trans hH⟩
        | true =>
          rw [hs] at hQ
          have hQ2 : roE l k d = 0 := hQ
          rw [hQ2]
          clear hQ hQ2
          go_wp2_with fail
          refine (rateAt_c v l k d _ hI.1 HLOK.out (by omega)).mono ?_; rintro e w14 ⟨rfl, hH⟩
          rw [hXG, hs, show raC X = #[.string X.1, .int .i64 X.2.1, .int .i64 X.2.2.1, .int .i64 X.2.2.2.1, .int .i64 X.2.2.2.2.1, .int .i64 X.2.2.2.2.2.1, .int .i64 X.2.2.2.2.2.2] from rfl]
          have hI := hI.quiet hH
          have hZ := hZ.quiet hH
          have hA := (G.refl w14 none).alloc (.cells #[.string X.1, .int .i64 X.2.1, .int .i64 X.2.2.1, .int .i64 X.2.2.2.1, .int .i64 X.2.2.2.2.1, .int .i64 X.2.2.2.2.2.1, .int .i64 X.2.2.2.2.2.2] 79)
          have hY : Bk (w14.alloc (.cells #[.string X.1, .int .i64 X.2.1, .int .i64 X.2.2.1, .int .i64 X.2.2.2.1, .int .i64 X.2.2.2.2.1, .int .i64 X.2.2.2.2.2.1, .int .i64 X.2.2.2.2.2.2] 79)) w14.heap.size 79 (raC X) := Bk.new _ _ _
          have hI := hI.quiet hA
          have hZ := hZ.quiet hA
          clear hH hA hXG hs
          go_wp2_with fail
          generalize w14.alloc (.cells #[.string X.1, .int .i64 X.2.1, .int .i64 X.2.2.1, .int .i64 X.2.2.2.1, .int .i64 X.2.2.2.2.1, .int .i64 X.2.2.2.2.2.1, .int .i64 X.2.2.2.2.2.2] 79) = w15 at hI hZ hY ⊢
          generalize w14.heap.size = gy at hY ⊢
          have y0 : w15.cell? ⟨gy, 0, none⟩ = some (.string X.1) := hY.cell 0
          have y1 : w15.cell? ⟨gy, 1, none⟩ = some (.int .i64 X.2.1) := hY.cell 1
          have y2 : w15.cell? ⟨gy, 2, none⟩ = some (.int .i64 X.2.2.1) := hY.cell 2
          have y3 : w15.cell? ⟨gy, 3, none⟩ = some (.int .i64 X.2.2.2.1) := hY.cell 3
          have y4 : w15.cell? ⟨gy, 4, none⟩ = some (.int .i64 X.2.2.2.2.1) := hY.cell 4
          have y5 : w15.cell? ⟨gy, 5, none⟩ = some (.int .i64 X.2.2.2.2.2.1) := hY.cell 5
          have y6 : w15.cell? ⟨gy, 6, none⟩ = some (.int .i64 X.2.2.2.2.2.2) := hY.cell 6
          go_still_tail 4, (by kernel_rfl)
          still_call ((when_f 8 _).mono fun _ _ h => ⟨h.1, h.2.symm⟩)
          refine wpStill_nil ?_
          change wpList _ _ _ _ _ w15.drew
          have hI := hI.quiet ((G.refl w15 none).drew)
          have hZ := hZ.quiet ((G.refl w15 none).drew)
          clear hY y0 y1 y2 y3 y4 y5 y6
          generalize w15.drew = w16 at hI hZ ⊢
          have x0 : Bk (w16.setRow gz #[.string X.1, .int .i64 X.2.1, .int .i64 X.2.2.1, .int .i64 X.2.2.2.1, .int .i64 X.2.2.2.2.1, .int .i64 X.2.2.2.2.2.1, .int .i64 X.2.2.2.2.2.2]) gx 79 (raC X) := hI.2.2.1.farRow (show gx ≠ gz by omega) _
          have z0 : Bk (w16.setRow gz #[.string X.1, .int .i64 X.2.1, .int .i64 X.2.2.1, .int .i64 X.2.2.2.1, .int .i64 X.2.2.2.2.1, .int .i64 X.2.2.2.2.2.1, .int .i64 X.2.2.2.2.2.2]) gz 79 (raC X) := hZ.setRow _
          have hGW : G W (w16.setRow gz #[.string X.1, .int .i64 X.2.1, .int .i64 X.2.2.1, .int .i64 X.2.2.2.1, .int .i64 X.2.2.2.2.1, .int .i64 X.2.2.2.2.2.1, .int .i64 X.2.2.2.2.2.2]) none := hI.2.2.2.setRow (.inl hgw) _
          have hnq : ∀ w : World, (binOp .eql 79 (.agg #[.string X.1, .int .i64 X.2.1, .int .i64 X.2.2.1, .int .i64 X.2.2.2.1, .int .i64 X.2.2.2.2.1, .int .i64 X.2.2.2.2.2.1, .int .i64 X.2.2.2.2.2.2]) (.agg #[.string X.1, .int .i64 X.2.1, .int .i64 X.2.2.1, .int .i64 X.2.2.2.1, .int .i64 X.2.2.2.2.1, .int .i64 X.2.2.2.2.2.1, .int .i64 X.2.2.2.2.2.2])).run Tryd.prog w = .ok (.bool true) w := fun w => ra_eql X w
          have c0 : (w16.setRow gz #[.string X.1, .int .i64 X.2.1, .int .i64 X.2.2.1, .int .i64 X.2.2.2.1, .int .i64 X.2.2.2.2.1, .int .i64 X.2.2.2.2.2.1, .int .i64 X.2.2.2.2.2.2]).cell? ⟨gx, 0, none⟩ = some (.string X.1) := x0.cell 0
          have c1 : (w16.setRow gz #[.string X.1, .int .i64 X.2.1, .int .i64 X.2.2.1, .int .i64 X.2.2.2.1, .int .i64 X.2.2.2.2.1, .int .i64 X.2.2.2.2.2.1, .int .i64 X.2.2.2.2.2.2]).cell? ⟨gx, 1, none⟩ = some (.int .i64 X.2.1) := x0.cell 1
          have c2 : (w16.setRow gz #[.string X.1, .int .i64 X.2.1, .int .i64 X.2.2.1, .int .i64 X.2.2.2.1, .int .i64 X.2.2.2.2.1, .int .i64 X.2.2.2.2.2.1, .int .i64 X.2.2.2.2.2.2]).cell? ⟨gx, 2, none⟩ = some (.int .i64 X.2.2.1) := x0.cell 2
          have c3 : (w16.setRow gz #[.string X.1, .int .i64 X.2.1, .int .i64 X.2.2.1, .int .i64 X.2.2.2.1, .int .i64 X.2.2.2.2.1, .int .i64 X.2.2.2.2.2.1, .int .i64 X.2.2.2.2.2.2]).cell? ⟨gx, 3, none⟩ = some (.int .i64 X.2.2.2.1) := x0.cell 3
          have c4 : (w16.setRow gz #[.string X.1, .int .i64 X.2.1, .int .i64 X.2.2.1, .int .i64 X.2.2.2.1, .int .i64 X.2.2.2.2.1, .int .i64 X.2.2.2.2.2.1, .int .i64 X.2.2.2.2.2.2]).cell? ⟨gx, 4, none⟩ = some (.int .i64 X.2.2.2.2.1) := x0.cell 4
          have c5 : (w16.setRow gz #[.string X.1, .int .i64 X.2.1, .int .i64 X.2.2.1, .int .i64 X.2.2.2.1, .int .i64 X.2.2.2.2.1, .int .i64 X.2.2.2.2.2.1, .int .i64 X.2.2.2.2.2.2]).cell? ⟨gx, 5, none⟩ = some (.int .i64 X.2.2.2.2.2.1) := x0.cell 5
          have c6 : (w16.setRow gz #[.string X.1, .int .i64 X.2.1, .int .i64 X.2.2.1, .int .i64 X.2.2.2.1, .int .i64 X.2.2.2.2.1, .int .i64 X.2.2.2.2.2.1, .int .i64 X.2.2.2.2.2.2]).cell? ⟨gx, 6, none⟩ = some (.int .i64 X.2.2.2.2.2.2) := x0.cell 6
          have e0 : (w16.setRow gz #[.string X.1, .int .i64 X.2.1, .int .i64 X.2.2.1, .int .i64 X.2.2.2.1, .int .i64 X.2.2.2.2.1, .int .i64 X.2.2.2.2.2.1, .int .i64 X.2.2.2.2.2.2]).cell? ⟨gz, 0, none⟩ = some (.string X.1) := z0.cell 0
          have e1 : (w16.setRow gz #[.string X.1, .int .i64 X.2.1, .int .i64 X.2.2.1, .int .i64 X.2.2.2.1, .int .i64 X.2.2.2.2.1, .int .i64 X.2.2.2.2.2.1, .int .i64 X.2.2.2.2.2.2]).cell? ⟨gz, 1, none⟩ = some (.int .i64 X.2.1) := z0.cell 1
          have e2 : (w16.setRow gz #[.string X.1, .int .i64 X.2.1, .int .i64 X.2.2.1, .int .i64 X.2.2.2.1, .int .i64 X.2.2.2.2.1, .int .i64 X.2.2.2.2.2.1, .int .i64 X.2.2.2.2.2.2]).cell? ⟨gz, 2, none⟩ = some (.int .i64 X.2.2.1) := z0.cell 2
          have e3 : (w16.setRow gz #[.string X.1, .int .i64 X.2.1, .int .i64 X.2.2.1, .int .i64 X.2.2.2.1, .int .i64 X.2.2.2.2.1, .int .i64 X.2.2.2.2.2.1, .int .i64 X.2.2.2.2.2.2]).cell? ⟨gz, 3, none⟩ = some (.int .i64 X.2.2.2.1) := z0.cell 3
          have e4 : (w16.setRow gz #[.string X.1, .int .i64 X.2.1, .int .i64 X.2.2.1, .int .i64 X.2.2.2.1, .int .i64 X.2.2.2.2.1, .int .i64 X.2.2.2.2.2.1, .int .i64 X.2.2.2.2.2.2]).cell? ⟨gz, 4, none⟩ = some (.int .i64 X.2.2.2.2.1) := z0.cell 4
          have e5 : (w16.setRow gz #[.string X.1, .int .i64 X.2.1, .int .i64 X.2.2.1, .int .i64 X.2.2.2.1, .int .i64 X.2.2.2.2.1, .int .i64 X.2.2.2.2.2.1, .int .i64 X.2.2.2.2.2.2]).cell? ⟨gz, 5, none⟩ = some (.int .i64 X.2.2.2.2.2.1) := z0.cell 5
          have e6 : (w16.setRow gz #[.string X.1, .int .i64 X.2.1, .int .i64 X.2.2.1, .int .i64 X.2.2.2.1, .int .i64 X.2.2.2.2.1, .int .i64 X.2.2.2.2.2.1, .int .i64 X.2.2.2.2.2.2]).cell? ⟨gz, 6, none⟩ = some (.int .i64 X.2.2.2.2.2.2) := z0.cell 6
          clear hI x0 z0
          go_wp2_with (refine wpList_store_row rfl 79 _ _ rfl gz #[.string X.1, .int .i64 X.2.1, .int .i64 X.2.2.1, .int .i64 X.2.2.2.1, .int .i64 X.2.2.2.2.1, .int .i64 X.2.2.2.2.2.1, .int .i64 X.2.2.2.2.2.2] rfl rfl 79 _ hZ (ra_info X) rfl (ra_oneB X) ?_)
          refine (priced_c _).mono ?_; rintro e w17 ⟨rfl, hH⟩
          go_wp2_with fail
          go_ret
          exact ⟨rfl, hGW.trans hH⟩
      · obtain ⟨hN, hQ⟩ := hone.2 hE
        have hXZ : X = raZ := HX.out.symm.trans hN
        have hE' : (errsOf [raE l, keyE k, 1] == 0) = false := by simpa using hE
        rw [hQ]
        subst hXZ
        clear hE hone hN hQ HX
        generalize errsOf [raE l, keyE k, 1] = E at hE' ⊢
        have hnq : ∀ w : World, (binOp .eql 79 (.agg #[.string ⟨#[]⟩, .int .i64 0, .int .i64 0, .int .i64 0, .int .i64 0, .int .i64 0, .int .i64 0]) (.agg #[.string ⟨#[]⟩, .int .i64 0, .int .i64 0, .int .i64 0, .int .i64 0, .int .i64 0, .int .i64 0])).run Tryd.prog w = .ok (.bool true) w := fun w => ra_eql raZ w
        have x0 := hI.2.2.1
        have c0 : w13.cell? ⟨gx, 0, none⟩ = some (.string ⟨#[]⟩) := x0.cell 0
        have c1 : w13.cell? ⟨gx, 1, none⟩ = some (.int .i64 0) := x0.cell 1
        have c2 : w13.cell? ⟨gx, 2, none⟩ = some (.int .i64 0) := x0.cell 2
        have c3 : w13.cell? ⟨gx, 3, none⟩ = some (.int .i64 0) := x0.cell 3
        have c4 : w13.cell? ⟨gx, 4, none⟩ = some (.int .i64 0) := x0.cell 4
        have c5 : w13.cell? ⟨gx, 5, none⟩ = some (.int .i64 0) := x0.cell 5
        have c6 : w13.cell? ⟨gx, 6, none⟩ = some (.int .i64 0) := x0.cell 6
        have z0 : w13.cell? ⟨gz, 0, none⟩ = some (.string ⟨#[]⟩) := hZ.cell 0
        have z1 : w13.cell? ⟨gz, 1, none⟩ = some (.int .i64 0) := hZ.cell 1
        have z2 : w13.cell? ⟨gz, 2, none⟩ = some (.int .i64 0) := hZ.cell 2
        have z3 : w13.cell? ⟨gz, 3, none⟩ = some (.int .i64 0) := hZ.cell 3
        have z4 : w13.cell? ⟨gz, 4, none⟩ = some (.int .i64 0) := hZ.cell 4
        have z5 : w13.cell? ⟨gz, 5, none⟩ = some (.int .i64 0) := hZ.cell 5
        have z6 : w13.cell? ⟨gz, 6, none⟩ = some (.int .i64 0) := hZ.cell 6
        have hGW := hI.2.2.2
        clear hI hZ x0
        go_wp2_with fail
        refine (priced_c _).mono ?_; rintro e w15 ⟨rfl, hH⟩
        go_wp2_with fail
        go_ret
        exact ⟨rfl, hGW.trans hH⟩
    · have hone := ro_errs l k d 1 (by rw [inB, decide_eq_false (show ¬ d ≤ 4000 by omega), Bool.and_false]; rfl)
      go_wp2_with fail
      refine (when_t _ _).mono ?_; rintro e w' ⟨rfl, rfl⟩
      have hA := (G.refl w12 none).alloc (.cells #[.int .i64 (raE l), .int .i64 (keyE k), .int .i64 1] 36)
      have hI := hI.quiet hA
      have hZ := hZ.quiet hA
      clear hA
      go_wp2_with fail
      refine (errs_c [raE l, keyE k, 1] _ _ (Rd.new #[.int .i64 (raE l), .int .i64 (keyE k), .int .i64 1] rfl (by show 3 ≤ maxLen; decide)) (by simp)).mono ?_; rintro e w' ⟨rfl, rfl⟩
      generalize w12.alloc (.cells #[.int .i64 (raE l), .int .i64 (keyE k), .int .i64 1] 36) = w13 at hI hZ ⊢
      by_cases hE : errsOf [raE l, keyE k, 1] = 0
      · obtain ⟨hN, hQ⟩ := hone.1 hE
        have hXG : raG (l.find? (raF k d)) = X := hN.symm.trans HX.out
        rw [hE]
        clear hE hone hN
        cases hs : (l.find? (raF k d)).isSome with
        | false =>
          rw [hs] at hQ
          have hQ2 : roE l k d = 8 := hQ
          rw [hQ2]
          clear hQ hQ2
          go_wp2_with fail
          refine (rateAt_c v l k d _ hI.1 HLOK.out (by omega)).mono ?_; rintro e w14 ⟨rfl, hH⟩
          rw [hXG, hs, show raC X = #[.string X.1, .int .i64 X.2.1, .int .i64 X.2.2.1, .int .i64 X.2.2.2.1, .int .i64 X.2.2.2.2.1, .int .i64 X.2.2.2.2.2.1, .int .i64 X.2.2.2.2.2.2] from rfl]
          have hI := hI.quiet hH
          have hZ := hZ.quiet hH
          have hA := (G.refl w14 none).alloc (.cells #[.string X.1, .int .i64 X.2.1, .int .i64 X.2.2.1, .int .i64 X.2.2.2.1, .int .i64 X.2.2.2.2.1, .int .i64 X.2.2.2.2.2.1, .int .i64 X.2.2.2.2.2.2] 79)
          have hY : Bk (w14.alloc (.cells #[.string X.1, .int .i64 X.2.1, .int .i64 X.2.2.1, .int .i64 X.2.2.2.1, .int .i64 X.2.2.2.2.1, .int .i64 X.2.2.2.2.2.1, .int .i64 X.2.2.2.2.2.2] 79)) w14.heap.size 79 (raC X) := Bk.new _ _ _
          have hI := hI.quiet hA
          have hZ := hZ.quiet hA
          clear hH hA hXG hs
          go_wp2_with fail
          generalize w14.alloc (.cells #[.string X.1, .int .i64 X.2.1, .int .i64 X.2.2.1, .int .i64 X.2.2.2.1, .int .i64 X.2.2.2.2.1, .int .i64 X.2.2.2.2.2.1, .int .i64 X.2.2.2.2.2.2] 79) = w15 at hI hZ hY ⊢
          generalize w14.heap.size = gy at hY ⊢
          have y0 : w15.cell? ⟨gy, 0, none⟩ = some (.string X.1) := hY.cell 0
          have y1 : w15.cell? ⟨gy, 1, none⟩ = some (.int .i64 X.2.1) := hY.cell 1
          have y2 : w15.cell? ⟨gy, 2, none⟩ = some (.int .i64 X.2.2.1) := hY.cell 2
          have y3 : w15.cell? ⟨gy, 3, none⟩ = some (.int .i64 X.2.2.2.1) := hY.cell 3
          have y4 : w15.cell? ⟨gy, 4, none⟩ = some (.int .i64 X.2.2.2.2.1) := hY.cell 4
          have y5 : w15.cell? ⟨gy, 5, none⟩ = some (.int .i64 X.2.2.2.2.2.1) := hY.cell 5
          have y6 : w15.cell? ⟨gy, 6, none⟩ = some (.int .i64 X.2.2.2.2.2.2) := hY.cell 6
          go_still_tail 4, (by kernel_rfl)
          still_call ((when_t 8 _).mono fun _ _ h => ⟨h.1, h.2.symm⟩)
          refine wpStill_nil ?_
          change wpList _ _ _ _ _ w15.drew
          have hI := hI.quiet ((G.refl w15 none).drew)
          have hZ := hZ.quiet ((G.refl w15 none).drew)
          clear hY y0 y1 y2 y3 y4 y5 y6
          generalize w15.drew = w16 at hI hZ ⊢
          have x0 : Bk (w16.setRow gz #[.string X.1, .int .i64 X.2.1, .int .i64 X.2.2.1, .int .i64 X.2.2.2.1, .int .i64 X.2.2.2.2.1, .int .i64 X.2.2.2.2.2.1, .int .i64 X.2.2.2.2.2.2]) gx 79 (raC X) := hI.2.2.1.farRow (show gx ≠ gz by omega) _
          have z0 : Bk (w16.setRow gz #[.string X.1, .int .i64 X.2.1, .int .i64 X.2.2.1, .int .i64 X.2.2.2.1, .int .i64 X.2.2.2.2.1, .int .i64 X.2.2.2.2.2.1, .int .i64 X.2.2.2.2.2.2]) gz 79 (raC X) := hZ.setRow _
          have hGW : G W (w16.setRow gz #[.string X.1, .int .i64 X.2.1, .int .i64 X.2.2.1, .int .i64 X.2.2.2.1, .int .i64 X.2.2.2.2.1, .int .i64 X.2.2.2.2.2.1, .int .i64 X.2.2.2.2.2.2]) none := hI.2.2.2.setRow (.inl hgw) _
          have hnq : ∀ w : World, (binOp .eql 79 (.agg #[.string X.1, .int .i64 X.2.1, .int .i64 X.2.2.1, .int .i64 X.2.2.2.1, .int .i64 X.2.2.2.2.1, .int .i64 X.2.2.2.2.2.1, .int .i64 X.2.2.2.2.2.2]) (.agg #[.string X.1, .int .i64 X.2.1, .int .i64 X.2.2.1, .int .i64 X.2.2.2.1, .int .i64 X.2.2.2.2.1, .int .i64 X.2.2.2.2.2.1, .int .i64 X.2.2.2.2.2.2])).run Tryd.prog w = .ok (.bool true) w := fun w => ra_eql X w
          have c0 : (w16.setRow gz #[.string X.1, .int .i64 X.2.1, .int .i64 X.2.2.1, .int .i64 X.2.2.2.1, .int .i64 X.2.2.2.2.1, .int .i64 X.2.2.2.2.2.1, .int .i64 X.2.2.2.2.2.2]).cell? ⟨gx, 0, none⟩ = some (.string X.1) := x0.cell 0
          have c1 : (w16.setRow gz #[.string X.1, .int .i64 X.2.1, .int .i64 X.2.2.1, .int .i64 X.2.2.2.1, .int .i64 X.2.2.2.2.1, .int .i64 X.2.2.2.2.2.1, .int .i64 X.2.2.2.2.2.2]).cell? ⟨gx, 1, none⟩ = some (.int .i64 X.2.1) := x0.cell 1
          have c2 : (w16.setRow gz #[.string X.1, .int .i64 X.2.1, .int .i64 X.2.2.1, .int .i64 X.2.2.2.1, .int .i64 X.2.2.2.2.1, .int .i64 X.2.2.2.2.2.1, .int .i64 X.2.2.2.2.2.2]).cell? ⟨gx, 2, none⟩ = some (.int .i64 X.2.2.1) := x0.cell 2
          have c3 : (w16.setRow gz #[.string X.1, .int .i64 X.2.1, .int .i64 X.2.2.1, .int .i64 X.2.2.2.1, .int .i64 X.2.2.2.2.1, .int .i64 X.2.2.2.2.2.1, .int .i64 X.2.2.2.2.2.2]).cell? ⟨gx, 3, none⟩ = some (.int .i64 X.2.2.2.1) := x0.cell 3
          have c4 : (w16.setRow gz #[.string X.1, .int .i64 X.2.1, .int .i64 X.2.2.1, .int .i64 X.2.2.2.1, .int .i64 X.2.2.2.2.1, .int .i64 X.2.2.2.2.2.1, .int .i64 X.2.2.2.2.2.2]).cell? ⟨gx, 4, none⟩ = some (.int .i64 X.2.2.2.2.1) := x0.cell 4
          have c5 : (w16.setRow gz #[.string X.1, .int .i64 X.2.1, .int .i64 X.2.2.1, .int .i64 X.2.2.2.1, .int .i64 X.2.2.2.2.1, .int .i64 X.2.2.2.2.2.1, .int .i64 X.2.2.2.2.2.2]).cell? ⟨gx, 5, none⟩ = some (.int .i64 X.2.2.2.2.2.1) := x0.cell 5
          have c6 : (w16.setRow gz #[.string X.1, .int .i64 X.2.1, .int .i64 X.2.2.1, .int .i64 X.2.2.2.1, .int .i64 X.2.2.2.2.1, .int .i64 X.2.2.2.2.2.1, .int .i64 X.2.2.2.2.2.2]).cell? ⟨gx, 6, none⟩ = some (.int .i64 X.2.2.2.2.2.2) := x0.cell 6
          have e0 : (w16.setRow gz #[.string X.1, .int .i64 X.2.1, .int .i64 X.2.2.1, .int .i64 X.2.2.2.1, .int .i64 X.2.2.2.2.1, .int .i64 X.2.2.2.2.2.1, .int .i64 X.2.2.2.2.2.2]).cell? ⟨gz, 0, none⟩ = some (.string X.1) := z0.cell 0
          have e1 : (w16.setRow gz #[.string X.1, .int .i64 X.2.1, .int .i64 X.2.2.1, .int .i64 X.2.2.2.1, .int .i64 X.2.2.2.2.1, .int .i64 X.2.2.2.2.2.1, .int .i64 X.2.2.2.2.2.2]).cell? ⟨gz, 1, none⟩ = some (.int .i64 X.2.1) := z0.cell 1
          have e2 : (w16.setRow gz #[.string X.1, .int .i64 X.2.1, .int .i64 X.2.2.1, .int .i64 X.2.2.2.1, .int .i64 X.2.2.2.2.1, .int .i64 X.2.2.2.2.2.1, .int .i64 X.2.2.2.2.2.2]).cell? ⟨gz, 2, none⟩ = some (.int .i64 X.2.2.1) := z0.cell 2
          have e3 : (w16.setRow gz #[.string X.1, .int .i64 X.2.1, .int .i64 X.2.2.1, .int .i64 X.2.2.2.1, .int .i64 X.2.2.2.2.1, .int .i64 X.2.2.2.2.2.1, .int .i64 X.2.2.2.2.2.2]).cell? ⟨gz, 3, none⟩ = some (.int .i64 X.2.2.2.1) := z0.cell 3
          have e4 : (w16.setRow gz #[.string X.1, .int .i64 X.2.1, .int .i64 X.2.2.1, .int .i64 X.2.2.2.1, .int .i64 X.2.2.2.2.1, .int .i64 X.2.2.2.2.2.1, .int .i64 X.2.2.2.2.2.2]).cell? ⟨gz, 4, none⟩ = some (.int .i64 X.2.2.2.2.1) := z0.cell 4
          have e5 : (w16.setRow gz #[.string X.1, .int .i64 X.2.1, .int .i64 X.2.2.1, .int .i64 X.2.2.2.1, .int .i64 X.2.2.2.2.1, .int .i64 X.2.2.2.2.2.1, .int .i64 X.2.2.2.2.2.2]).cell? ⟨gz, 5, none⟩ = some (.int .i64 X.2.2.2.2.2.1) := z0.cell 5
          have e6 : (w16.setRow gz #[.string X.1, .int .i64 X.2.1, .int .i64 X.2.2.1, .int .i64 X.2.2.2.1, .int .i64 X.2.2.2.2.1, .int .i64 X.2.2.2.2.2.1, .int .i64 X.2.2.2.2.2.2]).cell? ⟨gz, 6, none⟩ = some (.int .i64 X.2.2.2.2.2.2) := z0.cell 6
          clear hI x0 z0
          go_wp2_with (refine wpList_store_row rfl 79 _ _ rfl gz #[.string X.1, .int .i64 X.2.1, .int .i64 X.2.2.1, .int .i64 X.2.2.2.1, .int .i64 X.2.2.2.2.1, .int .i64 X.2.2.2.2.2.1, .int .i64 X.2.2.2.2.2.2] rfl rfl 79 _ hZ (ra_info X) rfl (ra_oneB X) ?_)
          refine (priced_c _).mono ?_; rintro e w17 ⟨rfl, hH⟩
          go_wp2_with fail
          go_ret
          exact ⟨rfl, hGW.trans hH⟩
        | true =>
          rw [hs] at hQ
          have hQ2 : roE l k d = 0 := hQ
          rw [hQ2]
          clear hQ hQ2
          go_wp2_with fail
          refine (rateAt_c v l k d _ hI.1 HLOK.out (by omega)).mono ?_; rintro e w14 ⟨rfl, hH⟩
          rw [hXG, hs, show raC X = #[.string X.1, .int .i64 X.2.1, .int .i64 X.2.2.1, .int .i64 X.2.2.2.1, .int .i64 X.2.2.2.2.1, .int .i64 X.2.2.2.2.2.1, .int .i64 X.2.2.2.2.2.2] from rfl]
          have hI := hI.quiet hH
          have hZ := hZ.quiet hH
          have hA := (G.refl w14 none).alloc (.cells #[.string X.1, .int .i64 X.2.1, .int .i64 X.2.2.1, .int .i64 X.2.2.2.1, .int .i64 X.2.2.2.2.1, .int .i64 X.2.2.2.2.2.1, .int .i64 X.2.2.2.2.2.2] 79)
          have hY : Bk (w14.alloc (.cells #[.string X.1, .int .i64 X.2.1, .int .i64 X.2.2.1, .int .i64 X.2.2.2.1, .int .i64 X.2.2.2.2.1, .int .i64 X.2.2.2.2.2.1, .int .i64 X.2.2.2.2.2.2] 79)) w14.heap.size 79 (raC X) := Bk.new _ _ _
          have hI := hI.quiet hA
          have hZ := hZ.quiet hA
          clear hH hA hXG hs
          go_wp2_with fail
          generalize w14.alloc (.cells #[.string X.1, .int .i64 X.2.1, .int .i64 X.2.2.1, .int .i64 X.2.2.2.1, .int .i64 X.2.2.2.2.1, .int .i64 X.2.2.2.2.2.1, .int .i64 X.2.2.2.2.2.2] 79) = w15 at hI hZ hY ⊢
          generalize w14.heap.size = gy at hY ⊢
          have y0 : w15.cell? ⟨gy, 0, none⟩ = some (.string X.1) := hY.cell 0
          have y1 : w15.cell? ⟨gy, 1, none⟩ = some (.int .i64 X.2.1) := hY.cell 1
          have y2 : w15.cell? ⟨gy, 2, none⟩ = some (.int .i64 X.2.2.1) := hY.cell 2
          have y3 : w15.cell? ⟨gy, 3, none⟩ = some (.int .i64 X.2.2.2.1) := hY.cell 3
          have y4 : w15.cell? ⟨gy, 4, none⟩ = some (.int .i64 X.2.2.2.2.1) := hY.cell 4
          have y5 : w15.cell? ⟨gy, 5, none⟩ = some (.int .i64 X.2.2.2.2.2.1) := hY.cell 5
          have y6 : w15.cell? ⟨gy, 6, none⟩ = some (.int .i64 X.2.2.2.2.2.2) := hY.cell 6
          go_still_tail 4, (by kernel_rfl)
          still_call ((when_f 8 _).mono fun _ _ h => ⟨h.1, h.2.symm⟩)
          refine wpStill_nil ?_
          change wpList _ _ _ _ _ w15.drew
          have hI := hI.quiet ((G.refl w15 none).drew)
          have hZ := hZ.quiet ((G.refl w15 none).drew)
          clear hY y0 y1 y2 y3 y4 y5 y6
          generalize w15.drew = w16 at hI hZ ⊢
          have x0 : Bk (w16.setRow gz #[.string X.1, .int .i64 X.2.1, .int .i64 X.2.2.1, .int .i64 X.2.2.2.1, .int .i64 X.2.2.2.2.1, .int .i64 X.2.2.2.2.2.1, .int .i64 X.2.2.2.2.2.2]) gx 79 (raC X) := hI.2.2.1.farRow (show gx ≠ gz by omega) _
          have z0 : Bk (w16.setRow gz #[.string X.1, .int .i64 X.2.1, .int .i64 X.2.2.1, .int .i64 X.2.2.2.1, .int .i64 X.2.2.2.2.1, .int .i64 X.2.2.2.2.2.1, .int .i64 X.2.2.2.2.2.2]) gz 79 (raC X) := hZ.setRow _
          have hGW : G W (w16.setRow gz #[.string X.1, .int .i64 X.2.1, .int .i64 X.2.2.1, .int .i64 X.2.2.2.1, .int .i64 X.2.2.2.2.1, .int .i64 X.2.2.2.2.2.1, .int .i64 X.2.2.2.2.2.2]) none := hI.2.2.2.setRow (.inl hgw) _
          have hnq : ∀ w : World, (binOp .eql 79 (.agg #[.string X.1, .int .i64 X.2.1, .int .i64 X.2.2.1, .int .i64 X.2.2.2.1, .int .i64 X.2.2.2.2.1, .int .i64 X.2.2.2.2.2.1, .int .i64 X.2.2.2.2.2.2]) (.agg #[.string X.1, .int .i64 X.2.1, .int .i64 X.2.2.1, .int .i64 X.2.2.2.1, .int .i64 X.2.2.2.2.1, .int .i64 X.2.2.2.2.2.1, .int .i64 X.2.2.2.2.2.2])).run Tryd.prog w = .ok (.bool true) w := fun w => ra_eql X w
          have c0 : (w16.setRow gz #[.string X.1, .int .i64 X.2.1, .int .i64 X.2.2.1, .int .i64 X.2.2.2.1, .int .i64 X.2.2.2.2.1, .int .i64 X.2.2.2.2.2.1, .int .i64 X.2.2.2.2.2.2]).cell? ⟨gx, 0, none⟩ = some (.string X.1) := x0.cell 0
          have c1 : (w16.setRow gz #[.string X.1, .int .i64 X.2.1, .int .i64 X.2.2.1, .int .i64 X.2.2.2.1, .int .i64 X.2.2.2.2.1, .int .i64 X.2.2.2.2.2.1, .int .i64 X.2.2.2.2.2.2]).cell? ⟨gx, 1, none⟩ = some (.int .i64 X.2.1) := x0.cell 1
          have c2 : (w16.setRow gz #[.string X.1, .int .i64 X.2.1, .int .i64 X.2.2.1, .int .i64 X.2.2.2.1, .int .i64 X.2.2.2.2.1, .int .i64 X.2.2.2.2.2.1, .int .i64 X.2.2.2.2.2.2]).cell? ⟨gx, 2, none⟩ = some (.int .i64 X.2.2.1) := x0.cell 2
          have c3 : (w16.setRow gz #[.string X.1, .int .i64 X.2.1, .int .i64 X.2.2.1, .int .i64 X.2.2.2.1, .int .i64 X.2.2.2.2.1, .int .i64 X.2.2.2.2.2.1, .int .i64 X.2.2.2.2.2.2]).cell? ⟨gx, 3, none⟩ = some (.int .i64 X.2.2.2.1) := x0.cell 3
          have c4 : (w16.setRow gz #[.string X.1, .int .i64 X.2.1, .int .i64 X.2.2.1, .int .i64 X.2.2.2.1, .int .i64 X.2.2.2.2.1, .int .i64 X.2.2.2.2.2.1, .int .i64 X.2.2.2.2.2.2]).cell? ⟨gx, 4, none⟩ = some (.int .i64 X.2.2.2.2.1) := x0.cell 4
          have c5 : (w16.setRow gz #[.string X.1, .int .i64 X.2.1, .int .i64 X.2.2.1, .int .i64 X.2.2.2.1, .int .i64 X.2.2.2.2.1, .int .i64 X.2.2.2.2.2.1, .int .i64 X.2.2.2.2.2.2]).cell? ⟨gx, 5, none⟩ = some (.int .i64 X.2.2.2.2.2.1) := x0.cell 5
          have c6 : (w16.setRow gz #[.string X.1, .int .i64 X.2.1, .int .i64 X.2.2.1, .int .i64 X.2.2.2.1, .int .i64 X.2.2.2.2.1, .int .i64 X.2.2.2.2.2.1, .int .i64 X.2.2.2.2.2.2]).cell? ⟨gx, 6, none⟩ = some (.int .i64 X.2.2.2.2.2.2) := x0.cell 6
          have e0 : (w16.setRow gz #[.string X.1, .int .i64 X.2.1, .int .i64 X.2.2.1, .int .i64 X.2.2.2.1, .int .i64 X.2.2.2.2.1, .int .i64 X.2.2.2.2.2.1, .int .i64 X.2.2.2.2.2.2]).cell? ⟨gz, 0, none⟩ = some (.string X.1) := z0.cell 0
          have e1 : (w16.setRow gz #[.string X.1, .int .i64 X.2.1, .int .i64 X.2.2.1, .int .i64 X.2.2.2.1, .int .i64 X.2.2.2.2.1, .int .i64 X.2.2.2.2.2.1, .int .i64 X.2.2.2.2.2.2]).cell? ⟨gz, 1, none⟩ = some (.int .i64 X.2.1) := z0.cell 1
          have e2 : (w16.setRow gz #[.string X.1, .int .i64 X.2.1, .int .i64 X.2.2.1, .int .i64 X.2.2.2.1, .int .i64 X.2.2.2.2.1, .int .i64 X.2.2.2.2.2.1, .int .i64 X.2.2.2.2.2.2]).cell? ⟨gz, 2, none⟩ = some (.int .i64 X.2.2.1) := z0.cell 2
          have e3 : (w16.setRow gz #[.string X.1, .int .i64 X.2.1, .int .i64 X.2.2.1, .int .i64 X.2.2.2.1, .int .i64 X.2.2.2.2.1, .int .i64 X.2.2.2.2.2.1, .int .i64 X.2.2.2.2.2.2]).cell? ⟨gz, 3, none⟩ = some (.int .i64 X.2.2.2.1) := z0.cell 3
          have e4 : (w16.setRow gz #[.string X.1, .int .i64 X.2.1, .int .i64 X.2.2.1, .int .i64 X.2.2.2.1, .int .i64 X.2.2.2.2.1, .int .i64 X.2.2.2.2.2.1, .int .i64 X.2.2.2.2.2.2]).cell? ⟨gz, 4, none⟩ = some (.int .i64 X.2.2.2.2.1) := z0.cell 4
          have e5 : (w16.setRow gz #[.string X.1, .int .i64 X.2.1, .int .i64 X.2.2.1, .int .i64 X.2.2.2.1, .int .i64 X.2.2.2.2.1, .int .i64 X.2.2.2.2.2.1, .int .i64 X.2.2.2.2.2.2]).cell? ⟨gz, 5, none⟩ = some (.int .i64 X.2.2.2.2.2.1) := z0.cell 5
          have e6 : (w16.setRow gz #[.string X.1, .int .i64 X.2.1, .int .i64 X.2.2.1, .int .i64 X.2.2.2.1, .int .i64 X.2.2.2.2.1, .int .i64 X.2.2.2.2.2.1, .int .i64 X.2.2.2.2.2.2]).cell? ⟨gz, 6, none⟩ = some (.int .i64 X.2.2.2.2.2.2) := z0.cell 6
          clear hI x0 z0
          go_wp2_with (refine wpList_store_row rfl 79 _ _ rfl gz #[.string X.1, .int .i64 X.2.1, .int .i64 X.2.2.1, .int .i64 X.2.2.2.1, .int .i64 X.2.2.2.2.1, .int .i64 X.2.2.2.2.2.1, .int .i64 X.2.2.2.2.2.2] rfl rfl 79 _ hZ (ra_info X) rfl (ra_oneB X) ?_)
          refine (priced_c _).mono ?_; rintro e w17 ⟨rfl, hH⟩
          go_wp2_with fail
          go_ret
          exact ⟨rfl, hGW.trans hH⟩
      · obtain ⟨hN, hQ⟩ := hone.2 hE
        have hXZ : X = raZ := HX.out.symm.trans hN
        have hE' : (errsOf [raE l, keyE k, 1] == 0) = false := by simpa using hE
        rw [hQ]
        subst hXZ
        clear hE hone hN hQ HX
        generalize errsOf [raE l, keyE k, 1] = E at hE' ⊢
        have hnq : ∀ w : World, (binOp .eql 79 (.agg #[.string ⟨#[]⟩, .int .i64 0, .int .i64 0, .int .i64 0, .int .i64 0, .int .i64 0, .int .i64 0]) (.agg #[.string ⟨#[]⟩, .int .i64 0, .int .i64 0, .int .i64 0, .int .i64 0, .int .i64 0, .int .i64 0])).run Tryd.prog w = .ok (.bool true) w := fun w => ra_eql raZ w
        have x0 := hI.2.2.1
        have c0 : w13.cell? ⟨gx, 0, none⟩ = some (.string ⟨#[]⟩) := x0.cell 0
        have c1 : w13.cell? ⟨gx, 1, none⟩ = some (.int .i64 0) := x0.cell 1
        have c2 : w13.cell? ⟨gx, 2, none⟩ = some (.int .i64 0) := x0.cell 2
        have c3 : w13.cell? ⟨gx, 3, none⟩ = some (.int .i64 0) := x0.cell 3
        have c4 : w13.cell? ⟨gx, 4, none⟩ = some (.int .i64 0) := x0.cell 4
        have c5 : w13.cell? ⟨gx, 5, none⟩ = some (.int .i64 0) := x0.cell 5
        have c6 : w13.cell? ⟨gx, 6, none⟩ = some (.int .i64 0) := x0.cell 6
        have z0 : w13.cell? ⟨gz, 0, none⟩ = some (.string ⟨#[]⟩) := hZ.cell 0
        have z1 : w13.cell? ⟨gz, 1, none⟩ = some (.int .i64 0) := hZ.cell 1
        have z2 : w13.cell? ⟨gz, 2, none⟩ = some (.int .i64 0) := hZ.cell 2
        have z3 : w13.cell? ⟨gz, 3, none⟩ = some (.int .i64 0) := hZ.cell 3
        have z4 : w13.cell? ⟨gz, 4, none⟩ = some (.int .i64 0) := hZ.cell 4
        have z5 : w13.cell? ⟨gz, 5, none⟩ = some (.int .i64 0) := hZ.cell 5
        have z6 : w13.cell? ⟨gz, 6, none⟩ = some (.int .i64 0) := hZ.cell 6
        have hGW := hI.2.2.2
        clear hI hZ x0
        go_wp2_with fail
        refine (priced_c _).mono ?_; rintro e w15 ⟨rfl, hH⟩
        go_wp2_with fail
        go_ret
        exact ⟨rfl, hGW.trans hH⟩
    · have hone := ro_errs l k d 0 (by rw [inB, decide_eq_true k1, decide_eq_true k2]; rfl)
      go_wp2_with fail
      rw [show (decide (d < 0) || decide (4000 < d)) = false by rw [decide_eq_false (show ¬ d < 0 by omega), decide_eq_false (show ¬ 4000 < d by omega)]; rfl]
      refine (when_f _ _).mono ?_; rintro e w' ⟨rfl, rfl⟩
      have hA := (G.refl w12 none).alloc (.cells #[.int .i64 (raE l), .int .i64 (keyE k), .int .i64 0] 36)
      have hI := hI.quiet hA
      have hZ := hZ.quiet hA
      clear hA
      go_wp2_with fail
      refine (errs_c [raE l, keyE k, 0] _ _ (Rd.new #[.int .i64 (raE l), .int .i64 (keyE k), .int .i64 0] rfl (by show 3 ≤ maxLen; decide)) (by simp)).mono ?_; rintro e w' ⟨rfl, rfl⟩
      generalize w12.alloc (.cells #[.int .i64 (raE l), .int .i64 (keyE k), .int .i64 0] 36) = w13 at hI hZ ⊢
      by_cases hE : errsOf [raE l, keyE k, 0] = 0
      · obtain ⟨hN, hQ⟩ := hone.1 hE
        have hXG : raG (l.find? (raF k d)) = X := hN.symm.trans HX.out
        rw [hE]
        clear hE hone hN
        cases hs : (l.find? (raF k d)).isSome with
        | false =>
          rw [hs] at hQ
          have hQ2 : roE l k d = 8 := hQ
          rw [hQ2]
          clear hQ hQ2
          go_wp2_with fail
          refine (rateAt_c v l k d _ hI.1 HLOK.out (by omega)).mono ?_; rintro e w14 ⟨rfl, hH⟩
          rw [hXG, hs, show raC X = #[.string X.1, .int .i64 X.2.1, .int .i64 X.2.2.1, .int .i64 X.2.2.2.1, .int .i64 X.2.2.2.2.1, .int .i64 X.2.2.2.2.2.1, .int .i64 X.2.2.2.2.2.2] from rfl]
          have hI := hI.quiet hH
          have hZ := hZ.quiet hH
          have hA := (G.refl w14 none).alloc (.cells #[.string X.1, .int .i64 X.2.1, .int .i64 X.2.2.1, .int .i64 X.2.2.2.1, .int .i64 X.2.2.2.2.1, .int .i64 X.2.2.2.2.2.1, .int .i64 X.2.2.2.2.2.2] 79)
          have hY : Bk (w14.alloc (.cells #[.string X.1, .int .i64 X.2.1, .int .i64 X.2.2.1, .int .i64 X.2.2.2.1, .int .i64 X.2.2.2.2.1, .int .i64 X.2.2.2.2.2.1, .int .i64 X.2.2.2.2.2.2] 79)) w14.heap.size 79 (raC X) := Bk.new _ _ _
          have hI := hI.quiet hA
          have hZ := hZ.quiet hA
          clear hH hA hXG hs
          go_wp2_with fail
          generalize w14.alloc (.cells #[.string X.1, .int .i64 X.2.1, .int .i64 X.2.2.1, .int .i64 X.2.2.2.1, .int .i64 X.2.2.2.2.1, .int .i64 X.2.2.2.2.2.1, .int .i64 X.2.2.2.2.2.2] 79) = w15 at hI hZ hY ⊢
          generalize w14.heap.size = gy at hY ⊢
          have y0 : w15.cell? ⟨gy, 0, none⟩ = some (.string X.1) := hY.cell 0
          have y1 : w15.cell? ⟨gy, 1, none⟩ = some (.int .i64 X.2.1) := hY.cell 1
          have y2 : w15.cell? ⟨gy, 2, none⟩ = some (.int .i64 X.2.2.1) := hY.cell 2
          have y3 : w15.cell? ⟨gy, 3, none⟩ = some (.int .i64 X.2.2.2.1) := hY.cell 3
          have y4 : w15.cell? ⟨gy, 4, none⟩ = some (.int .i64 X.2.2.2.2.1) := hY.cell 4
          have y5 : w15.cell? ⟨gy, 5, none⟩ = some (.int .i64 X.2.2.2.2.2.1) := hY.cell 5
          have y6 : w15.cell? ⟨gy, 6, none⟩ = some (.int .i64 X.2.2.2.2.2.2) := hY.cell 6
          go_still_tail 4, (by kernel_rfl)
          still_call ((when_t 8 _).mono fun _ _ h => ⟨h.1, h.2.symm⟩)
          refine wpStill_nil ?_
          change wpList _ _ _ _ _ w15.drew
          have hI := hI.quiet ((G.refl w15 none).drew)
          have hZ := hZ.quiet ((G.refl w15 none).drew)
          clear hY y0 y1 y2 y3 y4 y5 y6
          generalize w15.drew = w16 at hI hZ ⊢
          have x0 : Bk (w16.setRow gz #[.string X.1, .int .i64 X.2.1, .int .i64 X.2.2.1, .int .i64 X.2.2.2.1, .int .i64 X.2.2.2.2.1, .int .i64 X.2.2.2.2.2.1, .int .i64 X.2.2.2.2.2.2]) gx 79 (raC X) := hI.2.2.1.farRow (show gx ≠ gz by omega) _
          have z0 : Bk (w16.setRow gz #[.string X.1, .int .i64 X.2.1, .int .i64 X.2.2.1, .int .i64 X.2.2.2.1, .int .i64 X.2.2.2.2.1, .int .i64 X.2.2.2.2.2.1, .int .i64 X.2.2.2.2.2.2]) gz 79 (raC X) := hZ.setRow _
          have hGW : G W (w16.setRow gz #[.string X.1, .int .i64 X.2.1, .int .i64 X.2.2.1, .int .i64 X.2.2.2.1, .int .i64 X.2.2.2.2.1, .int .i64 X.2.2.2.2.2.1, .int .i64 X.2.2.2.2.2.2]) none := hI.2.2.2.setRow (.inl hgw) _
          have hnq : ∀ w : World, (binOp .eql 79 (.agg #[.string X.1, .int .i64 X.2.1, .int .i64 X.2.2.1, .int .i64 X.2.2.2.1, .int .i64 X.2.2.2.2.1, .int .i64 X.2.2.2.2.2.1, .int .i64 X.2.2.2.2.2.2]) (.agg #[.string X.1, .int .i64 X.2.1, .int .i64 X.2.2.1, .int .i64 X.2.2.2.1, .int .i64 X.2.2.2.2.1, .int .i64 X.2.2.2.2.2.1, .int .i64 X.2.2.2.2.2.2])).run Tryd.prog w = .ok (.bool true) w := fun w => ra_eql X w
          have c0 : (w16.setRow gz #[.string X.1, .int .i64 X.2.1, .int .i64 X.2.2.1, .int .i64 X.2.2.2.1, .int .i64 X.2.2.2.2.1, .int .i64 X.2.2.2.2.2.1, .int .i64 X.2.2.2.2.2.2]).cell? ⟨gx, 0, none⟩ = some (.string X.1) := x0.cell 0
          have c1 : (w16.setRow gz #[.string X.1, .int .i64 X.2.1, .int .i64 X.2.2.1, .int .i64 X.2.2.2.1, .int .i64 X.2.2.2.2.1, .int .i64 X.2.2.2.2.2.1, .int .i64 X.2.2.2.2.2.2]).cell? ⟨gx, 1, none⟩ = some (.int .i64 X.2.1) := x0.cell 1
          have c2 : (w16.setRow gz #[.string X.1, .int .i64 X.2.1, .int .i64 X.2.2.1, .int .i64 X.2.2.2.1, .int .i64 X.2.2.2.2.1, .int .i64 X.2.2.2.2.2.1, .int .i64 X.2.2.2.2.2.2]).cell? ⟨gx, 2, none⟩ = some (.int .i64 X.2.2.1) := x0.cell 2
          have c3 : (w16.setRow gz #[.string X.1, .int .i64 X.2.1, .int .i64 X.2.2.1, .int .i64 X.2.2.2.1, .int .i64 X.2.2.2.2.1, .int .i64 X.2.2.2.2.2.1, .int .i64 X.2.2.2.2.2.2]).cell? ⟨gx, 3, none⟩ = some (.int .i64 X.2.2.2.1) := x0.cell 3
          have c4 : (w16.setRow gz #[.string X.1, .int .i64 X.2.1, .int .i64 X.2.2.1, .int .i64 X.2.2.2.1, .int .i64 X.2.2.2.2.1, .int .i64 X.2.2.2.2.2.1, .int .i64 X.2.2.2.2.2.2]).cell? ⟨gx, 4, none⟩ = some (.int .i64 X.2.2.2.2.1) := x0.cell 4
          have c5 : (w16.setRow gz #[.string X.1, .int .i64 X.2.1, .int .i64 X.2.2.1, .int .i64 X.2.2.2.1, .int .i64 X.2.2.2.2.1, .int .i64 X.2.2.2.2.2.1, .int .i64 X.2.2.2.2.2.2]).cell? ⟨gx, 5, none⟩ = some (.int .i64 X.2.2.2.2.2.1) := x0.cell 5
          have c6 : (w16.setRow gz #[.string X.1, .int .i64 X.2.1, .int .i64 X.2.2.1, .int .i64 X.2.2.2.1, .int .i64 X.2.2.2.2.1, .int .i64 X.2.2.2.2.2.1, .int .i64 X.2.2.2.2.2.2]).cell? ⟨gx, 6, none⟩ = some (.int .i64 X.2.2.2.2.2.2) := x0.cell 6
          have e0 : (w16.setRow gz #[.string X.1, .int .i64 X.2.1, .int .i64 X.2.2.1, .int .i64 X.2.2.2.1, .int .i64 X.2.2.2.2.1, .int .i64 X.2.2.2.2.2.1, .int .i64 X.2.2.2.2.2.2]).cell? ⟨gz, 0, none⟩ = some (.string X.1) := z0.cell 0
          have e1 : (w16.setRow gz #[.string X.1, .int .i64 X.2.1, .int .i64 X.2.2.1, .int .i64 X.2.2.2.1, .int .i64 X.2.2.2.2.1, .int .i64 X.2.2.2.2.2.1, .int .i64 X.2.2.2.2.2.2]).cell? ⟨gz, 1, none⟩ = some (.int .i64 X.2.1) := z0.cell 1
          have e2 : (w16.setRow gz #[.string X.1, .int .i64 X.2.1, .int .i64 X.2.2.1, .int .i64 X.2.2.2.1, .int .i64 X.2.2.2.2.1, .int .i64 X.2.2.2.2.2.1, .int .i64 X.2.2.2.2.2.2]).cell? ⟨gz, 2, none⟩ = some (.int .i64 X.2.2.1) := z0.cell 2
          have e3 : (w16.setRow gz #[.string X.1, .int .i64 X.2.1, .int .i64 X.2.2.1, .int .i64 X.2.2.2.1, .int .i64 X.2.2.2.2.1, .int .i64 X.2.2.2.2.2.1, .int .i64 X.2.2.2.2.2.2]).cell? ⟨gz, 3, none⟩ = some (.int .i64 X.2.2.2.1) := z0.cell 3
          have e4 : (w16.setRow gz #[.string X.1, .int .i64 X.2.1, .int .i64 X.2.2.1, .int .i64 X.2.2.2.1, .int .i64 X.2.2.2.2.1, .int .i64 X.2.2.2.2.2.1, .int .i64 X.2.2.2.2.2.2]).cell? ⟨gz, 4, none⟩ = some (.int .i64 X.2.2.2.2.1) := z0.cell 4
          have e5 : (w16.setRow gz #[.string X.1, .int .i64 X.2.1, .int .i64 X.2.2.1, .int .i64 X.2.2.2.1, .int .i64 X.2.2.2.2.1, .int .i64 X.2.2.2.2.2.1, .int .i64 X.2.2.2.2.2.2]).cell? ⟨gz, 5, none⟩ = some (.int .i64 X.2.2.2.2.2.1) := z0.cell 5
          have e6 : (w16.setRow gz #[.string X.1, .int .i64 X.2.1, .int .i64 X.2.2.1, .int .i64 X.2.2.2.1, .int .i64 X.2.2.2.2.1, .int .i64 X.2.2.2.2.2.1, .int .i64 X.2.2.2.2.2.2]).cell? ⟨gz, 6, none⟩ = some (.int .i64 X.2.2.2.2.2.2) := z0.cell 6
          clear hI x0 z0
          go_wp2_with (refine wpList_store_row rfl 79 _ _ rfl gz #[.string X.1, .int .i64 X.2.1, .int .i64 X.2.2.1, .int .i64 X.2.2.2.1, .int .i64 X.2.2.2.2.1, .int .i64 X.2.2.2.2.2.1, .int .i64 X.2.2.2.2.2.2] rfl rfl 79 _ hZ (ra_info X) rfl (ra_oneB X) ?_)
          refine (priced_c _).mono ?_; rintro e w17 ⟨rfl, hH⟩
          go_wp2_with fail
          go_ret
          exact ⟨rfl, hGW.trans hH⟩
        | true =>
          rw [hs] at hQ
          have hQ2 : roE l k d = 0 := hQ
          rw [hQ2]
          clear hQ hQ2
          go_wp2_with fail
          refine (rateAt_c v l k d _ hI.1 HLOK.out (by omega)).mono ?_; rintro e w14 ⟨rfl, hH⟩
          rw [hXG, hs, show raC X = #[.string X.1, .int .i64 X.2.1, .int .i64 X.2.2.1, .int .i64 X.2.2.2.1, .int .i64 X.2.2.2.2.1, .int .i64 X.2.2.2.2.2.1, .int .i64 X.2.2.2.2.2.2] from rfl]
          have hI := hI.quiet hH
          have hZ := hZ.quiet hH
          have hA := (G.refl w14 none).alloc (.cells #[.string X.1, .int .i64 X.2.1, .int .i64 X.2.2.1, .int .i64 X.2.2.2.1, .int .i64 X.2.2.2.2.1, .int .i64 X.2.2.2.2.2.1, .int .i64 X.2.2.2.2.2.2] 79)
          have hY : Bk (w14.alloc (.cells #[.string X.1, .int .i64 X.2.1, .int .i64 X.2.2.1, .int .i64 X.2.2.2.1, .int .i64 X.2.2.2.2.1, .int .i64 X.2.2.2.2.2.1, .int .i64 X.2.2.2.2.2.2] 79)) w14.heap.size 79 (raC X) := Bk.new _ _ _
          have hI := hI.quiet hA
          have hZ := hZ.quiet hA
          clear hH hA hXG hs
          go_wp2_with fail
          generalize w14.alloc (.cells #[.string X.1, .int .i64 X.2.1, .int .i64 X.2.2.1, .int .i64 X.2.2.2.1, .int .i64 X.2.2.2.2.1, .int .i64 X.2.2.2.2.2.1, .int .i64 X.2.2.2.2.2.2] 79) = w15 at hI hZ hY ⊢
          generalize w14.heap.size = gy at hY ⊢
          have y0 : w15.cell? ⟨gy, 0, none⟩ = some (.string X.1) := hY.cell 0
          have y1 : w15.cell? ⟨gy, 1, none⟩ = some (.int .i64 X.2.1) := hY.cell 1
          have y2 : w15.cell? ⟨gy, 2, none⟩ = some (.int .i64 X.2.2.1) := hY.cell 2
          have y3 : w15.cell? ⟨gy, 3, none⟩ = some (.int .i64 X.2.2.2.1) := hY.cell 3
          have y4 : w15.cell? ⟨gy, 4, none⟩ = some (.int .i64 X.2.2.2.2.1) := hY.cell 4
          have y5 : w15.cell? ⟨gy, 5, none⟩ = some (.int .i64 X.2.2.2.2.2.1) := hY.cell 5
          have y6 : w15.cell? ⟨gy, 6, none⟩ = some (.int .i64 X.2.2.2.2.2.2) := hY.cell 6
          go_still_tail 4, (by kernel_rfl)
          still_call ((when_f 8 _).mono fun _ _ h => ⟨h.1, h.2.symm⟩)
          refine wpStill_nil ?_
          change wpList _ _ _ _ _ w15.drew
          have hI := hI.quiet ((G.refl w15 none).drew)
          have hZ := hZ.quiet ((G.refl w15 none).drew)
          clear hY y0 y1 y2 y3 y4 y5 y6
          generalize w15.drew = w16 at hI hZ ⊢
          have x0 : Bk (w16.setRow gz #[.string X.1, .int .i64 X.2.1, .int .i64 X.2.2.1, .int .i64 X.2.2.2.1, .int .i64 X.2.2.2.2.1, .int .i64 X.2.2.2.2.2.1, .int .i64 X.2.2.2.2.2.2]) gx 79 (raC X) := hI.2.2.1.farRow (show gx ≠ gz by omega) _
          have z0 : Bk (w16.setRow gz #[.string X.1, .int .i64 X.2.1, .int .i64 X.2.2.1, .int .i64 X.2.2.2.1, .int .i64 X.2.2.2.2.1, .int .i64 X.2.2.2.2.2.1, .int .i64 X.2.2.2.2.2.2]) gz 79 (raC X) := hZ.setRow _
          have hGW : G W (w16.setRow gz #[.string X.1, .int .i64 X.2.1, .int .i64 X.2.2.1, .int .i64 X.2.2.2.1, .int .i64 X.2.2.2.2.1, .int .i64 X.2.2.2.2.2.1, .int .i64 X.2.2.2.2.2.2]) none := hI.2.2.2.setRow (.inl hgw) _
          have hnq : ∀ w : World, (binOp .eql 79 (.agg #[.string X.1, .int .i64 X.2.1, .int .i64 X.2.2.1, .int .i64 X.2.2.2.1, .int .i64 X.2.2.2.2.1, .int .i64 X.2.2.2.2.2.1, .int .i64 X.2.2.2.2.2.2]) (.agg #[.string X.1, .int .i64 X.2.1, .int .i64 X.2.2.1, .int .i64 X.2.2.2.1, .int .i64 X.2.2.2.2.1, .int .i64 X.2.2.2.2.2.1, .int .i64 X.2.2.2.2.2.2])).run Tryd.prog w = .ok (.bool true) w := fun w => ra_eql X w
          have c0 : (w16.setRow gz #[.string X.1, .int .i64 X.2.1, .int .i64 X.2.2.1, .int .i64 X.2.2.2.1, .int .i64 X.2.2.2.2.1, .int .i64 X.2.2.2.2.2.1, .int .i64 X.2.2.2.2.2.2]).cell? ⟨gx, 0, none⟩ = some (.string X.1) := x0.cell 0
          have c1 : (w16.setRow gz #[.string X.1, .int .i64 X.2.1, .int .i64 X.2.2.1, .int .i64 X.2.2.2.1, .int .i64 X.2.2.2.2.1, .int .i64 X.2.2.2.2.2.1, .int .i64 X.2.2.2.2.2.2]).cell? ⟨gx, 1, none⟩ = some (.int .i64 X.2.1) := x0.cell 1
          have c2 : (w16.setRow gz #[.string X.1, .int .i64 X.2.1, .int .i64 X.2.2.1, .int .i64 X.2.2.2.1, .int .i64 X.2.2.2.2.1, .int .i64 X.2.2.2.2.2.1, .int .i64 X.2.2.2.2.2.2]).cell? ⟨gx, 2, none⟩ = some (.int .i64 X.2.2.1) := x0.cell 2
          have c3 : (w16.setRow gz #[.string X.1, .int .i64 X.2.1, .int .i64 X.2.2.1, .int .i64 X.2.2.2.1, .int .i64 X.2.2.2.2.1, .int .i64 X.2.2.2.2.2.1, .int .i64 X.2.2.2.2.2.2]).cell? ⟨gx, 3, none⟩ = some (.int .i64 X.2.2.2.1) := x0.cell 3
          have c4 : (w16.setRow gz #[.string X.1, .int .i64 X.2.1, .int .i64 X.2.2.1, .int .i64 X.2.2.2.1, .int .i64 X.2.2.2.2.1, .int .i64 X.2.2.2.2.2.1, .int .i64 X.2.2.2.2.2.2]).cell? ⟨gx, 4, none⟩ = some (.int .i64 X.2.2.2.2.1) := x0.cell 4
          have c5 : (w16.setRow gz #[.string X.1, .int .i64 X.2.1, .int .i64 X.2.2.1, .int .i64 X.2.2.2.1, .int .i64 X.2.2.2.2.1, .int .i64 X.2.2.2.2.2.1, .int .i64 X.2.2.2.2.2.2]).cell? ⟨gx, 5, none⟩ = some (.int .i64 X.2.2.2.2.2.1) := x0.cell 5
          have c6 : (w16.setRow gz #[.string X.1, .int .i64 X.2.1, .int .i64 X.2.2.1, .int .i64 X.2.2.2.1, .int .i64 X.2.2.2.2.1, .int .i64 X.2.2.2.2.2.1, .int .i64 X.2.2.2.2.2.2]).cell? ⟨gx, 6, none⟩ = some (.int .i64 X.2.2.2.2.2.2) := x0.cell 6
          have e0 : (w16.setRow gz #[.string X.1, .int .i64 X.2.1, .int .i64 X.2.2.1, .int .i64 X.2.2.2.1, .int .i64 X.2.2.2.2.1, .int .i64 X.2.2.2.2.2.1, .int .i64 X.2.2.2.2.2.2]).cell? ⟨gz, 0, none⟩ = some (.string X.1) := z0.cell 0
          have e1 : (w16.setRow gz #[.string X.1, .int .i64 X.2.1, .int .i64 X.2.2.1, .int .i64 X.2.2.2.1, .int .i64 X.2.2.2.2.1, .int .i64 X.2.2.2.2.2.1, .int .i64 X.2.2.2.2.2.2]).cell? ⟨gz, 1, none⟩ = some (.int .i64 X.2.1) := z0.cell 1
          have e2 : (w16.setRow gz #[.string X.1, .int .i64 X.2.1, .int .i64 X.2.2.1, .int .i64 X.2.2.2.1, .int .i64 X.2.2.2.2.1, .int .i64 X.2.2.2.2.2.1, .int .i64 X.2.2.2.2.2.2]).cell? ⟨gz, 2, none⟩ = some (.int .i64 X.2.2.1) := z0.cell 2
          have e3 : (w16.setRow gz #[.string X.1, .int .i64 X.2.1, .int .i64 X.2.2.1, .int .i64 X.2.2.2.1, .int .i64 X.2.2.2.2.1, .int .i64 X.2.2.2.2.2.1, .int .i64 X.2.2.2.2.2.2]).cell? ⟨gz, 3, none⟩ = some (.int .i64 X.2.2.2.1) := z0.cell 3
          have e4 : (w16.setRow gz #[.string X.1, .int .i64 X.2.1, .int .i64 X.2.2.1, .int .i64 X.2.2.2.1, .int .i64 X.2.2.2.2.1, .int .i64 X.2.2.2.2.2.1, .int .i64 X.2.2.2.2.2.2]).cell? ⟨gz, 4, none⟩ = some (.int .i64 X.2.2.2.2.1) := z0.cell 4
          have e5 : (w16.setRow gz #[.string X.1, .int .i64 X.2.1, .int .i64 X.2.2.1, .int .i64 X.2.2.2.1, .int .i64 X.2.2.2.2.1, .int .i64 X.2.2.2.2.2.1, .int .i64 X.2.2.2.2.2.2]).cell? ⟨gz, 5, none⟩ = some (.int .i64 X.2.2.2.2.2.1) := z0.cell 5
          have e6 : (w16.setRow gz #[.string X.1, .int .i64 X.2.1, .int .i64 X.2.2.1, .int .i64 X.2.2.2.1, .int .i64 X.2.2.2.2.1, .int .i64 X.2.2.2.2.2.1, .int .i64 X.2.2.2.2.2.2]).cell? ⟨gz, 6, none⟩ = some (.int .i64 X.2.2.2.2.2.2) := z0.cell 6
          clear hI x0 z0
          go_wp2_with (refine wpList_store_row rfl 79 _ _ rfl gz #[.string X.1, .int .i64 X.2.1, .int .i64 X.2.2.1, .int .i64 X.2.2.2.1, .int .i64 X.2.2.2.2.1, .int .i64 X.2.2.2.2.2.1, .int .i64 X.2.2.2.2.2.2] rfl rfl 79 _ hZ (ra_info X) rfl (ra_oneB X) ?_)
          refine (priced_c _).mono ?_; rintro e w17 ⟨rfl, hH⟩
          go_wp2_with fail
          go_ret
          exact ⟨rfl, hGW.trans hH⟩
      · obtain ⟨hN, hQ⟩ := hone.2 hE
        have hXZ : X = raZ := HX.out.symm.trans hN
        have hE' : (errsOf [raE l, keyE k, 0] == 0) = false := by simpa using hE
        rw [hQ]
        subst hXZ
        clear hE hone hN hQ HX
        generalize errsOf [raE l, keyE k, 0] = E at hE' ⊢
        have hnq : ∀ w : World, (binOp .eql 79 (.agg #[.string ⟨#[]⟩, .int .i64 0, .int .i64 0, .int .i64 0, .int .i64 0, .int .i64 0, .int .i64 0]) (.agg #[.string ⟨#[]⟩, .int .i64 0, .int .i64 0, .int .i64 0, .int .i64 0, .int .i64 0, .int .i64 0])).run Tryd.prog w = .ok (.bool true) w := fun w => ra_eql raZ w
        have x0 := hI.2.2.1
        have c0 : w13.cell? ⟨gx, 0, none⟩ = some (.string ⟨#[]⟩) := x0.cell 0
        have c1 : w13.cell? ⟨gx, 1, none⟩ = some (.int .i64 0) := x0.cell 1
        have c2 : w13.cell? ⟨gx, 2, none⟩ = some (.int .i64 0) := x0.cell 2
        have c3 : w13.cell? ⟨gx, 3, none⟩ = some (.int .i64 0) := x0.cell 3
        have c4 : w13.cell? ⟨gx, 4, none⟩ = some (.int .i64 0) := x0.cell 4
        have c5 : w13.cell? ⟨gx, 5, none⟩ = some (.int .i64 0) := x0.cell 5
        have c6 : w13.cell? ⟨gx, 6, none⟩ = some (.int .i64 0) := x0.cell 6
        have z0 : w13.cell? ⟨gz, 0, none⟩ = some (.string ⟨#[]⟩) := hZ.cell 0
        have z1 : w13.cell? ⟨gz, 1, none⟩ = some (.int .i64 0) := hZ.cell 1
        have z2 : w13.cell? ⟨gz, 2, none⟩ = some (.int .i64 0) := hZ.cell 2
        have z3 : w13.cell? ⟨gz, 3, none⟩ = some (.int .i64 0) := hZ.cell 3
        have z4 : w13.cell? ⟨gz, 4, none⟩ = some (.int .i64 0) := hZ.cell 4
        have z5 : w13.cell? ⟨gz, 5, none⟩ = some (.int .i64 0) := hZ.cell 5
        have z6 : w13.cell? ⟨gz, 6, none⟩ = some (.int .i64 0) := hZ.cell 6
        have hGW := hI.2.2.2
        clear hI hZ x0
        go_wp2_with fail
        refine (priced_c _).mono ?_; rintro e w15 ⟨rfl, hH⟩
        go_wp2_with fail
        go_ret
        exact ⟨rfl, hGW.trans hH⟩
end Go.Proofs.YtndeidcddlmhbaaDoor

/- What the row's list of variables gives; a start that meets it. -/
namespace Go.Proofs.YtndeidcddlmhbaaDoor
open Go.ChangeShapes Go.WideShapes Go.ChangeAt Go.RowKit

theorem own : ownKnob Tryd.prog.godebug = none := by kernel_rfl
theorem c1 : Tryd.prog.cellsOf 3 = 1 := by kernel_rfl
def laidL : List (String × DataW Unit) := [("unicode/utf8.acceptRanges", Rows.laid_unicode_utf8_acceptRanges), ("unicode/utf8.first", Rows.laid_unicode_utf8_first)]
/-- A start that meets the list: what the door's run leaves, Go's own table laid by hand. -/
noncomputable def laidWorld (os : Os) : World :=
  { World.doorLaid Tryd.prog 200 os with heap := (World.doorLaid Tryd.prog 200 os).heap.modify 1 fun
      | .cells _ t fr => .cells (Lib.firstTab.map (Value.int .u8)).toArray t fr
      | o => o }
set_option maxRecDepth 100000 in
theorem laid_met (os : Os) : laidMetH Tryd.prog laidL ((laidWorld os).forCall (fun _ _ => 0) ⟨#[], #[.slice none 0 0], []⟩).memory :=
  laidMetH_of_parts3 (fuel := 8) (laidMet_of_run' 8 (by kernel_rfl) (by kernel_rfl)) (by kernel_rfl) (by kernel_rfl)

/-! ### The row's last step -/
section
variable {H : Type} {enc : TypeId × Value → H} {P : Program}
theorem post_quiet {f : Func} {s : ChangeSpec} {apart fresh handsOn again : Bool} {W W' : World} {args : Array Value} {v : Value} {ds gs : List (DataW H)} {before pa pv : List MemPlace}
    (hW : DataW.Whole enc P f.params.toList s.vars apart W args.toList ds gs before) (hg : G W W' none)
    (hres : ∀ (b : Nat) (sp : Nat → Bool) (hd : Bool), DataW.TrodAll enc P W' b sp hd f.resultTypes.toList (v.resultList f.resultTypes.size) (s.fn H (ds ++ gs)).results [])
    (hargs : ∀ sp : Nat → Bool, (∀ p ∈ before, sp p.block = true) → DataW.TrodAll enc P W' 0 sp true f.params.toList args.toList (s.fn H (ds ++ gs)).args pa)
    (hvars : ∀ sp : Nat → Bool, (∀ p ∈ before, sp p.block = true) → DataW.TrodVars enc P W' sp s.vars (s.fn H (ds ++ gs)).vars pv)
    (hps : before = pa ++ pv)
    (hok : ∀ (j : Nat) (t : TypeId) (r : Value), f.resultTypes[j]? = some t → (v.resultList f.resultTypes.size)[j]? = some r → Value.okWide P W' .any 0 t r) :
    s.post enc P f apart fresh handsOn again W args v W' := by
  have hb := hg.below
  have lt : ∀ p ∈ before, p.block < W.heap.size := fun p hp => hW.lt p hp
  have old : ∀ p ∈ before, (fun b => decide (b < W.heap.size)) p.block = true := fun p hp => decide_eq_true (lt p hp)
  have sub : ∀ p, p ∈ ([] ++ pa) ++ pv → p ∈ before := fun p hp => by rw [hps]; simpa using hp
  refine ⟨ds, gs, before, [], pa, pv, hW, hres _ _ _, hargs _ old, hvars _ old, World.keptBut_mono (fun p hp => ⟨hp, .inr (by rw [← List.mem_append, ← hps]; exact hp)⟩) (hb.frame (· ∈ before)), fun _ => ⟨hok, ?_⟩⟩
  obtain ⟨_, _, _, _, _, hz, hn⟩ := hW
  refine ⟨_, _, ([] ++ pa) ++ pv, ⟨[] ++ pa, pv, trodAll_append (hargs _ fun _ _ => rfl) (hres _ _ _), hvars _ fun _ _ => rfl, rfl, fun b off hp => ?_, fun ha => ?_⟩, fun p hp _ => sub p hp⟩
  · rw [hb.frozen (lt _ (sub _ hp))]
    exact hz b off (sub _ hp)
  · have h := hn ha
    rw [hps] at h
    simpa using h
end
theorem laidOut : laidOutB Tryd.prog = true := by kernel_rfl
theorem wf64 {n : Int} (h : (Lit.int .i64 n).wf = true) : -9223372036854775808 ≤ n ∧ n ≤ 9223372036854775807 := by
  have h1 : IntKind.i64.min = -9223372036854775808 := rfl
  have h2 : IntKind.i64.max = 9223372036854775807 := rfl
  simp only [Lit.wf, Bool.and_eq_true, decide_eq_true_eq] at h
  omega
set_option maxRecDepth 100000 in
theorem has_of_ok {W : World} {base : Nat} {a : Addr} {n c : Nat} (hok : Value.okWide Tryd.prog W .any base 22 (.slice (some a) n c)) : a.spot = none ∧ a.block < W.heap.size := by
  simp only [Value.okWide, Tryd.underlying22, Cell.okWide, Cell.ok] at hok
  obtain ⟨_, _, _, h2, row, cells, h3, _⟩ := hok
  refine ⟨h2, ?_⟩
  unfold World.shape? at h3
  cases hh : W.heap[a.block]? with
  | none => simp [hh] at h3
  | some o => exact (Array.getElem?_eq_some_iff.1 hh).1
set_option maxRecDepth 100000 in
/-- The list of numbers that came in, as the walk wants it. -/
theorem rd_of_trod {H : Type} {enc : TypeId × Value → H} {W : World} {base : Nat} {v : Value} {d : DataW H} {p : List MemPlace} (hok : Value.okWide Tryd.prog W .any base 22 v) (h : DataW.Trod enc Tryd.prog W 0 (fun _ => true) true 22 v d p) :
    ∃ (a : Option Addr) (n c : Nat) (zs : List Int), v = .slice a n c ∧ Rd W 1 (.slice a n c) n (zs.map (Value.int .i64)) ∧ ∀ z ∈ zs, -9223372036854775808 ≤ z ∧ z ≤ 9223372036854775807 := by
  obtain ⟨a0, len, cap, rfl⟩ := okWide_slice Tryd.underlying22 hok
  obtain ⟨fuel, hf⟩ := h
  rcases open_ints Tryd.underlying22 Tryd.underlying3 c1 hf with ⟨hcs, _⟩ | ⟨a, len', cap', zs, hcs, _, hl, hm, hz, _, hcell, hw⟩
  · have hcs' : [Value.slice a0 len cap] = [Value.slice none 0 0] := hcs
    injection hcs' with e _
    injection e with e1 e2 e3
    subst e1; subst e2; subst e3
    exact ⟨none, 0, 0, [], rfl, ⟨none, 0, rfl, Nat.le_refl _, Nat.zero_le _, rfl, fun _ => ⟨rfl, rfl⟩, fun b hb => by cases hb⟩, fun z hz => by cases hz⟩
  · have hcs' : [Value.slice a0 len cap] = [Value.slice (some a) len' cap'] := hcs
    injection hcs' with e _
    injection e with e1 e2 e3
    subst e1; subst e2; subst e3
    simp only [if_true] at hz
    obtain ⟨s1, s2⟩ := has_of_ok hok
    refine ⟨some a, len, cap, zs.take len, rfl, ⟨some a, cap, rfl, hl, hm, by simp; omega, (fun e => by cases e), fun b hb => ?_⟩, fun z hz' => wf64 (hw z (List.mem_of_mem_take hz'))⟩
    obtain rfl := Option.some.inj hb
    refine ⟨s1, s2, fun j u hj => ?_⟩
    rw [List.getElem?_map] at hj
    obtain ⟨z, hz1, rfl⟩ := Option.map_eq_some_iff.1 hj
    have hjl := (List.getElem?_eq_some_iff.1 hz1).1
    simp at hjl
    have hc := hcell j (by omega)
    have hz2 : zs[j]? = some z := by rw [← hz1, List.getElem?_take, if_pos (by omega)]
    rw [List.getD, hz2] at hc
    have ha : a.add j = ⟨a.block, a.off + j, none⟩ := by
      obtain ⟨ab, ao, asp⟩ := a
      dsimp only at s1
      subst s1
      exact add_at ab ao j
    rw [ha] at hc
    exact hc
end Go.Proofs.YtndeidcddlmhbaaDoor
