/- The law PartsCost. -/
import Derived.Test.YtgofeigebldkiaaDoorPrF
import Derived.Test.YtgofeigebldkiaaDoorGenF
import Derived.Test.YtgofeigebldkiaaDoorErrs
namespace Go.Proofs.YtgofeigebldkiaaDoor
open Go.RowKit

theorem when_ite (b : Bool) (n : Int) : (if b = true then n else 0) = 0 ↔ b = false ∨ n = 0 := by cases b <;> simp
theorem parts_one (l : List Ext) (k : ByteArray) (d : Int) (n : Nat) (q2 : Int) (h0 : exE l = 0) (hq : q2 = if inB d 1 120 = true then 0 else 1) : errsOf [if (!(eoF l k n).2) = true then 8 else 0, q2] = ecE l k d := by
  subst hq
  unfold ecE eoF
  rw [if_pos h0]
  cases hf : l.find? (exF k) with
  | none => rfl
  | some x =>
    cases hi : inB d 1 120 with
    | true => rfl
    | false => rfl
theorem parts_n (l : List Ext) (k : ByteArray) (d : Int) (m : Nat) (h0 : exE l = 0) (hm : min (max d 0) 120 = (m : Int)) (hE : ecE l k d = 0) : (eoF l k m).1 = ecN l k d := by
  have hE2 := hE
  unfold ecE at hE
  rw [if_pos h0] at hE
  split at hE
  · rename_i hs
    split at hE
    · rename_i hi
      obtain ⟨x, hx⟩ := Option.isSome_iff_exists.1 hs
      unfold inB at hi
      simp only [Bool.and_eq_true, decide_eq_true_eq] at hi
      have hmd : d.toNat = m := by omega
      rw [ecN, if_pos hE2, hx, ← hmd]
      exact eo_cost h0 hx hi.1
    · omega
  · omega
theorem parts_two (l : List Fe) (a b : ByteArray) (h0 : errsOf [feE l, keyE a, keyE b] ≠ 0) : foE l a b = errsOf [feE l, keyE a, keyE b] ∧ foN l a b = 0 := by
  have he : foE l a b = errsOf [feE l, keyE a, keyE b] := by
    show _ = (if feE l = 0 then (if keyE a = 0 then (if keyE b = 0 then 0 else keyE b) else keyE a) else feE l)
    have h1 : ¬ ((if feE l = 0 then (if keyE a = 0 then (if keyE b = 0 then 0 else keyE b) else keyE a) else feE l) = 0) := h0
    unfold foE
    by_cases hf : feE l = 0
    · rw [if_pos hf] at h1 ⊢
      rw [if_pos hf]
      cases ha : keyB a with
      | false => simp [keyE, ha]
      | true =>
        cases hb : keyB b with
        | false => simp [keyE, ha, hb]
        | true => simp [keyE, ha, hb] at h1
    · rw [if_neg hf, if_neg hf]
  exact ⟨he, by rw [foN, if_neg (by rw [he]; exact h0)]⟩
theorem parts_two0 (l : List Fe) (a b : ByteArray) (h0 : errsOf [feE l, keyE a, keyE b] = 0) : feE l = 0 ∧ (if (!(ffF l a b).2) = true then (8 : Int) else 0) = foE l a b ∧ (ffF l a b).1 = foN l a b := by
  have h1 : (if feE l = 0 then (if keyE a = 0 then (if keyE b = 0 then 0 else keyE b) else keyE a) else feE l) = 0 := h0
  by_cases hf : feE l = 0
  · rw [if_pos hf] at h1
    have ha : keyB a = true := by
      cases ha : keyB a with
      | true => rfl
      | false => simp [keyE, ha] at h1
    have hb : keyB b = true := by
      cases hb : keyB b with
      | true => rfl
      | false => simp [keyE, ha, hb] at h1
    refine ⟨hf, ?_⟩
    have he : foE l a b = if eqB a b = true then 0 else if (l.find? (feF a b)).isSome = true then 0 else 8 := by simp [foE, hf, ha, hb]
    cases hq : eqB a b with
    | true =>
      have hn := fe_loop hf hq
      have he0 : foE l a b = 0 := by rw [he, if_pos hq]
      constructor
      · rw [he0, ffF, hn]; simp [hq]
      · rw [foN, if_pos he0, ffF, hn]
    | false =>
      cases hff : l.find? (feF a b) with
      | none =>
        have he0 : foE l a b = 8 := by rw [he, hq, hff]; rfl
        constructor
        · rw [he0, ffF, hff]; simp [hq]
        · rw [foN, if_neg (by rw [he0]; decide), ffF, hff]
      | some x =>
        have he0 : foE l a b = 0 := by rw [he, hq, hff]; rfl
        constructor
        · rw [he0, ffF, hff]; rfl
        · rw [foN, if_pos he0, ffF, hff]
  · rw [if_neg hf] at h1
    exact absurd h1 hf
/-- What stands throughout: the two lists. -/
def LInv (W : World) (v : Value) (l : List Ext) (v2 : Value) (l2 : List Fe) (w : World) : Prop := RdR w 4 exC v l ∧ RdR w 3 feC v2 l2 ∧ G W w none
theorem LInv.quiet {W w w' : World} {v : Value} {l : List Ext} {v2 : Value} {l2 : List Fe} (h : LInv W v l v2 l2 w) (hG : G w w' none) : LInv W v l v2 l2 w' := ⟨h.1.quiet hG, h.2.1.quiet hG, h.2.2.trans hG⟩
set_option maxRecDepth 100000 in
set_option maxHeartbeats 16000000 in
theorem partsCost_c (a : Option Addr) (n c : Nat) (zs : List Int) (W : World) (hr : Rd W 1 (.slice a n c) n (zs.map (Value.int .i64))) (hz : ∀ z ∈ zs, -9223372036854775808 ≤ z ∧ z ≤ 9223372036854775807) :
    Calls Tryd.prog 4 #[.slice a n c] W fun e W' => e = .returned (.bool true) ∧ G W W' none := by
  have hSB : SB (W.alloc (.cells #[.slice a n c, .int .i64 0] 25)) W.heap.size 0 := by
    have hB := Bk.new W 25 #[.slice a n c, .int .i64 0]
    refine ⟨0, a, n, c, zs, Nat.le_refl _, hr.quiet ((G.refl _ _).alloc _), fun b e => ?_, hz, hB.cell 0, hB.cell 1, hB.free 1, hB.lt⟩
    obtain ⟨a', c', e', r1, r2, r3, r4, r5⟩ := hr
    cases e'
    exact (r5 b e).2.1
  have hG0 : G W (W.alloc (.cells #[.slice a n c, .int .i64 0] 25)) (some W.heap.size) := (G.refl _ _).alloc _
  clear hr hz
  go_enter Tryd.func4, Tryd.ntmps4
  go_wp2_with fail
  refine (extras_c _ W.heap.size 0 hSB (by omega)).mono ?_; rintro e w1 ⟨v, l, rfl, hrd, hlok, hln, hvb, hSB1, hG1⟩
  have hvs : v.ownBlock ≠ some W.heap.size := fun e => by have := hvb _ e; simp at this; omega
  have hG01 := hG0.trans hG1
  clear hSB hG0 hG1 hvb
  go_wp2_with fail
  refine (some_c _ _ _ [⟨#[109, 97, 112]⟩, ⟨#[115, 101, 97, 116]⟩, ⟨#[115, 101, 97, 116]⟩, ⟨#[110, 111, 110, 101]⟩] _ _ _ (hSB1.alloc _) (by omega) (by decide) (by decide) (Rd.newAt _ rfl rfl (by decide)) (hSB1.newAt _ _ _ (Nat.le_refl _))).mono ?_; rintro e w2 ⟨k, rfl, hk, hSB2, hG2⟩
  have hrd2 := (hrd.quiet ((G.refl w1 none).alloc _)).grown hG2 (fun q e => by cases e; exact hvs)
  have hG02 := (hG01.alloc _).trans hG2
  clear hSB1 hG01 hG2 hrd hk
  go_wp2_with fail
  refine (pick_c _ _ _ [1, 2, 7, 120, 0, 121] _ _ _ (hSB2.alloc _) (by omega) (by decide) (by decide) (Rd.newAt _ rfl rfl (by decide)) (hSB2.newAt _ _ _ (Nat.le_refl _))).mono ?_; rintro e w3 ⟨d, rfl, hd, hSB3, hG3⟩
  have hd0 : 0 ≤ d ∧ d ≤ 121 := by simp only [List.mem_cons, List.mem_nil_iff, or_false] at hd; omega
  obtain ⟨d0, d1⟩ := hd0
  have hrd3 := (hrd2.quiet ((G.refl w2 none).alloc _)).grown hG3 (fun q e => by cases e; exact hvs)
  have hG03 := (hG02.alloc _).trans hG3
  clear hSB2 hG02 hG3 hrd2 hd
  go_wp2_with fail
  refine (fees_c _ W.heap.size _ hSB3 (by omega)).mono ?_; rintro e w4 ⟨v2, l2, rfl, hrdf, hfok, hfn, hv2b, hSB4, hG4⟩
  have hWz := hG03.size
  have hv2s : v2.ownBlock ≠ some W.heap.size := fun e => by have := hv2b _ e; have := hSB3.lt; omega
  have hrd4 := hrd3.grown hG4 (fun q e => by cases e; exact hvs)
  have hG04 := hG03.trans hG4
  clear hSB3 hG03 hG4 hrd3 hv2b
  go_wp2_with fail
  refine (some_c _ _ _ [⟨#[115, 49]⟩, ⟨#[115, 49]⟩, ⟨#[115, 50]⟩, ⟨#[115, 51]⟩, ⟨#[]⟩] _ _ _ (hSB4.alloc _) (by omega) (by decide) (by decide) (Rd.newAt _ rfl rfl (by decide)) (hSB4.newAt _ _ _ (Nat.le_refl _))).mono ?_; rintro e w5 ⟨x, rfl, hx, hSB5, hG5⟩
  have hxs := small_pick hx (by decide)
  have hrd5 := (hrd4.quiet ((G.refl w4 none).alloc _)).grown hG5 (fun q e => by cases e; exact hvs)
  have hrf5 := (hrdf.quiet ((G.refl w4 none).alloc _)).grown hG5 (fun q e => by cases e; exact hv2s)
  have hG05 := (hG04.alloc _).trans hG5
  clear hSB4 hG04 hG5 hrd4 hrdf hx
  go_wp2_with fail
  refine (some_c _ _ _ [⟨#[115, 49]⟩, ⟨#[115, 50]⟩, ⟨#[115, 51]⟩, ⟨#[65]⟩] _ _ _ (hSB5.alloc _) (by omega) (by decide) (by decide) (Rd.newAt _ rfl rfl (by decide)) (hSB5.newAt _ _ _ (Nat.le_refl _))).mono ?_; rintro e w6 ⟨y, rfl, hy, hSB6, hG6⟩
  have hys := small_pick hy (by decide)
  have hI : LInv W v l v2 l2 w6 := ⟨(hrd5.quiet ((G.refl w5 none).alloc _)).grown hG6 (fun q e => by cases e; exact hvs), (hrf5.quiet ((G.refl w5 none).alloc _)).grown hG6 (fun q e => by cases e; exact hv2s), G.own ((hG05.alloc _).trans hG6) (Nat.le_refl _)⟩
  clear hSB5 hG05 hG6 hrd5 hrf5 hy hSB6 hvs hv2s hWz
  go_wp2_with fail
  refine (extraCost_c v l k d _ hI.1 hlok (by omega)).mono ?_; rintro e w7 ⟨rfl, hG7⟩
  have hI := hI.quiet hG7
  clear hG7
  go_wp2_with fail
  refine (feeOf_c v2 l2 x y _ hI.2.1 hfok (by omega) hxs hys).mono ?_; rintro e w8 ⟨rfl, hG8⟩
  have hI := hI.quiet hG8
  clear hG8
  go_wp2_with fail
  refine (extrasFault_c v l _ hI.1 hlok (by omega)).mono ?_; rintro e w9 ⟨rfl, hG9⟩
  have hI := hI.quiet hG9
  clear hG9
  go_wp2_with fail
  refine (feesFault_c v2 l2 _ hI.2.1 hfok (by omega)).mono ?_; rintro e w10 ⟨rfl, hG10⟩
  have hI := hI.quiet hG10
  clear hG10
  go_wp2_with fail
  refine (checkExtras_c v l _ hI.1 hlok (by omega)).mono ?_; rintro e w11 ⟨rfl, hG11⟩
  have hI := hI.quiet hG11
  clear hG11
  go_wp2_with fail
  refine (checkFees_c v2 l2 _ hI.2.1 hfok (by omega)).mono ?_; rintro e w12 ⟨rfl, hG12⟩
  have hI := hI.quiet hG12
  clear hG12
  by_cases h0 : exE l = 0
  · obtain ⟨m, hm⟩ := Int.eq_ofNat_of_zero_le (show 0 ≤ min (max d 0) 120 by omega)
    have hm120 : m ≤ 120 := by omega
    rw [h0]
    rcases (show d < 1 ∨ 1 ≤ d by omega) with hd1 | hd1
    · have hone := parts_one l k d m 1 h0 (by rw [inB, decide_eq_false (show ¬ 1 ≤ d by omega)]; rfl)
      have hN0 := parts_n l k d m h0 hm
      have hN1 : ecE l k d ≠ 0 → ecN l k d = 0 := fun h => by rw [ecN, if_neg h]
      go_wp2_with fail
      refine (extraOf_c v l k m _ hI.1 h0 hm120).mono ?_; rintro e w13 ⟨rfl, hG13⟩
      have hI := hI.quiet hG13
      clear hG13
      generalize eoF l k m = eo at hone hN0 ⊢
      obtain ⟨n1, ok1⟩ := eo
      dsimp only at hone hN0 ⊢
      go_wp2_with fail
      refine (when_c _ _ _).mono ?_; rintro e w' ⟨rfl, rfl⟩
      generalize (if (!ok1) = true then (8 : Int) else 0) = q1 at hone ⊢
      go_wp2_with fail
      refine (when_t _ _).mono ?_; rintro e w' ⟨rfl, rfl⟩
      go_wp2_with fail
      refine (errs_c [q1, 1] _ _ (Rd.new #[.int .i64 q1, .int .i64 1] rfl (by show 2 ≤ maxLen; decide)) (by simp)).mono ?_; rintro e w' ⟨rfl, rfl⟩
      rw [hone]
      have hI := hI.quiet ((G.refl w13 none).alloc (.cells #[.int .i64 q1, .int .i64 1] 33))
      generalize w13.alloc (.cells #[.int .i64 q1, .int .i64 1] 33) = w14 at hI ⊢
      clear hone
      by_cases hE : ecE l k d = 0
      · have e1 := hN0 hE
        rw [hE, ← e1]
        clear hN0 hN1 e1 hE h0 hm hm120
        go_wp2_with fail
        refine (keyFault_c x _ hxs).mono ?_; rintro e u1 ⟨rfl, hH1⟩
        have hI := hI.quiet hH1
        clear hH1
        go_wp2_with fail
        refine (keyFault_c y _ hys).mono ?_; rintro e u2 ⟨rfl, hH2⟩
        have hI := hI.quiet hH2
        clear hH2
        go_wp2_with fail
        refine (errs_c [feE l2, keyE x, keyE y] _ _ (Rd.new #[.int .i64 (feE l2), .int .i64 (keyE x), .int .i64 (keyE y)] rfl (by show 3 ≤ maxLen; decide)) (by simp)).mono ?_; rintro e w' ⟨rfl, rfl⟩
        have hI := hI.quiet ((G.refl u2 none).alloc (.cells #[.int .i64 (feE l2), .int .i64 (keyE x), .int .i64 (keyE y)] 33))
        generalize u2.alloc (.cells #[.int .i64 (feE l2), .int .i64 (keyE x), .int .i64 (keyE y)] 33) = u3 at hI ⊢
        by_cases hX : errsOf [feE l2, keyE x, keyE y] = 0
        · obtain ⟨_, t2, t3⟩ := parts_two0 l2 x y hX
          rw [hX]
          go_wp2_with fail
          refine (feeFrom_c v2 l2 x y _ hI.2.1 (by omega)).mono ?_; rintro e u4 ⟨rfl, hH4⟩
          have hI := hI.quiet hH4
          clear hH4
          rw [t3]
          generalize (ffF l2 x y).2 = ok2 at t2 ⊢
          go_wp2_with fail
          refine (when_c _ _ _).mono ?_; rintro e w' ⟨rfl, rfl⟩
          rw [t2]
          clear t2 t3 hX
          generalize foE l2 x y = E2
          generalize foN l2 x y = N2
          go_wp2_with fail
          refine (priced_c _).mono ?_; rintro e u5 ⟨rfl, hH5⟩
          go_wp2_with fail
          go_ret
          exact ⟨rfl, hI.2.2.trans hH5⟩
        · obtain ⟨t2, t3⟩ := parts_two l2 x y hX
          have hX' : (errsOf [feE l2, keyE x, keyE y] == 0) = false := by simpa using hX
          rw [t2, t3]
          clear t2 t3 hX
          generalize errsOf [feE l2, keyE x, keyE y] = E2 at hX' ⊢
          go_wp2_with fail
          refine (priced_c _).mono ?_; rintro e u5 ⟨rfl, hH5⟩
          go_wp2_with fail
          go_ret
          exact ⟨rfl, hI.2.2.trans hH5⟩
      · have e1 := hN1 hE
        have hE' : (ecE l k d == 0) = false := by simpa using hE
        rw [e1]
        clear hN0 hN1 e1 hE h0 hm hm120
        generalize ecE l k d = E1 at hE' ⊢
        go_wp2_with fail
        refine (keyFault_c x _ hxs).mono ?_; rintro e u1 ⟨rfl, hH1⟩
        have hI := hI.quiet hH1
        clear hH1
        go_wp2_with fail
        refine (keyFault_c y _ hys).mono ?_; rintro e u2 ⟨rfl, hH2⟩
        have hI := hI.quiet hH2
        clear hH2
        go_wp2_with fail
        refine (errs_c [feE l2, keyE x, keyE y] _ _ (Rd.new #[.int .i64 (feE l2), .int .i64 (keyE x), .int .i64 (keyE y)] rfl (by show 3 ≤ maxLen; decide)) (by simp)).mono ?_; rintro e w' ⟨rfl, rfl⟩
        have hI := hI.quiet ((G.refl u2 none).alloc (.cells #[.int .i64 (feE l2), .int .i64 (keyE x), .int .i64 (keyE y)] 33))
        generalize u2.alloc (.cells #[.int .i64 (feE l2), .int .i64 (keyE x), .int .i64 (keyE y)] 33) = u3 at hI ⊢
        by_cases hX : errsOf [feE l2, keyE x, keyE y] = 0
        · obtain ⟨_, t2, t3⟩ := parts_two0 l2 x y hX
          rw [hX]
          go_wp2_with fail
          refine (feeFrom_c v2 l2 x y _ hI.2.1 (by omega)).mono ?_; rintro e u4 ⟨rfl, hH4⟩
          have hI := hI.quiet hH4
          clear hH4
          rw [t3]
          generalize (ffF l2 x y).2 = ok2 at t2 ⊢
          go_wp2_with fail
          refine (when_c _ _ _).mono ?_; rintro e w' ⟨rfl, rfl⟩
          rw [t2]
          clear t2 t3 hX
          generalize foE l2 x y = E2
          generalize foN l2 x y = N2
          go_wp2_with fail
          refine (priced_c _).mono ?_; rintro e u5 ⟨rfl, hH5⟩
          go_wp2_with fail
          go_ret
          exact ⟨rfl, hI.2.2.trans hH5⟩
        · obtain ⟨t2, t3⟩ := parts_two l2 x y hX
          have hX' : (errsOf [feE l2, keyE x, keyE y] == 0) = false := by simpa using hX
          rw [t2, t3]
          clear t2 t3 hX
          generalize errsOf [feE l2, keyE x, keyE y] = E2 at hX' ⊢
          go_wp2_with fail
          refine (priced_c _).mono ?_; rintro e u5 ⟨rfl, hH5⟩
          go_wp2_with fail
          go_ret
          exact ⟨rfl, hI.2.2.trans hH5⟩
    · rcases (show 120 < d ∨ d ≤ 120 by omega) with hd2 | hd2
      · have hone := parts_one l k d m 1 h0 (by rw [inB, decide_eq_false (show ¬ d ≤ 120 by omega), Bool.and_false]; rfl)
        have hN0 := parts_n l k d m h0 hm
        have hN1 : ecE l k d ≠ 0 → ecN l k d = 0 := fun h => by rw [ecN, if_neg h]
        go_wp2_with fail
        refine (extraOf_c v l k m _ hI.1 h0 hm120).mono ?_; rintro e w13 ⟨rfl, hG13⟩
        have hI := hI.quiet hG13
        clear hG13
        generalize eoF l k m = eo at hone hN0 ⊢
        obtain ⟨n1, ok1⟩ := eo
        dsimp only at hone hN0 ⊢
        go_wp2_with fail
        refine (when_c _ _ _).mono ?_; rintro e w' ⟨rfl, rfl⟩
        generalize (if (!ok1) = true then (8 : Int) else 0) = q1 at hone ⊢
        go_wp2_with fail
        refine (when_t _ _).mono ?_; rintro e w' ⟨rfl, rfl⟩
        go_wp2_with fail
        refine (errs_c [q1, 1] _ _ (Rd.new #[.int .i64 q1, .int .i64 1] rfl (by show 2 ≤ maxLen; decide)) (by simp)).mono ?_; rintro e w' ⟨rfl, rfl⟩
        rw [hone]
        have hI := hI.quiet ((G.refl w13 none).alloc (.cells #[.int .i64 q1, .int .i64 1] 33))
        generalize w13.alloc (.cells #[.int .i64 q1, .int .i64 1] 33) = w14 at hI ⊢
        clear hone
        by_cases hE : ecE l k d = 0
        · have e1 := hN0 hE
          rw [hE, ← e1]
          clear hN0 hN1 e1 hE h0 hm hm120
          go_wp2_with fail
          refine (keyFault_c x _ hxs).mono ?_; rintro e u1 ⟨rfl, hH1⟩
          have hI := hI.quiet hH1
          clear hH1
          go_wp2_with fail
          refine (keyFault_c y _ hys).mono ?_; rintro e u2 ⟨rfl, hH2⟩
          have hI := hI.quiet hH2
          clear hH2
          go_wp2_with fail
          refine (errs_c [feE l2, keyE x, keyE y] _ _ (Rd.new #[.int .i64 (feE l2), .int .i64 (keyE x), .int .i64 (keyE y)] rfl (by show 3 ≤ maxLen; decide)) (by simp)).mono ?_; rintro e w' ⟨rfl, rfl⟩
          have hI := hI.quiet ((G.refl u2 none).alloc (.cells #[.int .i64 (feE l2), .int .i64 (keyE x), .int .i64 (keyE y)] 33))
          generalize u2.alloc (.cells #[.int .i64 (feE l2), .int .i64 (keyE x), .int .i64 (keyE y)] 33) = u3 at hI ⊢
          by_cases hX : errsOf [feE l2, keyE x, keyE y] = 0
          · obtain ⟨_, t2, t3⟩ := parts_two0 l2 x y hX
            rw [hX]
            go_wp2_with fail
            refine (feeFrom_c v2 l2 x y _ hI.2.1 (by omega)).mono ?_; rintro e u4 ⟨rfl, hH4⟩
            have hI := hI.quiet hH4
            clear hH4
            rw [t3]
            generalize (ffF l2 x y).2 = ok2 at t2 ⊢
            go_wp2_with fail
            refine (when_c _ _ _).mono ?_; rintro e w' ⟨rfl, rfl⟩
            rw [t2]
            clear t2 t3 hX
            generalize foE l2 x y = E2
            generalize foN l2 x y = N2
            go_wp2_with fail
            refine (priced_c _).mono ?_; rintro e u5 ⟨rfl, hH5⟩
            go_wp2_with fail
            go_ret
            exact ⟨rfl, hI.2.2.trans hH5⟩
          · obtain ⟨t2, t3⟩ := parts_two l2 x y hX
            have hX' : (errsOf [feE l2, keyE x, keyE y] == 0) = false := by simpa using hX
            rw [t2, t3]
            clear t2 t3 hX
            generalize errsOf [feE l2, keyE x, keyE y] = E2 at hX' ⊢
            go_wp2_with fail
            refine (priced_c _).mono ?_; rintro e u5 ⟨rfl, hH5⟩
            go_wp2_with fail
            go_ret
            exact ⟨rfl, hI.2.2.trans hH5⟩
        · have e1 := hN1 hE
          have hE' : (ecE l k d == 0) = false := by simpa using hE
          rw [e1]
          clear hN0 hN1 e1 hE h0 hm hm120
          generalize ecE l k d = E1 at hE' ⊢
          go_wp2_with fail
          refine (keyFault_c x _ hxs).mono ?_; rintro e u1 ⟨rfl, hH1⟩
          have hI := hI.quiet hH1
          clear hH1
          go_wp2_with fail
          refine (keyFault_c y _ hys).mono ?_; rintro e u2 ⟨rfl, hH2⟩
          have hI := hI.quiet hH2
          clear hH2
          go_wp2_with fail
          refine (errs_c [feE l2, keyE x, keyE y] _ _ (Rd.new #[.int .i64 (feE l2), .int .i64 (keyE x), .int .i64 (keyE y)] rfl (by show 3 ≤ maxLen; decide)) (by simp)).mono ?_; rintro e w' ⟨rfl, rfl⟩
          have hI := hI.quiet ((G.refl u2 none).alloc (.cells #[.int .i64 (feE l2), .int .i64 (keyE x), .int .i64 (keyE y)] 33))
          generalize u2.alloc (.cells #[.int .i64 (feE l2), .int .i64 (keyE x), .int .i64 (keyE y)] 33) = u3 at hI ⊢
          by_cases hX : errsOf [feE l2, keyE x, keyE y] = 0
          · obtain ⟨_, t2, t3⟩ := parts_two0 l2 x y hX
            rw [hX]
            go_wp2_with fail
            refine (feeFrom_c v2 l2 x y _ hI.2.1 (by omega)).mono ?_; rintro e u4 ⟨rfl, hH4⟩
            have hI := hI.quiet hH4
            clear hH4
            rw [t3]
            generalize (ffF l2 x y).2 = ok2 at t2 ⊢
            go_wp2_with fail
            refine (when_c _ _ _).mono ?_; rintro e w' ⟨rfl, rfl⟩
            rw [t2]
            clear t2 t3 hX
            generalize foE l2 x y = E2
            generalize foN l2 x y = N2
            go_wp2_with fail
            refine (priced_c _).mono ?_; rintro e u5 ⟨rfl, hH5⟩
            go_wp2_with fail
            go_ret
            exact ⟨rfl, hI.2.2.trans hH5⟩
          · obtain ⟨t2, t3⟩ := parts_two l2 x y hX
            have hX' : (errsOf [feE l2, keyE x, keyE y] == 0) = false := by simpa using hX
            rw [t2, t3]
            clear t2 t3 hX
            generalize errsOf [feE l2, keyE x, keyE y] = E2 at hX' ⊢
            go_wp2_with fail
            refine (priced_c _).mono ?_; rintro e u5 ⟨rfl, hH5⟩
            go_wp2_with fail
            go_ret
            exact ⟨rfl, hI.2.2.trans hH5⟩
      · have hone := parts_one l k d m 0 h0 (by rw [inB, decide_eq_true (show 1 ≤ d by omega), decide_eq_true (show d ≤ 120 by omega)]; rfl)
        have hN0 := parts_n l k d m h0 hm
        have hN1 : ecE l k d ≠ 0 → ecN l k d = 0 := fun h => by rw [ecN, if_neg h]
        go_wp2_with fail
        refine (extraOf_c v l k m _ hI.1 h0 hm120).mono ?_; rintro e w13 ⟨rfl, hG13⟩
        have hI := hI.quiet hG13
        clear hG13
        generalize eoF l k m = eo at hone hN0 ⊢
        obtain ⟨n1, ok1⟩ := eo
        dsimp only at hone hN0 ⊢
        go_wp2_with fail
        refine (when_c _ _ _).mono ?_; rintro e w' ⟨rfl, rfl⟩
        generalize (if (!ok1) = true then (8 : Int) else 0) = q1 at hone ⊢
        go_wp2_with fail
        rw [show (decide (d < 1) || decide (120 < d)) = false by rw [decide_eq_false (show ¬ d < 1 by omega), decide_eq_false (show ¬ 120 < d by omega)]; rfl]
        refine (when_f _ _).mono ?_; rintro e w' ⟨rfl, rfl⟩
        go_wp2_with fail
        refine (errs_c [q1, 0] _ _ (Rd.new #[.int .i64 q1, .int .i64 0] rfl (by show 2 ≤ maxLen; decide)) (by simp)).mono ?_; rintro e w' ⟨rfl, rfl⟩
        rw [hone]
        have hI := hI.quiet ((G.refl w13 none).alloc (.cells #[.int .i64 q1, .int .i64 0] 33))
        generalize w13.alloc (.cells #[.int .i64 q1, .int .i64 0] 33) = w14 at hI ⊢
        clear hone
        by_cases hE : ecE l k d = 0
        · have e1 := hN0 hE
          rw [hE, ← e1]
          clear hN0 hN1 e1 hE h0 hm hm120
          go_wp2_with fail
          refine (keyFault_c x _ hxs).mono ?_; rintro e u1 ⟨rfl, hH1⟩
          have hI := hI.quiet hH1
          clear hH1
          go_wp2_with fail
          refine (keyFault_c y _ hys).mono ?_; rintro e u2 ⟨rfl, hH2⟩
          have hI := hI.quiet hH2
          clear hH2
          go_wp2_with fail
          refine (errs_c [feE l2, keyE x, keyE y] _ _ (Rd.new #[.int .i64 (feE l2), .int .i64 (keyE x), .int .i64 (keyE y)] rfl (by show 3 ≤ maxLen; decide)) (by simp)).mono ?_; rintro e w' ⟨rfl, rfl⟩
          have hI := hI.quiet ((G.refl u2 none).alloc (.cells #[.int .i64 (feE l2), .int .i64 (keyE x), .int .i64 (keyE y)] 33))
          generalize u2.alloc (.cells #[.int .i64 (feE l2), .int .i64 (keyE x), .int .i64 (keyE y)] 33) = u3 at hI ⊢
          by_cases hX : errsOf [feE l2, keyE x, keyE y] = 0
          · obtain ⟨_, t2, t3⟩ := parts_two0 l2 x y hX
            rw [hX]
            go_wp2_with fail
            refine (feeFrom_c v2 l2 x y _ hI.2.1 (by omega)).mono ?_; rintro e u4 ⟨rfl, hH4⟩
            have hI := hI.quiet hH4
            clear hH4
            rw [t3]
            generalize (ffF l2 x y).2 = ok2 at t2 ⊢
            go_wp2_with fail
            refine (when_c _ _ _).mono ?_; rintro e w' ⟨rfl, rfl⟩
            rw [t2]
            clear t2 t3 hX
            generalize foE l2 x y = E2
            generalize foN l2 x y = N2
            go_wp2_with fail
            refine (priced_c _).mono ?_; rintro e u5 ⟨rfl, hH5⟩
            go_wp2_with fail
            go_ret
            exact ⟨rfl, hI.2.2.trans hH5⟩
          · obtain ⟨t2, t3⟩ := parts_two l2 x y hX
            have hX' : (errsOf [feE l2, keyE x, keyE y] == 0) = false := by simpa using hX
            rw [t2, t3]
            clear t2 t3 hX
            generalize errsOf [feE l2, keyE x, keyE y] = E2 at hX' ⊢
            go_wp2_with fail
            refine (priced_c _).mono ?_; rintro e u5 ⟨rfl, hH5⟩
            go_wp2_with fail
            go_ret
            exact ⟨rfl, hI.2.2.trans hH5⟩
        · have e1 := hN1 hE
          have hE' : (ecE l k d == 0) = false := by simpa using hE
          rw [e1]
          clear hN0 hN1 e1 hE h0 hm hm120
          generalize ecE l k d = E1 at hE' ⊢
          go_wp2_with fail
          refine (keyFault_c x _ hxs).mono ?_; rintro e u1 ⟨rfl, hH1⟩
          have hI := hI.quiet hH1
          clear hH1
          go_wp2_with fail
          refine (keyFault_c y _ hys).mono ?_; rintro e u2 ⟨rfl, hH2⟩
          have hI := hI.quiet hH2
          clear hH2
          go_wp2_with fail
          refine (errs_c [feE l2, keyE x, keyE y] _ _ (Rd.new #[.int .i64 (feE l2), .int .i64 (keyE x), .int .i64 (keyE y)] rfl (by show 3 ≤ maxLen; decide)) (by simp)).mono ?_; rintro e w' ⟨rfl, rfl⟩
          have hI := hI.quiet ((G.refl u2 none).alloc (.cells #[.int .i64 (feE l2), .int .i64 (keyE x), .int .i64 (keyE y)] 33))
          generalize u2.alloc (.cells #[.int .i64 (feE l2), .int .i64 (keyE x), .int .i64 (keyE y)] 33) = u3 at hI ⊢
          by_cases hX : errsOf [feE l2, keyE x, keyE y] = 0
          · obtain ⟨_, t2, t3⟩ := parts_two0 l2 x y hX
            rw [hX]
            go_wp2_with fail
            refine (feeFrom_c v2 l2 x y _ hI.2.1 (by omega)).mono ?_; rintro e u4 ⟨rfl, hH4⟩
            have hI := hI.quiet hH4
            clear hH4
            rw [t3]
            generalize (ffF l2 x y).2 = ok2 at t2 ⊢
            go_wp2_with fail
            refine (when_c _ _ _).mono ?_; rintro e w' ⟨rfl, rfl⟩
            rw [t2]
            clear t2 t3 hX
            generalize foE l2 x y = E2
            generalize foN l2 x y = N2
            go_wp2_with fail
            refine (priced_c _).mono ?_; rintro e u5 ⟨rfl, hH5⟩
            go_wp2_with fail
            go_ret
            exact ⟨rfl, hI.2.2.trans hH5⟩
          · obtain ⟨t2, t3⟩ := parts_two l2 x y hX
            have hX' : (errsOf [feE l2, keyE x, keyE y] == 0) = false := by simpa using hX
            rw [t2, t3]
            clear t2 t3 hX
            generalize errsOf [feE l2, keyE x, keyE y] = E2 at hX' ⊢
            go_wp2_with fail
            refine (priced_c _).mono ?_; rintro e u5 ⟨rfl, hH5⟩
            go_wp2_with fail
            go_ret
            exact ⟨rfl, hI.2.2.trans hH5⟩
  · have hE1 : ecE l k d = exE l := by simp [ecE, h0]
    have hN1 : ecN l k d = 0 := by rw [ecN, if_neg (by rw [hE1]; exact h0)]
    have h0' : (exE l == 0) = false := by simpa using h0
    rw [hE1, hN1]
    clear hE1 hN1 h0
    generalize exE l = E1 at h0' ⊢
    go_wp2_with fail
    refine (keyFault_c x _ hxs).mono ?_; rintro e u1 ⟨rfl, hH1⟩
    have hI := hI.quiet hH1
    clear hH1
    go_wp2_with fail
    refine (keyFault_c y _ hys).mono ?_; rintro e u2 ⟨rfl, hH2⟩
    have hI := hI.quiet hH2
    clear hH2
    go_wp2_with fail
    refine (errs_c [feE l2, keyE x, keyE y] _ _ (Rd.new #[.int .i64 (feE l2), .int .i64 (keyE x), .int .i64 (keyE y)] rfl (by show 3 ≤ maxLen; decide)) (by simp)).mono ?_; rintro e w' ⟨rfl, rfl⟩
    have hI := hI.quiet ((G.refl u2 none).alloc (.cells #[.int .i64 (feE l2), .int .i64 (keyE x), .int .i64 (keyE y)] 33))
    generalize u2.alloc (.cells #[.int .i64 (feE l2), .int .i64 (keyE x), .int .i64 (keyE y)] 33) = u3 at hI ⊢
    by_cases hX : errsOf [feE l2, keyE x, keyE y] = 0
    · obtain ⟨_, t2, t3⟩ := parts_two0 l2 x y hX
      rw [hX]
      go_wp2_with fail
      refine (feeFrom_c v2 l2 x y _ hI.2.1 (by omega)).mono ?_; rintro e u4 ⟨rfl, hH4⟩
      have hI := hI.quiet hH4
      clear hH4
      rw [t3]
      generalize (ffF l2 x y).2 = ok2 at t2 ⊢
      go_wp2_with fail
      refine (when_c _ _ _).mono ?_; rintro e w' ⟨rfl, rfl⟩
      rw [t2]
      clear t2 t3 hX
      generalize foE l2 x y = E2
      generalize foN l2 x y = N2
      go_wp2_with fail
      refine (priced_c _).mono ?_; rintro e u5 ⟨rfl, hH5⟩
      go_wp2_with fail
      go_ret
      exact ⟨rfl, hI.2.2.trans hH5⟩
    · obtain ⟨t2, t3⟩ := parts_two l2 x y hX
      have hX' : (errsOf [feE l2, keyE x, keyE y] == 0) = false := by simpa using hX
      rw [t2, t3]
      clear t2 t3 hX
      generalize errsOf [feE l2, keyE x, keyE y] = E2 at hX' ⊢
      go_wp2_with fail
      refine (priced_c _).mono ?_; rintro e u5 ⟨rfl, hH5⟩
      go_wp2_with fail
      go_ret
      exact ⟨rfl, hI.2.2.trans hH5⟩
end Go.Proofs.YtgofeigebldkiaaDoor
