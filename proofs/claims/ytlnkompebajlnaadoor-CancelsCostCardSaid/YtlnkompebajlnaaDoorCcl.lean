/- The law CancelsCost. -/
import Derived.Test.YtlnkompebajlnaaDoorGenB
import Derived.Test.YtlnkompebajlnaaDoorBkd
import Derived.Test.YtlnkompebajlnaaDoorErrs
namespace Go.Proofs.YtlnkompebajlnaaDoor
open Go.RowKit

theorem cf_errs (l : List Ti) (b : Bo) (c t : Int) (q : Int) (hq : q = if inB c 0 1000000000 = true then 0 else 1) : errsOf [tiE l, boE [b], q, momE t] = cfE l b c t := by
  subst hq
  unfold cfE momE
  show (if tiE l = 0 then (if boE [b] = 0 then (if (if inB c 0 1000000000 = true then (0 : Int) else 1) = 0 then (if (if momB t = true then (0 : Int) else 1) = 0 then 0 else (if momB t = true then 0 else 1)) else (if inB c 0 1000000000 = true then 0 else 1)) else boE [b]) else tiE l) = _
  cases inB c 0 1000000000 <;> cases momB t <;> simp
theorem cf_zero {l : List Ti} {b : Bo} {c t : Int} (h : cfE l b c t = 0) : tiE l = 0 ∧ boE [b] = 0 ∧ (0 ≤ c ∧ c ≤ 1000000000) ∧ (0 ≤ t ∧ t < 5761440) := by
  unfold cfE at h
  split at h
  · rename_i h1
    split at h
    · rename_i h2
      split at h
      · exact absurd h (by decide)
      · rename_i h3
        split at h
        · exact absurd h (by decide)
        · rename_i h4
          simp only [inB, Bool.not_eq_false, Bool.and_eq_true, decide_eq_true_eq] at h3
          simp only [momB, Bool.not_eq_false, Bool.and_eq_true, decide_eq_true_eq] at h4
          exact ⟨h1, h2, h3, h4⟩
    · rename_i h2; exact absurd h h2
  · rename_i h1; exact absurd h h1
/-- What stands throughout: the tiers, the booking. -/
def CInv (W : World) (v : Value) (l : List Ti) (g : Nat) (b : Bo) (w : World) : Prop := RdR w 2 tiC v l ∧ Bk w g 33 (boC b) ∧ G W w none
theorem CInv.quiet {W w w' : World} {v : Value} {l : List Ti} {g : Nat} {b : Bo} (h : CInv W v l g b w) (hG : G w w' none) : CInv W v l g b w' := ⟨h.1.quiet hG, h.2.1.quiet hG, h.2.2.trans hG⟩
set_option maxRecDepth 100000 in
set_option maxHeartbeats 16000000 in
theorem cancelsCost_c (a : Option Addr) (n c : Nat) (zs : List Int) (W : World) (hr : Rd W 1 (.slice a n c) n (zs.map (Value.int .i64))) (hz : ∀ z ∈ zs, -9223372036854775808 ≤ z ∧ z ≤ 9223372036854775807) :
    Calls Tryd.prog 4 #[.slice a n c] W fun e W' => e = .returned (.bool true) ∧ G W W' none := by
  have hSB : SB (W.alloc (.cells #[.slice a n c, .int .i64 0] 25)) W.heap.size 0 := by
    have hB := Bk.new W 25 #[.slice a n c, .int .i64 0]
    refine ⟨0, a, n, c, zs, Nat.le_refl _, hr.quiet ((G.refl _ _).alloc _), fun b e => ?_, hz, hB.cell 0, hB.cell 1, hB.free 1, hB.lt⟩
    obtain ⟨a', c', e', r1, r2, r3, r4, r5⟩ := hr
    cases e'
    exact (r5 b e).2.1
  have hG0 : G W (W.alloc (.cells #[.slice a n c, .int .i64 0] 25)) (some W.heap.size) := (G.refl _ _).alloc _
  clear hr hz
  go_enter Tryd.func4, Tryd.ntmps4
  go_wp2_with fail
  refine (tiers_c _ W.heap.size 0 hSB (by omega)).mono ?_; rintro e w1 ⟨v, l, rfl, hrd, hln, hvb, hSB1, hG1⟩
  have hvs : v.ownBlock ≠ some W.heap.size := fun e => by have := hvb _ e; simp at this; omega
  have hG01 := hG0.trans hG1
  clear hSB hG0 hG1 hvb
  go_wp2_with fail
  refine (more_c _ W.heap.size _ hSB1 (by omega)).mono ?_; rintro e w2 ⟨b, rfl, hb, hSB2, hG2⟩
  rw [show boC b = #[.string b.1, .string b.2.1, .int .i64 b.2.2.1, .int .i64 b.2.2.2.1, .int .i64 b.2.2.2.2.1, .int .i64 b.2.2.2.2.2] from rfl]
  have HB := Lib.hid hb
  have hrd2 := hrd.grown hG2 (fun q e => by cases e; exact hvs)
  have hG02 := hG01.trans hG2
  clear hSB1 hG01 hG2 hrd hb
  go_wp2_with fail
  refine (pick_c _ _ _ [0, 999, 10000, 1000000000, -1, 1000000001] _ _ _ (hSB2.alloc _) (by omega) (by decide) (by decide) (Rd.newAt _ rfl rfl (by decide)) (hSB2.newAt _ _ _ (Nat.le_refl _))).mono ?_; rintro e w3 ⟨c, rfl, hc, hSB3, hG3⟩
  have hc0 : -1 ≤ c ∧ c ≤ 1000000001 := by simp only [List.mem_cons, List.mem_nil_iff, or_false] at hc; omega
  obtain ⟨c0, c1⟩ := hc0
  have hrd3 := (hrd2.quiet ((G.refl w2 none).alloc _)).grown hG3 (fun q e => by cases e; exact hvs)
  have hG03 := (hG02.alloc _).trans hG3
  clear hSB2 hG02 hG3 hrd2 hc
  go_wp2_with fail
  refine (moment_c _ W.heap.size _ hSB3 (by omega)).mono ?_; rintro e w4 ⟨t, rfl, t0, t1, hSB4, hG4⟩
  have hrd4 := hrd3.grown hG4 (fun q e => by cases e; exact hvs)
  have hG04 := hG03.trans hG4
  clear hSB3 hG03 hG4 hrd3
  have hrd5 := hrd4.quiet ((G.refl w4 none).alloc (.cells #[.string b.1, .string b.2.1, .int .i64 b.2.2.1, .int .i64 b.2.2.2.1, .int .i64 b.2.2.2.2.1, .int .i64 b.2.2.2.2.2] 33))
  have hN5 : Bk (w4.alloc (.cells #[.string b.1, .string b.2.1, .int .i64 b.2.2.1, .int .i64 b.2.2.2.1, .int .i64 b.2.2.2.2.1, .int .i64 b.2.2.2.2.2] 33)) w4.heap.size 33 (boC b) := Bk.new _ _ _
  have hSB5 := hSB4.alloc (.cells #[.string b.1, .string b.2.1, .int .i64 b.2.2.1, .int .i64 b.2.2.2.1, .int .i64 b.2.2.2.2.1, .int .i64 b.2.2.2.2.2] 33)
  have hG05 := hG04.alloc (.cells #[.string b.1, .string b.2.1, .int .i64 b.2.2.1, .int .i64 b.2.2.2.1, .int .i64 b.2.2.2.2.1, .int .i64 b.2.2.2.2.2] 33)
  have hs4 := hSB4.lt
  clear hrd4 hSB4 hG04
  go_wp2_with fail
  refine (flip_c _ _ _ _ hSB5 (by omega) (by omega)).mono ?_; rintro e w6 ⟨q, rfl, hSB6, hG6⟩
  have hrd6 := hrd5.grown hG6 (fun q e => by cases e; exact hvs)
  have hN6 := hN5.grown hG6 (fun e => by have := Option.some.inj e; omega)
  have hG06 := hG05.trans hG6
  clear hrd5 hN5 hSB5 hG05 hG6
  generalize w4.heap.size = g at hN6 hs4 ⊢
  cases q with
  | false =>
    have hI : CInv W v l g b w6 := ⟨hrd6, hN6, G.own hG06 (Nat.le_refl _)⟩
    clear hrd6 hN6 hG06 hSB6 hs4
    go_wp2_with (refine wpList_load_row rfl 33 _ rfl g rfl 33 #[.string b.1, .string b.2.1, .int .i64 b.2.2.1, .int .i64 b.2.2.2.1, .int .i64 b.2.2.2.2.1, .int .i64 b.2.2.2.2.2] (0, 0) _ hI.2.1 Tryd.underlying33 rfl (bo_info b) ?_)
    refine (cancelFee_c v l b c t _ hI.1 (by omega) HB.out).mono ?_; rintro e x1 ⟨rfl, hH⟩
    have hI := hI.quiet hH
    clear hH
    go_wp2_with fail
    refine (tiersFault_c v l _ hI.1 (by omega)).mono ?_; rintro e x2 ⟨rfl, hH⟩
    have hI := hI.quiet hH
    clear hH
    go_wp2_with fail
    refine (checkTiers_c v l _ hI.1 (by omega)).mono ?_; rintro e x3 ⟨rfl, hH⟩
    have hI := hI.quiet hH
    clear hH
    go_wp2_with (refine wpList_load_row rfl 33 _ rfl g rfl 33 #[.string b.1, .string b.2.1, .int .i64 b.2.2.1, .int .i64 b.2.2.2.1, .int .i64 b.2.2.2.2.1, .int .i64 b.2.2.2.2.2] (0, 0) _ hI.2.1 Tryd.underlying33 rfl (bo_info b) ?_)
    have hN8 : Bk (x3.alloc (.cells #[.string b.1, .string b.2.1, .int .i64 b.2.2.1, .int .i64 b.2.2.2.1, .int .i64 b.2.2.2.2.1, .int .i64 b.2.2.2.2.2] 33)) x3.heap.size 33 (boC b) := Bk.new _ _ _
    have hI := hI.quiet ((G.refl x3 none).alloc (.cells #[.string b.1, .string b.2.1, .int .i64 b.2.2.1, .int .i64 b.2.2.2.1, .int .i64 b.2.2.2.2.1, .int .i64 b.2.2.2.2.2] 33))
    refine (bookingForm_c _ [b] _ (RdR.one hN8) (BoOk.one HB.out) (one_len b)).mono ?_; rintro e x4 ⟨rfl, hH⟩
    have hI := hI.quiet hH
    clear hH hN8
    rcases (show c < 0 ∨ (0 ≤ c ∧ 1000000000 < c) ∨ (0 ≤ c ∧ c ≤ 1000000000) by omega) with k1 | ⟨k1, k2⟩ | ⟨k1, k2⟩
    · have hone := cf_errs l b c t 1 (by rw [inB, decide_eq_false (show ¬ 0 ≤ c by omega)]; rfl)
      go_wp2_with fail
      refine (when_t _ _).mono ?_; rintro e w' ⟨rfl, rfl⟩
      have hI := hI.quiet ((G.refl x4 none).alloc (.cells #[.int .i64 (tiE l), .int .i64 (boE [b]), .int .i64 1, .int .i64 (momE t)] 38))
      go_wp2_with fail
      refine (momentFault_c _ _).mono ?_; rintro e w' ⟨rfl, rfl⟩
      go_wp2_with fail
      refine (errs_c [tiE l, boE [b], 1, momE t] _ _ (Rd.new #[.int .i64 (tiE l), .int .i64 (boE [b]), .int .i64 1, .int .i64 (momE t)] rfl (by show 4 ≤ maxLen; decide)) (by simp)).mono ?_; rintro e w' ⟨rfl, rfl⟩
      rw [hone]
      clear hone
      generalize x4.alloc (.cells #[.int .i64 (tiE l), .int .i64 (boE [b]), .int .i64 1, .int .i64 (momE t)] 38) = x5 at hI ⊢
      by_cases hE : cfE l b c t = 0
      · obtain ⟨z1, z2, ⟨z3, z4⟩, z5, z6⟩ := cf_zero hE
        obtain ⟨z7, z8⟩ := boE_ok z2
        have hN : cfN l b c t = c * cnP l (b.2.2.1 - t) / 1000 := by rw [cfN, if_pos hE]
        have Z1 := Lib.hid z1
        rw [hE, hN]
        clear hE hN z1 z2
        go_wp2_with (refine wpList_load_row rfl 33 _ rfl g rfl 33 #[.string b.1, .string b.2.1, .int .i64 b.2.2.1, .int .i64 b.2.2.2.1, .int .i64 b.2.2.2.2.1, .int .i64 b.2.2.2.2.2] (0, 0) _ hI.2.1 Tryd.underlying33 rfl (bo_info b) ?_)
        refine (cancelOf_c v l b c t _ hI.1 (by omega) Z1.out z7 z8 z5 z6 z3 z4).mono ?_; rintro e x6 ⟨rfl, hH⟩
        have hI := hI.quiet hH
        clear hH
        generalize c * cnP l (b.2.2.1 - t) / 1000 = N
        go_wp2_with fail
        refine (booked_c _).mono ?_; rintro e x7 ⟨rfl, hH⟩
        go_wp2_with fail
        go_ret
        exact ⟨rfl, hI.2.2.trans hH⟩
      · have hN : cfN l b c t = 0 := by rw [cfN, if_neg hE]
        have hE' : (cfE l b c t == 0) = false := by simpa using hE
        rw [hN]
        clear hN hE
        generalize cfE l b c t = E at hE' ⊢
        go_wp2_with fail
        refine (booked_c _).mono ?_; rintro e x7 ⟨rfl, hH⟩
        go_wp2_with fail
        go_ret
        exact ⟨rfl, hI.2.2.trans hH⟩
    · have hone := cf_errs l b c t 1 (by rw [inB, decide_eq_false (show ¬ c ≤ 1000000000 by omega), Bool.and_false]; rfl)
      go_wp2_with fail
      refine (when_t _ _).mono ?_; rintro e w' ⟨rfl, rfl⟩
      have hI := hI.quiet ((G.refl x4 none).alloc (.cells #[.int .i64 (tiE l), .int .i64 (boE [b]), .int .i64 1, .int .i64 (momE t)] 38))
      go_wp2_with fail
      refine (momentFault_c _ _).mono ?_; rintro e w' ⟨rfl, rfl⟩
      go_wp2_with fail
      refine (errs_c [tiE l, boE [b], 1, momE t] _ _ (Rd.new #[.int .i64 (tiE l), .int .i64 (boE [b]), .int .i64 1, .int .i64 (momE t)] rfl (by show 4 ≤ maxLen; decide)) (by simp)).mono ?_; rintro e w' ⟨rfl, rfl⟩
      rw [hone]
      clear hone
      generalize x4.alloc (.cells #[.int .i64 (tiE l), .int .i64 (boE [b]), .int .i64 1, .int .i64 (momE t)] 38) = x5 at hI ⊢
      by_cases hE : cfE l b c t = 0
      · obtain ⟨z1, z2, ⟨z3, z4⟩, z5, z6⟩ := cf_zero hE
        obtain ⟨z7, z8⟩ := boE_ok z2
        have hN : cfN l b c t = c * cnP l (b.2.2.1 - t) / 1000 := by rw [cfN, if_pos hE]
        have Z1 := Lib.hid z1
        rw [hE, hN]
        clear hE hN z1 z2
        go_wp2_with (refine wpList_load_row rfl 33 _ rfl g rfl 33 #[.string b.1, .string b.2.1, .int .i64 b.2.2.1, .int .i64 b.2.2.2.1, .int .i64 b.2.2.2.2.1, .int .i64 b.2.2.2.2.2] (0, 0) _ hI.2.1 Tryd.underlying33 rfl (bo_info b) ?_)
        refine (cancelOf_c v l b c t _ hI.1 (by omega) Z1.out z7 z8 z5 z6 z3 z4).mono ?_; rintro e x6 ⟨rfl, hH⟩
        have hI := hI.quiet hH
        clear hH
        generalize c * cnP l (b.2.2.1 - t) / 1000 = N
        go_wp2_with fail
        refine (booked_c _).mono ?_; rintro e x7 ⟨rfl, hH⟩
        go_wp2_with fail
        go_ret
        exact ⟨rfl, hI.2.2.trans hH⟩
      · have hN : cfN l b c t = 0 := by rw [cfN, if_neg hE]
        have hE' : (cfE l b c t == 0) = false := by simpa using hE
        rw [hN]
        clear hN hE
        generalize cfE l b c t = E at hE' ⊢
        go_wp2_with fail
        refine (booked_c _).mono ?_; rintro e x7 ⟨rfl, hH⟩
        go_wp2_with fail
        go_ret
        exact ⟨rfl, hI.2.2.trans hH⟩
    · have hone := cf_errs l b c t 0 (by rw [inB, decide_eq_true k1, decide_eq_true k2]; rfl)
      go_wp2_with fail
      rw [show (decide (c < 0) || decide (1000000000 < c)) = false by rw [decide_eq_false (show ¬ c < 0 by omega), decide_eq_false (show ¬ 1000000000 < c by omega)]; rfl]
      refine (when_f _ _).mono ?_; rintro e w' ⟨rfl, rfl⟩
      have hI := hI.quiet ((G.refl x4 none).alloc (.cells #[.int .i64 (tiE l), .int .i64 (boE [b]), .int .i64 0, .int .i64 (momE t)] 38))
      go_wp2_with fail
      refine (momentFault_c _ _).mono ?_; rintro e w' ⟨rfl, rfl⟩
      go_wp2_with fail
      refine (errs_c [tiE l, boE [b], 0, momE t] _ _ (Rd.new #[.int .i64 (tiE l), .int .i64 (boE [b]), .int .i64 0, .int .i64 (momE t)] rfl (by show 4 ≤ maxLen; decide)) (by simp)).mono ?_; rintro e w' ⟨rfl, rfl⟩
      rw [hone]
      clear hone
      generalize x4.alloc (.cells #[.int .i64 (tiE l), .int .i64 (boE [b]), .int .i64 0, .int .i64 (momE t)] 38) = x5 at hI ⊢
      by_cases hE : cfE l b c t = 0
      · obtain ⟨z1, z2, ⟨z3, z4⟩, z5, z6⟩ := cf_zero hE
        obtain ⟨z7, z8⟩ := boE_ok z2
        have hN : cfN l b c t = c * cnP l (b.2.2.1 - t) / 1000 := by rw [cfN, if_pos hE]
        have Z1 := Lib.hid z1
        rw [hE, hN]
        clear hE hN z1 z2
        go_wp2_with (refine wpList_load_row rfl 33 _ rfl g rfl 33 #[.string b.1, .string b.2.1, .int .i64 b.2.2.1, .int .i64 b.2.2.2.1, .int .i64 b.2.2.2.2.1, .int .i64 b.2.2.2.2.2] (0, 0) _ hI.2.1 Tryd.underlying33 rfl (bo_info b) ?_)
        refine (cancelOf_c v l b c t _ hI.1 (by omega) Z1.out z7 z8 z5 z6 z3 z4).mono ?_; rintro e x6 ⟨rfl, hH⟩
        have hI := hI.quiet hH
        clear hH
        generalize c * cnP l (b.2.2.1 - t) / 1000 = N
        go_wp2_with fail
        refine (booked_c _).mono ?_; rintro e x7 ⟨rfl, hH⟩
        go_wp2_with fail
        go_ret
        exact ⟨rfl, hI.2.2.trans hH⟩
      · have hN : cfN l b c t = 0 := by rw [cfN, if_neg hE]
        have hE' : (cfE l b c t == 0) = false := by simpa using hE
        rw [hN]
        clear hN hE
        generalize cfE l b c t = E at hE' ⊢
        go_wp2_with fail
        refine (booked_c _).mono ?_; rintro e x7 ⟨rfl, hH⟩
        go_wp2_with fail
        go_ret
        exact ⟨rfl, hI.2.2.trans hH⟩
  | true =>
    have hbf := HB.out.2.2.1
    unfold bnd at hbf
    obtain ⟨f0, f1⟩ := hbf
    have cf : w6.cell? ⟨g, 2, none⟩ = some (.int .i64 b.2.2.1) := hN6.cell 2
    have hSBd := hSB6.quiet ((G.refl w6 none).drew)
    have HND := Lib.hid (hN6.quiet ((G.refl w6 none).drew))
    have HRD := Lib.hid (hrd6.quiet ((G.refl w6 none).drew))
    have hGd := hG06.drew
    go_wp2_with fail
    go_region_held3 (fun w' => w'.cell? ⟨g, 2, none⟩ = some (.int .i64 b.2.2.1)) (first | exact cf | exact cf7 | go_keep) (first | (go_at_call 6; refine (pick_c _ _ _ [0, 1, 8, 9, 10, 59, 60, 999, 1000] _ _ _ (hSBd.alloc _) (by omega) (by decide) (by decide) (Rd.newAt _ rfl rfl (by decide)) (hSBd.newAt _ _ _ (Nat.le_refl _))).mono ?_; rintro e w7 ⟨r, rfl, hr, hSB7, hG7⟩; have hr0 : 0 ≤ r ∧ r ≤ 1000 := (by simp only [List.mem_cons, List.mem_nil_iff, or_false] at hr; omega); obtain ⟨r0, r1⟩ := hr0; have hN7 := (HND.out.alloc _).grown hG7 (fun e => by have := Option.some.inj e; omega); have hrd7 := (HRD.out.quiet ((G.refl _ none).alloc _)).grown hG7 (fun q e => by cases e; exact hvs); have hG07 := (hGd.alloc _).trans hG7; have cf7 : w7.cell? ⟨g, 2, none⟩ = some (.int .i64 b.2.2.1) := hN7.cell 2; have hwr : IntKind.i64.wrap (b.2.2.1 - r) = b.2.2.1 - r := (by rw [IntKind.wrap_i64]; omega); clear hr hG7))
    have hI : CInv W v l g b w7 := ⟨hrd7, hN7, G.own hG07 (Nat.le_refl _)⟩
    clear hrd7 hN7 hG07 hSB7 hs4 HND HRD hGd hSBd cf cf7 hSB6 hG06 hN6 hrd6 t0 t1 hwr
    obtain ⟨t, ht⟩ : ∃ t, b.2.2.1 - r = t := ⟨_, rfl⟩
    try rw [ht]
    clear ht r0 r1 f0 f1
    go_wp2_with (refine wpList_load_row rfl 33 _ rfl g rfl 33 #[.string b.1, .string b.2.1, .int .i64 b.2.2.1, .int .i64 b.2.2.2.1, .int .i64 b.2.2.2.2.1, .int .i64 b.2.2.2.2.2] (0, 0) _ hI.2.1 Tryd.underlying33 rfl (bo_info b) ?_)
    refine (cancelFee_c v l b c t _ hI.1 (by omega) HB.out).mono ?_; rintro e x1 ⟨rfl, hH⟩
    have hI := hI.quiet hH
    clear hH
    go_wp2_with fail
    refine (tiersFault_c v l _ hI.1 (by omega)).mono ?_; rintro e x2 ⟨rfl, hH⟩
    have hI := hI.quiet hH
    clear hH
    go_wp2_with fail
    refine (checkTiers_c v l _ hI.1 (by omega)).mono ?_; rintro e x3 ⟨rfl, hH⟩
    have hI := hI.quiet hH
    clear hH
    go_wp2_with (refine wpList_load_row rfl 33 _ rfl g rfl 33 #[.string b.1, .string b.2.1, .int .i64 b.2.2.1, .int .i64 b.2.2.2.1, .int .i64 b.2.2.2.2.1, .int .i64 b.2.2.2.2.2] (0, 0) _ hI.2.1 Tryd.underlying33 rfl (bo_info b) ?_)
    have hN8 : Bk (x3.alloc (.cells #[.string b.1, .string b.2.1, .int .i64 b.2.2.1, .int .i64 b.2.2.2.1, .int .i64 b.2.2.2.2.1, .int .i64 b.2.2.2.2.2] 33)) x3.heap.size 33 (boC b) := Bk.new _ _ _
    have hI := hI.quiet ((G.refl x3 none).alloc (.cells #[.string b.1, .string b.2.1, .int .i64 b.2.2.1, .int .i64 b.2.2.2.1, .int .i64 b.2.2.2.2.1, .int .i64 b.2.2.2.2.2] 33))
    refine (bookingForm_c _ [b] _ (RdR.one hN8) (BoOk.one HB.out) (one_len b)).mono ?_; rintro e x4 ⟨rfl, hH⟩
    have hI := hI.quiet hH
    clear hH hN8
    rcases (show c < 0 ∨ (0 ≤ c ∧ 1000000000 < c) ∨ (0 ≤ c ∧ c ≤ 1000000000) by omega) with k1 | ⟨k1, k2⟩ | ⟨k1, k2⟩
    · have hone := cf_errs l b c t 1 (by rw [inB, decide_eq_false (show ¬ 0 ≤ c by omega)]; rfl)
      go_wp2_with fail
      refine (when_t _ _).mono ?_; rintro e w' ⟨rfl, rfl⟩
      have hI := hI.quiet ((G.refl x4 none).alloc (.cells #[.int .i64 (tiE l), .int .i64 (boE [b]), .int .i64 1, .int .i64 (momE t)] 38))
      go_wp2_with fail
      refine (momentFault_c _ _).mono ?_; rintro e w' ⟨rfl, rfl⟩
      go_wp2_with fail
      refine (errs_c [tiE l, boE [b], 1, momE t] _ _ (Rd.new #[.int .i64 (tiE l), .int .i64 (boE [b]), .int .i64 1, .int .i64 (momE t)] rfl (by show 4 ≤ maxLen; decide)) (by simp)).mono ?_; rintro e w' ⟨rfl, rfl⟩
      rw [hone]
      clear hone
      generalize x4.alloc (.cells #[.int .i64 (tiE l), .int .i64 (boE [b]), .int .i64 1, .int .i64 (momE t)] 38) = x5 at hI ⊢
      by_cases hE : cfE l b c t = 0
      · obtain ⟨z1, z2, ⟨z3, z4⟩, z5, z6⟩ := cf_zero hE
        obtain ⟨z7, z8⟩ := boE_ok z2
        have hN : cfN l b c t = c * cnP l (b.2.2.1 - t) / 1000 := by rw [cfN, if_pos hE]
        have Z1 := Lib.hid z1
        rw [hE, hN]
        clear hE hN z1 z2
        go_wp2_with (refine wpList_load_row rfl 33 _ rfl g rfl 33 #[.string b.1, .string b.2.1, .int .i64 b.2.2.1, .int .i64 b.2.2.2.1, .int .i64 b.2.2.2.2.1, .int .i64 b.2.2.2.2.2] (0, 0) _ hI.2.1 Tryd.underlying33 rfl (bo_info b) ?_)
        refine (cancelOf_c v l b c t _ hI.1 (by omega) Z1.out z7 z8 z5 z6 z3 z4).mono ?_; rintro e x6 ⟨rfl, hH⟩
        have hI := hI.quiet hH
        clear hH
        generalize c * cnP l (b.2.2.1 - t) / 1000 = N
        go_wp2_with fail
        refine (booked_c _).mono ?_; rintro e x7 ⟨rfl, hH⟩
        go_wp2_with fail
        go_ret
        exact ⟨rfl, hI.2.2.trans hH⟩
      · have hN : cfN l b c t = 0 := by rw [cfN, if_neg hE]
        have hE' : (cfE l b c t == 0) = false := by simpa using hE
        rw [hN]
        clear hN hE
        generalize cfE l b c t = E at hE' ⊢
        go_wp2_with fail
        refine (booked_c _).mono ?_; rintro e x7 ⟨rfl, hH⟩
        go_wp2_with fail
        go_ret
        exact ⟨rfl, hI.2.2.trans hH⟩
    · have hone := cf_errs l b c t 1 (by rw [inB, decide_eq_false (show ¬ c ≤ 1000000000 by omega), Bool.and_false]; rfl)
      go_wp2_with fail
      refine (when_t _ _).mono ?_; rintro e w' ⟨rfl, rfl⟩
      have hI := hI.quiet ((G.refl x4 none).alloc (.cells #[.int .i64 (tiE l), .int .i64 (boE [b]), .int .i64 1, .int .i64 (momE t)] 38))
      go_wp2_with fail
      refine (momentFault_c _ _).mono ?_; rintro e w' ⟨rfl, rfl⟩
      go_wp2_with fail
      refine (errs_c [tiE l, boE [b], 1, momE t] _ _ (Rd.new #[.int .i64 (tiE l), .int .i64 (boE [b]), .int .i64 1, .int .i64 (momE t)] rfl (by show 4 ≤ maxLen; decide)) (by simp)).mono ?_; rintro e w' ⟨rfl, rfl⟩
      rw [hone]
      clear hone
      generalize x4.alloc (.cells #[.int .i64 (tiE l), .int .i64 (boE [b]), .int .i64 1, .int .i64 (momE t)] 38) = x5 at hI ⊢
      by_cases hE : cfE l b c t = 0
      · obtain ⟨z1, z2, ⟨z3, z4⟩, z5, z6⟩ := cf_zero hE
        obtain ⟨z7, z8⟩ := boE_ok z2
        have hN : cfN l b c t = c * cnP l (b.2.2.1 - t) / 1000 := by rw [cfN, if_pos hE]
        have Z1 := Lib.hid z1
        rw [hE, hN]
        clear hE hN z1 z2
        go_wp2_with (refine wpList_load_row rfl 33 _ rfl g rfl 33 #[.string b.1, .string b.2.1, .int .i64 b.2.2.1, .int .i64 b.2.2.2.1, .int .i64 b.2.2.2.2.1, .int .i64 b.2.2.2.2.2] (0, 0) _ hI.2.1 Tryd.underlying33 rfl (bo_info b) ?_)
        refine (cancelOf_c v l b c t _ hI.1 (by omega) Z1.out z7 z8 z5 z6 z3 z4).mono ?_; rintro e x6 ⟨rfl, hH⟩
        have hI := hI.quiet hH
        clear hH
        generalize c * cnP l (b.2.2.1 - t) / 1000 = N
        go_wp2_with fail
        refine (booked_c _).mono ?_; rintro e x7 ⟨rfl, hH⟩
        go_wp2_with fail
        go_ret
        exact ⟨rfl, hI.2.2.trans hH⟩
      · have hN : cfN l b c t = 0 := by rw [cfN, if_neg hE]
        have hE' : (cfE l b c t == 0) = false := by simpa using hE
        rw [hN]
        clear hN hE
        generalize cfE l b c t = E at hE' ⊢
        go_wp2_with fail
        refine (booked_c _).mono ?_; rintro e x7 ⟨rfl, hH⟩
        go_wp2_with fail
        go_ret
        exact ⟨rfl, hI.2.2.trans hH⟩
    · have hone := cf_errs l b c t 0 (by rw [inB, decide_eq_true k1, decide_eq_true k2]; rfl)
      go_wp2_with fail
      rw [show (decide (c < 0) || decide (1000000000 < c)) = false by rw [decide_eq_false (show ¬ c < 0 by omega), decide_eq_false (show ¬ 1000000000 < c by omega)]; rfl]
      refine (when_f _ _).mono ?_; rintro e w' ⟨rfl, rfl⟩
      have hI := hI.quiet ((G.refl x4 none).alloc (.cells #[.int .i64 (tiE l), .int .i64 (boE [b]), .int .i64 0, .int .i64 (momE t)] 38))
      go_wp2_with fail
      refine (momentFault_c _ _).mono ?_; rintro e w' ⟨rfl, rfl⟩
      go_wp2_with fail
      refine (errs_c [tiE l, boE [b], 0, momE t] _ _ (Rd.new #[.int .i64 (tiE l), .int .i64 (boE [b]), .int .i64 0, .int .i64 (momE t)] rfl (by show 4 ≤ maxLen; decide)) (by simp)).mono ?_; rintro e w' ⟨rfl, rfl⟩
      rw [hone]
      clear hone
      generalize x4.alloc (.cells #[.int .i64 (tiE l), .int .i64 (boE [b]), .int .i64 0, .int .i64 (momE t)] 38) = x5 at hI ⊢
      by_cases hE : cfE l b c t = 0
      · obtain ⟨z1, z2, ⟨z3, z4⟩, z5, z6⟩ := cf_zero hE
        obtain ⟨z7, z8⟩ := boE_ok z2
        have hN : cfN l b c t = c * cnP l (b.2.2.1 - t) / 1000 := by rw [cfN, if_pos hE]
        have Z1 := Lib.hid z1
        rw [hE, hN]
        clear hE hN z1 z2
        go_wp2_with (refine wpList_load_row rfl 33 _ rfl g rfl 33 #[.string b.1, .string b.2.1, .int .i64 b.2.2.1, .int .i64 b.2.2.2.1, .int .i64 b.2.2.2.2.1, .int .i64 b.2.2.2.2.2] (0, 0) _ hI.2.1 Tryd.underlying33 rfl (bo_info b) ?_)
        refine (cancelOf_c v l b c t _ hI.1 (by omega) Z1.out z7 z8 z5 z6 z3 z4).mono ?_; rintro e x6 ⟨rfl, hH⟩
        have hI := hI.quiet hH
        clear hH
        generalize c * cnP l (b.2.2.1 - t) / 1000 = N
        go_wp2_with fail
        refine (booked_c _).mono ?_; rintro e x7 ⟨rfl, hH⟩
        go_wp2_with fail
        go_ret
        exact ⟨rfl, hI.2.2.trans hH⟩
      · have hN : cfN l b c t = 0 := by rw [cfN, if_neg hE]
        have hE' : (cfE l b c t == 0) = false := by simpa using hE
        rw [hN]
        clear hN hE
        generalize cfE l b c t = E at hE' ⊢
        go_wp2_with fail
        refine (booked_c _).mono ?_; rintro e x7 ⟨rfl, hH⟩
        go_wp2_with fail
        go_ret
        exact ⟨rfl, hI.2.2.trans hH⟩
end Go.Proofs.YtlnkompebajlnaaDoor
