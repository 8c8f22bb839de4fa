/- The law OddsExact. -/
import Derived.Test.YtbieiefbgcgogaaDoorOdw
import Derived.Test.YtbieiefbgcgogaaDoorGenK
import Derived.Test.YtbieiefbgcgogaaDoorErrs
import Derived.Test.YtbieiefbgcgogaaDoorBkd
import Derived.Deep.CutRange
namespace Go.Proofs.YtbieiefbgcgogaaDoor
open Go.RowKit

theorem od_one (l : List Bo) (q : Int) (hq : q = if 9 < l.length then 2 else 0) : errsOf [boE l, q] = coE l := by
  subst hq
  unfold coE
  show (if boE l = 0 then (if (if 9 < l.length then (2 : Int) else 0) = 0 then 0 else (if 9 < l.length then 2 else 0)) else boE l) = _
  split
  · split <;> simp
  · rfl
theorem od_two (l : List Bo) (u q : Int) (hq : q = if inB u 0 500 = true then 0 else 1) : errsOf [coE l, q] = cuE l u := by
  subst hq
  unfold cuE
  show (if coE l = 0 then (if (if inB u 0 500 = true then (0 : Int) else 1) = 0 then 0 else (if inB u 0 500 = true then 0 else 1)) else coE l) = _
  cases inB u 0 500 <;> simp
theorem od_three (l : List Bo) (u : Int) (r : Fr) (q : Int) (hq : q = if riB r = true then 0 else 1) : errsOf [cuE l u, q] = moE l u r := by
  subst hq
  unfold moE
  show (if cuE l u = 0 then (if (if riB r = true then (0 : Int) else 1) = 0 then 0 else (if riB r = true then 0 else 1)) else cuE l u) = _
  cases riB r <;> simp
/-- What the law wants of Most, where the three faults are none. -/
theorem mo_zero {l : List Bo} {u : Int} {r : Fr} (h : moE l u r = 0) : cuE l u = 0 ∧ riB r = true ∧ 0 ≤ r.1 ∧ r.1 ≤ 1000000 ∧ 0 < r.2 ∧ r.2 ≤ 1000000 := by
  unfold moE at h
  split at h
  · rename_i h1
    cases hr : riB r with
    | false => rw [hr] at h; exact absurd h (by decide)
    | true =>
      have h2 := hr
      simp only [riB, inB, Bool.and_eq_true, decide_eq_true_eq] at h2
      exact ⟨h1, rfl, by omega, by omega, by omega, by omega⟩
  · rename_i h1; exact absurd h h1
theorem fr_eql (x : Fr) (w : World) : (binOp .eql 35 (.agg #[.int .i64 x.1, .int .i64 x.2]) (.agg #[.int .i64 x.1, .int .i64 x.2])).run Tryd.prog w = .ok (.bool true) w := by
  have ht : Tryd.prog.underlying 35 = some (.struct (Tryd.prog.fieldsOf 35)) := by kernel_rfl
  have hp : Tryd.prog.stoodInHeld 35 = false := by kernel_rfl
  rw [run_eql_struct, run_equalIn_agg w 9999 35 _ _ ht hp]
  simp [Tryd.underlying35, Tryd.underlying3, go_sem]
/-- What stands behind the draws of the bookings: the row, the stream. -/
def OdA (W : World) (v : Value) (l : List Bo) (w : World) : Prop :=
  OwnBo w (W.heap.size + 1) v l ∧ BoOk l ∧ l.length ≤ 10 ∧ SB w W.heap.size 100 ∧ G W w (some W.heap.size)
/-- What stands throughout: the row, the risk. -/
def OdI (W : World) (v : Value) (l : List Bo) (g : Nat) (r : Fr) (w : World) : Prop := RdR w 6 boC v l ∧ Bk w g 35 (frV r) ∧ G W w none
theorem OdI.quiet {W w w' : World} {v : Value} {l : List Bo} {g : Nat} {r : Fr} (h : OdI W v l g r w) (hG : G w w' none) : OdI W v l g r w' := ⟨h.1.quiet hG, h.2.1.quiet hG, h.2.2.trans hG⟩
theorem OdI.setRow {W w : World} {v : Value} {l : List Bo} {g k : Nat} {r : Fr} (h : OdI W v l g r w) (hg : g ≠ k) (hv : ∀ j, v.ownBlock = some j → j ≠ k) (hW : W.heap.size ≤ k) (cs : Array Value) : OdI W v l g r (w.setRow k cs) :=
  ⟨Rd.grown h.1 ((G.refl w (some k)).setRow (.inr rfl) cs) (fun j e hj => by cases e; exact hv _ hj rfl), h.2.1.farRow hg _, h.2.2.setRow (.inl hW) _⟩
/-- A row's block is there. -/
theorem Rd.blk {w : World} {z : Nat} {v : Value} {n : Nat} {cs : List Value} (h : Rd w z v n cs) : ∀ k, v.ownBlock = some k → k < w.heap.size := by
  obtain ⟨a, c, rfl, h1, h2, h3, h4, h5⟩ := h
  intro k hk
  cases a with
  | none => cases hk
  | some b =>
    have := (h5 b rfl).2.1
    cases hk
    exact this
set_option maxRecDepth 100000 in
set_option maxHeartbeats 16000000 in
theorem oddsExact_c (a : Option Addr) (n c : Nat) (zs : List Int) (W : World) (hr : Rd W 1 (.slice a n c) n (zs.map (Value.int .i64))) (hz : ∀ z ∈ zs, -9223372036854775808 ≤ z ∧ z ≤ 9223372036854775807) :
    Calls Tryd.prog 3 #[.slice a n c] W fun e W' => e = .returned (.bool true) ∧ G W W' none := by
  have hSB : SB (W.alloc (.cells #[.slice a n c, .int .i64 0] 25)) W.heap.size 0 := by
    have hB := Bk.new W 25 #[.slice a n c, .int .i64 0]
    refine ⟨0, a, n, c, zs, Nat.le_refl _, hr.quiet ((G.refl _ _).alloc _), fun b e => ?_, hz, hB.cell 0, hB.cell 1, hB.free 1, hB.lt⟩
    obtain ⟨a', c', e', r1, r2, r3, r4, r5⟩ := hr
    cases e'
    exact (r5 b e).2.1
  have hG0 : G W (W.alloc (.cells #[.slice a n c, .int .i64 0] 25)) (some W.heap.size) := (G.refl _ _).alloc _
  clear hr hz
  go_enter Tryd.func3, Tryd.ntmps3
  go_wp2_with fail
  refine (pick_c _ _ _ [0, 1, 2, 3, 4, 5, 6, 9] _ W.heap.size 0 (hSB.alloc _) (by omega) (by decide) (by decide) (Rd.newAt _ (by simp) rfl (by decide)) (hSB.newAt _ _ _ (by simp))).mono ?_; rintro e w1 ⟨m, rfl, hm, hSB1, hG1⟩
  have hm0 : 0 ≤ m ∧ m ≤ 9 := by simp only [List.mem_cons, List.mem_nil_iff, or_false] at hm; omega
  obtain ⟨m0, m1⟩ := hm0
  obtain ⟨m, rfl⟩ := Int.eq_ofNat_of_zero_le m0
  have hG01 := (hG0.alloc _).trans hG1
  clear hSB hG0 hG1 hm
  go_wp2_with fail
  refine (bookings_c w1 W.heap.size _ m hSB1 (by omega) (by omega)).mono ?_; rintro e w2 ⟨v, l, rfl, hown, hl, hln, hSB2, hG2⟩
  have hz1 : W.heap.size + 1 ≤ w1.heap.size := by have := hSB1.lt; omega
  have hown := OwnX.down hown (show W.heap.size + 1 ≤ w1.heap.size + 1 by omega)
  have hG02 := hG01.trans hG2
  have hl9 : l.length ≤ 9 := by omega
  clear hSB1 hG01 hG2 hln m0 m1 hz1
  go_wp2_with fail
  refine (pick_c _ _ _ [0, 1, 2, 3, 500, -1, 501] _ _ _ (hSB2.alloc _) (by omega) (by decide) (by decide) (Rd.newAt _ rfl rfl (by decide)) (hSB2.newAt _ _ _ (Nat.le_refl _))).mono ?_; rintro e w3 ⟨u, rfl, hu, hSB3, hG3⟩
  have hu0 : -1 ≤ u ∧ u ≤ 501 := by simp only [List.mem_cons, List.mem_nil_iff, or_false] at hu; omega
  obtain ⟨u0, u1⟩ := hu0
  have hown3 := OwnX.kept (OwnX.alloc hown _) hG3 (Nat.lt_succ_self _)
  have hG03 := (hG02.alloc _).trans hG3
  clear hSB2 hG02 hG3 hu hown
  go_wp2_with fail
  refine (flip_c _ _ _ _ hSB3 (by omega) (by omega)).mono ?_; rintro e w4 ⟨q, rfl, hSB4, hG4⟩
  have HA : Hid (OdA W v l w4) := Lib.hid ⟨OwnX.kept hown3 hG4 (Nat.lt_succ_self _), hl, by omega, hSB4.le (by omega), hG03.trans hG4⟩
  clear hSB3 hG03 hG4 hown3 hl hSB4
  go_upto_if 30 with fail
  go_cut [4] from 18 (fun s4 w => ∃ l, OdA W s4 l w)
  case first =>
    cases q with
    | false =>
      go_wp2_with fail
      go_meet
      case rel => exact ⟨l, HA.out⟩
    | true =>
      obtain ⟨hown, hl, hl10, hSB, hG⟩ := HA.out
      have hs4 := hSB.lt
      have hownA := OwnX.alloc hown (.cells #[.string ⟨#[98, 122]⟩, .string ⟨#[99]⟩, .int .i64 0, .int .i64 1, .int .i64 0, .int .i64 1] 33)
      have hob := OwnX.low hown
      go_wp2_with (at_builtin; refine wpList_plain rfl fun K' hK' => wp_append_x bo_rowOk _ _ rfl (W.heap.size + 1) v l rfl hownA w4.heap.size (⟨#[98, 122]⟩, ⟨#[99]⟩, 0, 1, 0, 1) rfl (Bk.new w4 _ _) (by omega) (by simp; omega) ?_; intro v8 w8 hown8 hgrow; refine hK' _ _ ?_)
      go_meet
      case rel => exact ⟨l ++ [(⟨#[98, 122]⟩, ⟨#[99]⟩, 0, 1, 0, 1)], hown8, hl.snoc ⟨small_of (by decide), small_of (by decide), by unfold bnd; dsimp only; omega, by unfold bnd; dsimp only; omega, by unfold bnd; dsimp only; omega, by unfold bnd; dsimp only; omega⟩, by simp; omega, (hSB.alloc _).own hgrow (fun r e => hob r e), (hG.alloc _).other hgrow (fun r e => .inl (by have := hob r e; omega))⟩
  case rest =>
    obtain ⟨l, hown, hl, hl10, hSB5, hG5⟩ := hcut
    clear HA hl9
    obtain ⟨a4, c4, hv4, hc4, hm4⟩ := RdR.form (Rd.of_owns hown)
    subst hv4
    go_wp2_with fail
    refine (pick_c _ _ _ [0, 1, 1, 5, 50] _ _ _ (hSB5.alloc _) (by omega) (by decide) (by decide) (Rd.newAt _ rfl rfl (by decide)) (hSB5.newAt _ _ _ (Nat.le_refl _))).mono ?_; rintro e w6 ⟨p, rfl, hp, hSB6, hG6⟩
    have hp0 : 0 ≤ p ∧ p ≤ 50 := by simp only [List.mem_cons, List.mem_nil_iff, or_false] at hp; omega
    obtain ⟨p0, p1⟩ := hp0
    have hown6 := OwnX.kept (OwnX.alloc hown _) hG6 (Nat.lt_succ_self _)
    have hG06 := (hG5.alloc _).trans hG6
    clear hSB5 hG5 hG6 hp
    go_wp2_with fail
    refine (pick_c _ _ _ [1, 2, 100, 1000000] _ _ _ (hSB6.alloc _) (by omega) (by decide) (by decide) (Rd.newAt _ rfl rfl (by decide)) (hSB6.newAt _ _ _ (Nat.le_refl _))).mono ?_; rintro e w7 ⟨d, rfl, hd, hSB7, hG7⟩
    have hd0 : 1 ≤ d ∧ d ≤ 1000000 := by simp only [List.mem_cons, List.mem_nil_iff, or_false] at hd; omega
    obtain ⟨d0, d1⟩ := hd0
    have hown7 := OwnX.kept (OwnX.alloc hown6 _) hG7 (Nat.lt_succ_self _)
    have hG07 := (hG06.alloc _).trans hG7
    clear hSB6 hG06 hG7 hd hown6
    have hB7 := Bk.new w7 35 (frV (p, d))
    have hSB8 := hSB7.alloc (.cells (frV (p, d)) 35)
    have hown8 := OwnX.alloc hown7 (.cells (frV (p, d)) 35)
    have hG08 := hG07.alloc (.cells (frV (p, d)) 35)
    have hs7 := hSB7.lt
    have hv7 := (Rd.of_owns hown7).blk
    clear hSB7 hG07 hown7
    go_wp2_with fail
    refine (flip_c _ _ _ _ hSB8 (by omega) (by omega)).mono ?_; rintro e w8 ⟨q, rfl, hSB9, hG8⟩
    have HB : Hid (SB w8 W.heap.size 200 ∧ OdI W (.slice a4 l.length c4) l w7.heap.size (p, d) w8) := Lib.hid ⟨hSB9.le (by omega), Rd.of_owns (OwnX.kept hown8 hG8 (Nat.lt_succ_self _)), hB7.grown hG8 (fun e => by have := Option.some.inj e; omega), G.own (hG08.trans hG8) (Nat.le_refl _)⟩
    clear hB7 hSB8 hown8 hG08 hSB9 hG8
    have hvg := hv7
    generalize w7.heap.size = g at HB hs7 hvg ⊢
    go_upto_if 44 with fail
    go_cut [] from 18 (fun w => ∃ r : Fr, (bnd r.1 ∧ bnd r.2) ∧ OdI W (.slice a4 l.length c4) l g r w)
    case first =>
      cases q with
      | false =>
        go_wp2_with fail
        go_meet
        case rel => exact ⟨(p, d), ⟨by unfold bnd; dsimp only; omega, by unfold bnd; dsimp only; omega⟩, HB.out.2⟩
      | true =>
        obtain ⟨hSB9, hrd, hB, hG⟩ := HB.out
        go_wp2_with fail
        refine (odd_c _ _ _ _ _ hSB9 (by omega) (by omega) (by omega) (by omega) (by omega)).mono ?_; rintro e w9 ⟨x, rfl, x0, x1, hSBa, hGa⟩
        have hrda := hrd.grown hGa (fun k e hk => by cases e; have := OwnX.low hown _ hk; omega)
        have hBa := hB.grown hGa (fun e => by have := Option.some.inj e; omega)
        have hG0a := (hG.but _).trans hGa
        clear hrd hB hG hGa hSB9
        go_wp2_with fail
        refine (odd_c _ _ _ _ _ hSBa (by omega) (by omega) (by omega) (by omega) (by omega)).mono ?_; rintro e wb ⟨y, rfl, y0, y1, hSBb, hGb⟩
        have hrdb := hrda.grown hGb (fun k e hk => by cases e; have := OwnX.low hown _ hk; omega)
        have hBb := hBa.grown hGb (fun e => by have := Option.some.inj e; omega)
        have hG0b := hG0a.trans hGb
        clear hrda hBa hG0a hGb hSBa
        go_wp2_with (refine wpList_store_row rfl 35 _ _ rfl g (frC x y) rfl rfl 35 _ hBb (fr_info x y) rfl (fr_one x y) ?_)
        go_meet
        case rel => exact ⟨(x, y), ⟨⟨x0, x1⟩, ⟨y0, y1⟩⟩, Rd.grown hrdb ((G.refl wb (some g)).setRow (.inr rfl) _) (fun k e hk => by cases e; have := hvg _ hk; omega), hBb.setRow _, (G.own hG0b (Nat.le_refl _)).setRow (.inl (by omega)) _⟩
    case rest =>
      obtain ⟨r, ⟨hr1, hr2⟩, hI⟩ := hcut
      clear HB
      go_wp2_with fail
      refine (spread_c (.slice a4 l.length c4) l _ hI.1 hl (by omega)).mono ?_; rintro e w8 ⟨vs, ms, rfl, hrs, hms, hG8⟩
      have hI := hI.quiet hG8
      clear hG8
      go_wp2_with fail
      refine (overP_c (.slice a4 l.length c4) l u _ hI.1 hl (by omega)).mono ?_; rintro e w9 ⟨rfl, hG9⟩
      have hI := hI.quiet hG9
      have hrs := hrs.quiet hG9
      clear hG9
      obtain ⟨F, hF⟩ : ∃ F, ovP l u = F := ⟨_, rfl⟩
      rw [hF, show frV F = #[.int .i64 F.1, .int .i64 F.2] from rfl]
      have HF := Lib.hid hF
      have hF9 : Bk (w9.alloc (.cells #[.int .i64 F.1, .int .i64 F.2] 35)) w9.heap.size 35 (frV F) := Bk.new _ _ _
      have hI := hI.quiet ((G.refl w9 none).alloc (.cells #[.int .i64 F.1, .int .i64 F.2] 35))
      have hrs := hrs.quiet ((G.refl w9 none).alloc (.cells #[.int .i64 F.1, .int .i64 F.2] 35))
      clear hF
      go_wp2_with (refine wpList_load_row rfl 35 _ rfl g rfl 35 #[.int .i64 r.1, .int .i64 r.2] (0, 0) _ hI.2.1 Tryd.underlying35 rfl (fr_info r.1 r.2) ?_)
      have hf9 := hF9.lt
      generalize w9.alloc (.cells #[.int .i64 F.1, .int .i64 F.2] 35) = wa at hF9 hI hrs hf9 ⊢
      generalize w9.heap.size = f at hF9 hf9 ⊢
      refine (most_c (.slice a4 l.length c4) l u r _ hI.1 hl (by omega)).mono ?_; rintro e wb ⟨rfl, hGb⟩
      have hI := hI.quiet hGb
      have hrs := hrs.quiet hGb
      have hF9 := hF9.quiet hGb
      clear hGb hf9
      go_wp2_with fail
      refine (bookingForm_c (.slice a4 l.length c4) l _ hI.1 hl (by omega)).mono ?_; rintro e wd ⟨rfl, hGd⟩
      have hI := hI.quiet hGd
      have hrs := hrs.quiet hGd
      have hF9 := hF9.quiet hGd
      clear hGd
      obtain ⟨q1, hq1⟩ : ∃ q1, q1 = if 9 < l.length then (2 : Int) else 0 := ⟨_, rfl⟩
      have Hq1 := Lib.hid (od_one l q1 hq1)
      have hw1 : ∀ w : World, Calls Tryd.prog 17 #[.bool (decide ((9 : Int) < (l.length : Int))), .int .i64 2] w fun e w' => e = .returned (.int .i64 q1) ∧ w = w' := fun w => by
        refine (when_c _ 2 w).mono ?_; rintro e w' ⟨rfl, rfl⟩
        refine ⟨ret_int ?_, rfl⟩
        rw [hq1]
        by_cases h : 9 < l.length
        · rw [if_pos h, decide_eq_true (show (9 : Int) < (l.length : Int) by omega)]; rfl
        · rw [if_neg h, decide_eq_false (show ¬ (9 : Int) < (l.length : Int) by omega)]; rfl
      have HW1 := Lib.hid hw1
      clear hq1 hw1
      go_wp2_with fail
      refine (HW1.out _).mono ?_; rintro e w' ⟨rfl, rfl⟩
      have hI := hI.quiet ((G.refl wd none).alloc (.cells #[.int .i64 (boE l), .int .i64 q1] 38))
      have hrs := hrs.quiet ((G.refl wd none).alloc (.cells #[.int .i64 (boE l), .int .i64 q1] 38))
      have hF9 := hF9.quiet ((G.refl wd none).alloc (.cells #[.int .i64 (boE l), .int .i64 q1] 38))
      go_wp2_with fail
      refine (errs_c [boE l, q1] _ _ (Rd.new #[.int .i64 (boE l), .int .i64 q1] rfl (by show 2 ≤ maxLen; decide)) (by simp)).mono ?_; rintro e w' ⟨rfl, rfl⟩
      rw [Hq1.out]
      generalize wd.alloc (.cells #[.int .i64 (boE l), .int .i64 q1] 38) = we at hI hrs hF9 ⊢
      clear Hq1 HW1
      generalize we = wx at hI hrs hF9 ⊢
      go_upto_region 12 with fail
      go_cut [14] from 76 (fun s14 w => s14 = .int .i64 (cuE l u) ∧ OdI W (.slice a4 l.length c4) l g r w ∧ Rd w 2 vs ms.length (rowL frV ms) ∧ Bk w f 35 (frV F))
      case first =>
        rcases (show u < 0 ∨ (0 ≤ u ∧ 500 < u) ∨ (0 ≤ u ∧ u ≤ 500) by omega) with k1 | ⟨k1, k2⟩ | ⟨k1, k2⟩
        · have hone := od_two l u 1 (by rw [inB, decide_eq_false (show ¬ 0 ≤ u by omega)]; rfl)
          go_wp2_with fail
          refine (when_t _ _).mono ?_; rintro e w' ⟨rfl, rfl⟩
          have hI := hI.quiet ((G.refl wx none).alloc (.cells #[.int .i64 (coE l), .int .i64 1] 38))
          have hrs := hrs.quiet ((G.refl wx none).alloc (.cells #[.int .i64 (coE l), .int .i64 1] 38))
          have hF9 := hF9.quiet ((G.refl wx none).alloc (.cells #[.int .i64 (coE l), .int .i64 1] 38))
          go_wp2_with fail
          refine (errs_c [coE l, 1] _ _ (Rd.new #[.int .i64 (coE l), .int .i64 1] rfl (by show 2 ≤ maxLen; decide)) (by simp)).mono ?_; rintro e w' ⟨rfl, rfl⟩
          rw [hone]
          go_wp2_with fail
          go_meet
          case rel => exact ⟨rfl, hI, hrs, hF9⟩
        · have hone := od_two l u 1 (by rw [inB, decide_eq_false (show ¬ u ≤ 500 by omega), Bool.and_false]; rfl)
          go_wp2_with fail
          refine (when_t _ _).mono ?_; rintro e w' ⟨rfl, rfl⟩
          have hI := hI.quiet ((G.refl wx none).alloc (.cells #[.int .i64 (coE l), .int .i64 1] 38))
          have hrs := hrs.quiet ((G.refl wx none).alloc (.cells #[.int .i64 (coE l), .int .i64 1] 38))
          have hF9 := hF9.quiet ((G.refl wx none).alloc (.cells #[.int .i64 (coE l), .int .i64 1] 38))
          go_wp2_with fail
          refine (errs_c [coE l, 1] _ _ (Rd.new #[.int .i64 (coE l), .int .i64 1] rfl (by show 2 ≤ maxLen; decide)) (by simp)).mono ?_; rintro e w' ⟨rfl, rfl⟩
          rw [hone]
          go_wp2_with fail
          go_meet
          case rel => exact ⟨rfl, hI, hrs, hF9⟩
        · have hone := od_two l u 0 (by rw [inB, decide_eq_true k1, decide_eq_true k2]; rfl)
          go_wp2_with fail
          rw [show (decide (u < 0) || decide (500 < u)) = false by rw [decide_eq_false (show ¬ u < 0 by omega), decide_eq_false (show ¬ 500 < u by omega)]; rfl]
          refine (when_f _ _).mono ?_; rintro e w' ⟨rfl, rfl⟩
          have hI := hI.quiet ((G.refl wx none).alloc (.cells #[.int .i64 (coE l), .int .i64 0] 38))
          have hrs := hrs.quiet ((G.refl wx none).alloc (.cells #[.int .i64 (coE l), .int .i64 0] 38))
          have hF9 := hF9.quiet ((G.refl wx none).alloc (.cells #[.int .i64 (coE l), .int .i64 0] 38))
          go_wp2_with fail
          refine (errs_c [coE l, 0] _ _ (Rd.new #[.int .i64 (coE l), .int .i64 0] rfl (by show 2 ≤ maxLen; decide)) (by simp)).mono ?_; rintro e w' ⟨rfl, rfl⟩
          rw [hone]
          go_wp2_with fail
          go_meet
          case rel => exact ⟨rfl, hI, hrs, hF9⟩
      case rest =>
        obtain ⟨rfl, hI, hrs, hF9⟩ := hcut
        generalize wc = wx at hI hrs hF9 ⊢
        have c0 : wx.cell? ⟨g, 0, none⟩ = some (.int .i64 r.1) := hI.2.1.cell 0
        have c1 : wx.cell? ⟨g, 1, none⟩ = some (.int .i64 r.2) := hI.2.1.cell 1
        go_upto_region 13 with fail
        go_cut [15] from 76 (fun s15 w => s15 = .int .i64 (moE l u r) ∧ OdI W (.slice a4 l.length c4) l g r w ∧ Rd w 2 vs ms.length (rowL frV ms) ∧ Bk w f 35 (frV F))
        case first =>
          rcases (show r.2 < 1 ∨ (1 ≤ r.2 ∧ 1000000 < r.2) ∨ (1 ≤ r.2 ∧ r.2 ≤ 1000000 ∧ r.1 < 0) ∨ (1 ≤ r.2 ∧ r.2 ≤ 1000000 ∧ 0 ≤ r.1 ∧ r.2 < r.1) ∨ (1 ≤ r.2 ∧ r.2 ≤ 1000000 ∧ 0 ≤ r.1 ∧ r.1 ≤ r.2) by omega) with k1 | ⟨k1, k2⟩ | ⟨k1, k2, k3⟩ | ⟨k1, k2, k3, k4⟩ | ⟨k1, k2, k3, k4⟩
          · have hone := od_three l u r 1 (by rw [riB, inB, decide_eq_false (show ¬ 1 ≤ r.2 by omega)]; rfl)
            go_wp2_with fail
            refine (when_t _ _).mono ?_; rintro e w' ⟨rfl, rfl⟩
            have hI := hI.quiet ((G.refl wx none).alloc (.cells #[.int .i64 (cuE l u), .int .i64 1] 38))
            have hrs := hrs.quiet ((G.refl wx none).alloc (.cells #[.int .i64 (cuE l u), .int .i64 1] 38))
            have hF9 := hF9.quiet ((G.refl wx none).alloc (.cells #[.int .i64 (cuE l u), .int .i64 1] 38))
            go_wp2_with fail
            refine (errs_c [cuE l u, 1] _ _ (Rd.new #[.int .i64 (cuE l u), .int .i64 1] rfl (by show 2 ≤ maxLen; decide)) (by simp)).mono ?_; rintro e w' ⟨rfl, rfl⟩
            rw [hone]
            go_wp2_with fail
            go_meet
            case rel => exact ⟨rfl, hI, hrs, hF9⟩
          · have hone := od_three l u r 1 (by rw [riB, inB, decide_eq_false (show ¬ r.2 ≤ 1000000 by omega), Bool.and_false]; rfl)
            have d0 : decide (r.2 < 1) = false := decide_eq_false (by omega)
            go_wp2_with fail
            refine (when_t _ _).mono ?_; rintro e w' ⟨rfl, rfl⟩
            have hI := hI.quiet ((G.refl wx none).alloc (.cells #[.int .i64 (cuE l u), .int .i64 1] 38))
            have hrs := hrs.quiet ((G.refl wx none).alloc (.cells #[.int .i64 (cuE l u), .int .i64 1] 38))
            have hF9 := hF9.quiet ((G.refl wx none).alloc (.cells #[.int .i64 (cuE l u), .int .i64 1] 38))
            go_wp2_with fail
            refine (errs_c [cuE l u, 1] _ _ (Rd.new #[.int .i64 (cuE l u), .int .i64 1] rfl (by show 2 ≤ maxLen; decide)) (by simp)).mono ?_; rintro e w' ⟨rfl, rfl⟩
            rw [hone]
            go_wp2_with fail
            go_meet
            case rel => exact ⟨rfl, hI, hrs, hF9⟩
          · have hone := od_three l u r 1 (by rw [riB, inB, inB, decide_eq_false (show ¬ 0 ≤ r.1 by omega), Bool.false_and, Bool.and_false]; rfl)
            have d0 : decide (r.2 < 1) = false := decide_eq_false (by omega)
            have d1 : decide (1000000 < r.2) = false := decide_eq_false (by omega)
            go_wp2_with fail
            refine (when_t _ _).mono ?_; rintro e w' ⟨rfl, rfl⟩
            have hI := hI.quiet ((G.refl wx none).alloc (.cells #[.int .i64 (cuE l u), .int .i64 1] 38))
            have hrs := hrs.quiet ((G.refl wx none).alloc (.cells #[.int .i64 (cuE l u), .int .i64 1] 38))
            have hF9 := hF9.quiet ((G.refl wx none).alloc (.cells #[.int .i64 (cuE l u), .int .i64 1] 38))
            go_wp2_with fail
            refine (errs_c [cuE l u, 1] _ _ (Rd.new #[.int .i64 (cuE l u), .int .i64 1] rfl (by show 2 ≤ maxLen; decide)) (by simp)).mono ?_; rintro e w' ⟨rfl, rfl⟩
            rw [hone]
            go_wp2_with fail
            go_meet
            case rel => exact ⟨rfl, hI, hrs, hF9⟩
          · have hone := od_three l u r 1 (by rw [riB, inB, inB, decide_eq_false (show ¬ r.1 ≤ r.2 by omega), Bool.and_false, Bool.and_false]; rfl)
            have d0 : decide (r.2 < 1) = false := decide_eq_false (by omega)
            have d1 : decide (1000000 < r.2) = false := decide_eq_false (by omega)
            have d2 : decide (r.1 < 0) = false := decide_eq_false (by omega)
            go_wp2_with fail
            refine (when_t _ _).mono ?_; rintro e w' ⟨rfl, rfl⟩
            have hI := hI.quiet ((G.refl wx none).alloc (.cells #[.int .i64 (cuE l u), .int .i64 1] 38))
            have hrs := hrs.quiet ((G.refl wx none).alloc (.cells #[.int .i64 (cuE l u), .int .i64 1] 38))
            have hF9 := hF9.quiet ((G.refl wx none).alloc (.cells #[.int .i64 (cuE l u), .int .i64 1] 38))
            go_wp2_with fail
            refine (errs_c [cuE l u, 1] _ _ (Rd.new #[.int .i64 (cuE l u), .int .i64 1] rfl (by show 2 ≤ maxLen; decide)) (by simp)).mono ?_; rintro e w' ⟨rfl, rfl⟩
            rw [hone]
            go_wp2_with fail
            go_meet
            case rel => exact ⟨rfl, hI, hrs, hF9⟩
          · have hone := od_three l u r 0 (by rw [riB, inB, inB, decide_eq_true k1, decide_eq_true k2, decide_eq_true k3, decide_eq_true k4]; rfl)
            have d0 : decide (r.2 < 1) = false := decide_eq_false (by omega)
            have d1 : decide (1000000 < r.2) = false := decide_eq_false (by omega)
            have d2 : decide (r.1 < 0) = false := decide_eq_false (by omega)
            have d3 : decide (r.2 < r.1) = false := decide_eq_false (by omega)
            go_wp2_with fail
            refine (when_f _ _).mono ?_; rintro e w' ⟨rfl, rfl⟩
            have hI := hI.quiet ((G.refl wx none).alloc (.cells #[.int .i64 (cuE l u), .int .i64 0] 38))
            have hrs := hrs.quiet ((G.refl wx none).alloc (.cells #[.int .i64 (cuE l u), .int .i64 0] 38))
            have hF9 := hF9.quiet ((G.refl wx none).alloc (.cells #[.int .i64 (cuE l u), .int .i64 0] 38))
            go_wp2_with fail
            refine (errs_c [cuE l u, 0] _ _ (Rd.new #[.int .i64 (cuE l u), .int .i64 0] rfl (by show 2 ≤ maxLen; decide)) (by simp)).mono ?_; rintro e w' ⟨rfl, rfl⟩
            rw [hone]
            go_wp2_with fail
            go_meet
            case rel => exact ⟨rfl, hI, hrs, hF9⟩
        case rest =>
          obtain ⟨rfl, hI, hrs, hF9⟩ := hcut
          clear c0 c1
          generalize wc = wy at hI hrs hF9 ⊢
          go_upto_region 14 with fail
          go_cut [142] from 110 (fun s142 w => s142 = .bool false ∧ OdI W (.slice a4 l.length c4) l g r w ∧ Bk w f 35 (frV F))
          case first =>
            by_cases hc : coE l = 0
            · have hms2 : ms = spL l := by rw [hms, if_pos hc]
              subst hms2
              obtain ⟨hpc, hl9⟩ := coE_ok hc
              have hcl : (spL l).length ≤ 1000000 := by
                rw [spL, List.length_map, (cas_ok (pcs l) hpc).1]
                simp [pcs]
                omega
              have hne : (coE l == 0) = true := by simpa using hc
              have hnn : (coE l != 0) = false := by simpa using hc
              clear hc
              go_wp2_with fail
              refine (spreadOf_c _ l _ hI.1 hl9 hpc).mono ?_; rintro e wz ⟨v2, rfl, hrd2, hGz⟩
              have hI := hI.quiet hGz
              have hF9 := hF9.quiet hGz
              have hrs := hrs.quiet hGz
              clear hGz
              go_wp2_with fail
              refine (frEqual_c vs v2 _ _ _ hrs hrd2 hcl).mono ?_; rintro e wz2 ⟨rfl, hGz⟩
              rw [decide_eq_true (rfl : spL l = spL l)]
              have hI := hI.quiet hGz
              have hF9 := hF9.quiet hGz
              go_wp2_with fail
              go_meet
              case rel => exact ⟨rfl, hI, hF9⟩
            · have hv : ∃ a7 c7, vs = .slice a7 0 c7 := by
                obtain ⟨a7, c7, h, _⟩ := RdR.form hrs
                exact ⟨a7, c7, by rw [h, hms, if_neg hc]; rfl⟩
              obtain ⟨a7, c7, hv7⟩ := hv
              clear hrs hms
              have hlen0 : ∀ w : World, (Builtin.len_ #[37] 3 #[vs]).run Tryd.prog w = .ok (.int .i64 0) w := fun w => by rw [hv7]; rfl
              clear hv7
              have hne : (coE l == 0) = false := by simpa using hc
              have hnn : (coE l != 0) = true := by simpa using hc
              clear hc
              go_wp2_with fail
              go_meet
              case rel => exact ⟨rfl, hI, hF9⟩
          case rest =>
            obtain ⟨rfl, hI, hF9⟩ := hcut
            clear hrs hms
            generalize wc = wy at hI hF9 ⊢
            have hvh := hI.1.blk
            have hgh := hI.2.1.lt
            have hfh := hF9.lt
            have hWh := hI.2.2.size
            have hH := Bk.new wy 35 (frV (0, 0))
            have hI := hI.quiet ((G.refl wy none).alloc (.cells (frV (0, 0)) 35))
            have hF9 := hF9.quiet ((G.refl wy none).alloc (.cells (frV (0, 0)) 35))
            go_upto_if 145 with fail
            rw [show wy.alloc (.cells #[.int .i64 0, .int .i64 0] 35) = wy.alloc (.cells (frV (0, 0)) 35) from rfl]
            generalize wy.alloc (.cells (frV (0, 0)) 35) = wz at hH hI hF9 ⊢
            generalize wy.heap.size = h at hH hvh hgh hfh hWh ⊢
            go_cut [] from 144 (fun w => OdI W (.slice a4 l.length c4) l g r w ∧ Bk w f 35 (frV F) ∧ Bk w h 35 (frV F))
            case first =>
              by_cases hE : cuE l u = 0
              · obtain ⟨hpc, hl9, hui⟩ := cuE_ok hE
                have HFE : Hid (ovF l u = F) := Lib.hid (by rw [← HF.out, ovP, if_pos hE])
                have hee : (cuE l u == 0) = true := by simpa using hE
                clear hE
                go_wp2_with fail
                refine (overOfP_c _ l u _ hI.1 hl9 hpc).mono ?_; rintro e wk ⟨rfl, hGk⟩
                rw [HFE.out, show frV F = #[.int .i64 F.1, .int .i64 F.2] from rfl]
                have hI := hI.quiet hGk
                have hF9 := hF9.quiet hGk
                have hH := hH.quiet hGk
                go_wp2_with (refine wpList_store_row rfl 35 _ _ rfl h (frC F.1 F.2) rfl rfl 35 _ hH (fr_info F.1 F.2) rfl (fr_one F.1 F.2) ?_)
                go_meet
                case rel => exact ⟨hI.setRow (by omega) (fun j e => by have := hvh j e; omega) hWh _, hF9.farRow (by omega) _, hH.setRow _⟩
              · have HFE : Hid (F = (0, 0)) := Lib.hid (by rw [← HF.out, ovP, if_neg hE])
                have hee : (cuE l u == 0) = false := by simpa using hE
                clear hE
                go_wp2_with fail
                go_meet
                case rel => exact ⟨hI, hF9, by rw [HFE.out]; exact hH⟩
            case rest =>
              obtain ⟨hI, hF9, hH⟩ := hcut
              generalize wc = wx at hI hF9 hH ⊢
              go_upto_if 150 with fail
              go_cut [17] from 146 (fun s17 w => s17 = .int .i64 (moN l u r) ∧ OdI W (.slice a4 l.length c4) l g r w ∧ Bk w f 35 (frV F) ∧ Bk w h 35 (frV F))
              case first =>
                by_cases hE : moE l u r = 0
                · obtain ⟨z1, z2, z3, z4, z5, z6⟩ := mo_zero hE
                  obtain ⟨hpc, hl9, hui⟩ := cuE_ok z1
                  have HN : Hid ((mostK (ovG l u r) l.length : Nat) = moN l u r) := Lib.hid (by rw [moN, if_pos hE])
                  have hee : (moE l u r == 0) = true := by simpa using hE
                  clear hE z1 z2
                  go_wp2_with (refine wpList_load_row rfl 35 _ rfl g rfl 35 #[.int .i64 r.1, .int .i64 r.2] (0, 0) _ hI.2.1 Tryd.underlying35 rfl (fr_info r.1 r.2) ?_)
                  refine (mostOf_c _ l u r _ hI.1 hl9 hpc ⟨z3, z4, z5, z6⟩).mono ?_; rintro e wk ⟨rfl, hGk⟩
                  rw [HN.out]
                  have hI := hI.quiet hGk
                  have hF9 := hF9.quiet hGk
                  have hH := hH.quiet hGk
                  go_wp2_with fail
                  go_meet
                  case rel => exact ⟨rfl, hI, hF9, hH⟩
                · have HN : Hid (moN l u r = 0) := Lib.hid (by rw [moN, if_neg hE])
                  have hee : (moE l u r == 0) = false := by simpa using hE
                  clear hE
                  go_wp2_with fail
                  go_meet
                  case rel => exact ⟨by rw [HN.out], hI, hF9, hH⟩
              case rest =>
                obtain ⟨rfl, hI, hF9, hH⟩ := hcut
                generalize wc = wx at hI hF9 hH ⊢
                have heq := fr_eql F
                go_wp2_with (first | refine wpList_load_row rfl 35 _ rfl f rfl 35 #[.int .i64 F.1, .int .i64 F.2] (0, 0) _ hF9 Tryd.underlying35 rfl (fr_info F.1 F.2) ?_ | refine wpList_load_row rfl 35 _ rfl h rfl 35 #[.int .i64 F.1, .int .i64 F.2] (0, 0) _ hH Tryd.underlying35 rfl (fr_info F.1 F.2) ?_)
                refine (booked_c _).mono ?_; rintro e wk ⟨rfl, hGk⟩
                go_wp2_with fail
                go_ret
                exact ⟨rfl, hI.2.2.trans hGk⟩
end Go.Proofs.YtbieiefbgcgogaaDoor
