/- Dml, Lay. -/
import Derived.Test.YtndeidcddlmhbaaDoorZd2
import Derived.Test.YtndeidcddlmhbaaDoorZd3
import Derived.Test.YtndeidcddlmhbaaDoorRows
import Derived.Test.YtndeidcddlmhbaaDoorTie
import Derived.Test.YtndeidcddlmhbaaDoorCards
import Derived.Test.YtndeidcddlmhbaaDoorZd1
import Derived.LaidMore
import Derived.ChangeSame
import Derived.ProofKit
import Derived.OpenShut
import Derived.PinnedBridge
import Derived.Deep.DeepHandedRow
import Derived.Deep.DeepWitnessRowRef
/- The law DriversMay. -/
namespace Go.Proofs.YtndeidcddlmhbaaDoor
open Go.RowKit

theorem ag_rise : ∀ (l : List Ag) (b : ByteArray), agErr b l = 0 → ∀ p ∈ l, cmpI b p.1 < 0
  | [], _, _, p, hp => by cases hp
  | x :: r, b, h, p, hp => by
    unfold agErr at h
    split at h
    · omega
    · split at h
      · omega
      · rename_i hle
        split at h
        · omega
        · have hb : cmpI b x.1 < 0 := by
            rw [leB_cmp] at hle
            have h1 := cmpI_neg x.1 b
            simp at hle
            omega
          rcases List.mem_cons.1 hp with rfl | hp
          · exact hb
          · exact cmpI_trans hb (ag_rise r x.1 h p hp)
theorem agErr_tail {x : Ag} {r : List Ag} {b : ByteArray} (h : agErr b (x :: r) = 0) : agErr x.1 r = 0 := by
  unfold agErr at h
  split at h
  · omega
  · split at h
    · omega
    · split at h
      · omega
      · exact h
theorem agLast_no (s : ByteArray) : ∀ (l : List Ag) (acc : Int), (∀ q ∈ l, (q.1.toList == s.toList) = false) → agLast s acc l = acc
  | [], _, _ => rfl
  | x :: r, acc, h => by
    unfold agLast
    rw [h x (List.mem_cons_self ..)]
    exact agLast_no s r acc fun q hq => h q (List.mem_cons_of_mem _ hq)
theorem agLast_of (s : ByteArray) : ∀ (l : List Ag) (b : ByteArray), agErr b l = 0 → agLast s 0 l = agOf s l
  | [], _, _ => rfl
  | x :: r, b, h => by
    have ht := agErr_tail h
    unfold agLast agOf
    cases he : (x.1.toList == s.toList) with
    | true =>
      have hxs : x.1 = s := toList_ext (by simpa using he)
      rw [if_pos rfl, if_pos rfl]
      refine agLast_no s r x.2 fun q hq => ?_
      have h1 := ag_rise r x.1 ht q hq
      rw [hxs] at h1
      cases hq2 : (q.1.toList == s.toList) with
      | false => rfl
      | true =>
        have hqs : q.1 = s := toList_ext (by simpa using hq2)
        rw [hqs, cmpI_eq.2 rfl] at h1
        omega
    | false =>
      rw [if_neg (by decide), if_neg (by decide)]
      exact agLast_of s r x.1 ht
theorem agE_err {l : List Ag} (h : agE l = 0) : agErr ⟨#[]⟩ l = 0 := by
  unfold agE at h
  split at h
  · omega
  · exact h
theorem may_errs (l : List Dr) (m : List Ag) (d c : ByteArray) (a z q : Int) (hq : q = if drAt l d < 0 then 8 else 0) : errsOf [drE l, agE m, q, keyE c, tE a z] = mayE l m d c a z := by
  subst hq
  unfold mayE keyE
  show (if drE l = 0 then (if agE m = 0 then (if (if drAt l d < 0 then (8 : Int) else 0) = 0 then (if (if keyB c = true then (0 : Int) else 5) = 0 then (if tE a z = 0 then 0 else tE a z) else (if keyB c = true then 0 else 5)) else (if drAt l d < 0 then 8 else 0)) else agE m) else drE l) = _
  have e : (if tE a z = 0 then 0 else tE a z) = tE a z := by split <;> simp_all
  rw [e]
  cases keyB c <;> (by_cases h : drAt l d < 0 <;> simp [h])
theorem may_zero {l : List Dr} {m : List Ag} {d c : ByteArray} {a z : Int} (h : mayE l m d c a z = 0) : drE l = 0 ∧ agE m = 0 ∧ ¬ drAt l d < 0 ∧ tE a z = 0 := by
  unfold mayE at h
  by_cases h1 : drE l = 0
  · rw [if_pos h1] at h
    by_cases h2 : agE m = 0
    · rw [if_pos h2] at h
      by_cases h3 : drAt l d < 0
      · rw [if_pos h3] at h; omega
      · rw [if_neg h3] at h
        split at h
        · omega
        · exact ⟨h1, h2, h3, h⟩
    · rw [if_neg h2] at h; exact absurd h h2
  · rw [if_neg h1] at h; exact absurd h h1
/-- What stands throughout. -/
def DmI (W : World) (g q : Nat) (v u : Value) (l : List Dr) (m : List Ag) (d : ByteArray) (a z : Int) (w : World) : Prop :=
  RdR w 4 drC v l ∧ RdR w 2 agC u m ∧ Bk w g 9 #[.string d] ∧ Bk w q 29 #[.int .i64 a, .int .i64 z] ∧ G W w none
theorem DmI.quiet {W w w' : World} {g q : Nat} {v u : Value} {l : List Dr} {m : List Ag} {d : ByteArray} {a z : Int} (h : DmI W g q v u l m d a z w) (hG : G w w' none) : DmI W g q v u l m d a z w' :=
  ⟨h.1.quiet hG, h.2.1.quiet hG, h.2.2.1.quiet hG, h.2.2.2.1.quiet hG, h.2.2.2.2.trans hG⟩
set_option maxRecDepth 100000 in
set_option maxHeartbeats 16000000 in
theorem driversMay_c (a : Option Addr) (n c : Nat) (zs : List Int) (W : World) (hr : Rd W 1 (.slice a n c) n (zs.map (Value.int .i64))) (hz : ∀ z ∈ zs, -9223372036854775808 ≤ z ∧ z ≤ 9223372036854775807) :
    Calls Tryd.prog 5 #[.slice a n c] W fun e W' => e = .returned (.bool true) ∧ G W W' none := by
  have hSB : SB (W.alloc (.cells #[.slice a n c, .int .i64 0] 25)) W.heap.size 0 := by
    have hB := Bk.new W 25 #[.slice a n c, .int .i64 0]
    refine ⟨0, a, n, c, zs, Nat.le_refl _, hr.quiet ((G.refl _ _).alloc _), fun b e => ?_, hz, hB.cell 0, hB.cell 1, hB.free 1, hB.lt⟩
    obtain ⟨a', c', e', r1, r2, r3, r4, r5⟩ := hr
    cases e'
    exact (r5 b e).2.1
  have hG0 : G W (W.alloc (.cells #[.slice a n c, .int .i64 0] 25)) (some W.heap.size) := (G.refl _ _).alloc _
  clear hr hz
  go_enter Tryd.func5, Tryd.ntmps5
  go_wp2_with fail
  refine (drivers_c _ W.heap.size 0 hSB (by omega)).mono ?_; rintro e w1 ⟨v, l, rfl, hown, hl, hln, hSB1, hG1⟩
  have hv1 := OwnX.low hown
  have hrd1 := Rd.of_owns hown
  have hG01 := hG0.trans hG1
  have hvs : ∀ k, v.ownBlock = some k → W.heap.size + 1 ≤ k := fun k hk => by have := hv1 k hk; simp at this; omega
  clear hSB hG0 hG1 hown hv1
  go_wp2_with fail
  refine (ages_c _ W.heap.size _ hSB1 (by omega)).mono ?_; rintro e w2 ⟨u, m, rfl, hrd, hm, hmn, hu1, hSB2, hG2⟩
  have hus : ∀ k, u.ownBlock = some k → W.heap.size + 1 ≤ k := fun k hk => by have := hu1 k hk; have := hSB1.lt; omega
  have hrv2 := Rd.grown hrd1 hG2 (fun k e hk => by cases e; have := hvs _ hk; omega)
  have hG02 := hG01.trans hG2
  clear hrd1 hG01 hG2 hSB1 hu1
  go_wp2_with fail
  refine (some_c _ _ _ [⟨#[97, 110, 110]⟩, ⟨#[98, 111, 98]⟩, ⟨#[99, 105, 100]⟩, ⟨#[110, 111, 110, 101]⟩] _ _ _ (hSB2.alloc _) (by omega) (by decide) (by decide) (Rd.newAt _ rfl rfl (by decide)) (hSB2.newAt _ _ _ (Nat.le_refl _))).mono ?_; rintro e w3 ⟨d, rfl, hp, hSB3, hG3⟩
  have hrv3 := Rd.grown (hrv2.quiet ((G.refl w2 none).alloc _)) hG3 (fun k e hk => by cases e; have := hvs _ hk; omega)
  have hru3 := Rd.grown (hrd.quiet ((G.refl w2 none).alloc _)) hG3 (fun k e hk => by cases e; have := hus _ hk; omega)
  have hG03 := (hG02.alloc _).trans hG3
  clear hrv2 hrd hG02 hG3 hSB2 hp
  go_wp2_with fail
  refine (classKey_c _ W.heap.size _ hSB3 (by omega)).mono ?_; rintro e w4 ⟨ck, rfl, hck, hSB4, hG4⟩
  have HCK := Lib.hid hck
  have hrv4 := Rd.grown hrv3 hG4 (fun k e hk => by cases e; have := hvs _ hk; omega)
  have hru4 := Rd.grown hru3 hG4 (fun k e hk => by cases e; have := hus _ hk; omega)
  have hG04 := hG03.trans hG4
  clear hrv3 hru3 hG03 hG4 hSB3 hck
  go_wp2_with fail
  refine (time_c _ W.heap.size _ hSB4 (by omega)).mono ?_; rintro e w5 ⟨x, y, rfl, hx, hy, hSB5, hG5⟩
  have hrv5 := Rd.grown hrv4 hG5 (fun k e hk => by cases e; have := hvs _ hk; omega)
  have hru5 := Rd.grown hru4 hG5 (fun k e hk => by cases e; have := hus _ hk; omega)
  have hG05 := hG04.trans hG5
  clear hrv4 hru4 hG04 hG5 hSB4
  have hs5 := hSB5.lt
  obtain ⟨a1, n1, hvv, hc1, hm1⟩ := RdR.form hrv5
  obtain ⟨a2, n2, huu, hc2, hm2⟩ := RdR.form hru5
  subst hvv huu
  have HL := Lib.hid hl
  have HM := Lib.hid hm
  have HX := Lib.hid (And.intro hx hy)
  clear hl hm hx hy
  go_upto_region 3 with fail
  have hg6 : Bk ((w5.alloc (.cells #[.string d] 9)).alloc (.cells #[.int .i64 x, .int .i64 y] 29)) w5.heap.size 9 #[.string d] := (Bk.new _ _ _).alloc _
  have hq6 : Bk ((w5.alloc (.cells #[.string d] 9)).alloc (.cells #[.int .i64 x, .int .i64 y] 29)) (w5.heap.size + 1) 29 #[.int .i64 x, .int .i64 y] := Bk.newAt (by simp) _ _
  have hrv6 := (hrv5.quiet ((G.refl w5 none).alloc (.cells #[.string d] 9))).quiet ((G.refl (w5.alloc (.cells #[.string d] 9)) none).alloc (.cells #[.int .i64 x, .int .i64 y] 29))
  have hru6 := (hru5.quiet ((G.refl w5 none).alloc (.cells #[.string d] 9))).quiet ((G.refl (w5.alloc (.cells #[.string d] 9)) none).alloc (.cells #[.int .i64 x, .int .i64 y] 29))
  have hG06 := (hG05.alloc (.cells #[.string d] 9)).alloc (.cells #[.int .i64 x, .int .i64 y] 29)
  have hSB6 := (hSB5.alloc (.cells #[.string d] 9)).alloc (.cells #[.int .i64 x, .int .i64 y] 29)
  have hvb := hrv5.blk
  have hub := hru5.blk
  clear hrv5 hru5 hG05 hSB5
  generalize (w5.alloc (.cells #[.string d] 9)).alloc (.cells #[.int .i64 x, .int .i64 y] 29) = w6 at hg6 hq6 hrv6 hru6 hG06 hSB6 ⊢
  generalize w5.heap.size = g at hg6 hq6 hs5 hvb hub ⊢
  go_wp2_with fail
  refine (flip_c _ _ _ _ hSB6 (by omega) (by omega)).mono ?_; rintro e w7 ⟨b, rfl, hSB7, hG7⟩
  have hI : DmI W g (g + 1) (.slice a1 l.length n1) (.slice a2 m.length n2) l m d x y w7 := ⟨Rd.grown hrv6 hG7 (fun k e hk => by cases e; have := hvs _ hk; omega), Rd.grown hru6 hG7 (fun k e hk => by cases e; have := hus _ hk; omega), hg6.grown hG7 (fun e => by have := Option.some.inj e; omega), hq6.grown hG7 (fun e => by have := Option.some.inj e; omega), G.own (hG06.trans hG7) (Nat.le_refl _)⟩
  clear hg6 hq6 hrv6 hru6 hG06 hSB6 hG7
  go_upto_if 28 with fail
  go_cut [] from 29 (fun w => ∃ a z, (bnd a ∧ bnd z) ∧ DmI W g (g + 1) (.slice a1 l.length n1) (.slice a2 m.length n2) l m d a z w)
  case first =>
    cases b with
    | false =>
      go_wp2_with fail
      go_meet
      case rel => exact ⟨x, y, HX.out, hI⟩
    | true =>
      go_wp2_with fail
      refine (pick_c _ _ _ [0, 1440, 7200] _ _ _ (hSB7.alloc _) (by omega) (by decide) (by decide) (Rd.newAt _ rfl rfl (by decide)) (hSB7.newAt _ _ _ (Nat.le_refl _))).mono ?_; rintro e w8 ⟨f, rfl, hp, hSB8, hG8⟩
      have hf := bnd_pick hp (by decide)
      have hGf := ((G.refl w7 (some W.heap.size)).alloc (.cells _ 3)).trans hG8
      clear hSB7 hG8 hp
      go_wp2_with fail
      refine (pick_c _ _ _ [1440, 1441, 2880, 2881, 7201, 10080] _ _ _ (hSB8.alloc _) (by omega) (by decide) (by decide) (Rd.newAt _ rfl rfl (by decide)) (hSB8.newAt _ _ _ (Nat.le_refl _))).mono ?_; rintro e w9 ⟨t, rfl, hp, hSB9, hG9⟩
      have ht := bnd_pick hp (by decide)
      have hGt := (hGf.alloc (.cells _ 3)).trans hG9
      clear hSB8 hG9 hp hGf
      obtain ⟨i1, i2, i3, i4, i5⟩ := hI
      have i1 := Rd.grown i1 hGt (fun k e hk => by cases e; have := hvs _ hk; omega)
      have i2 := Rd.grown i2 hGt (fun k e hk => by cases e; have := hus _ hk; omega)
      have i3 := i3.grown hGt (fun e => by have := Option.some.inj e; omega)
      have i4 := i4.grown hGt (fun e => by have := Option.some.inj e; omega)
      have i5 := G.own ((i5.but (some W.heap.size)).trans hGt) (Nat.le_refl _)
      go_wp2_with (refine wpList_store_row rfl 29 _ _ rfl (g + 1) #[.int .i64 f, .int .i64 t] rfl rfl 29 _ i4 (wi_info f t) rfl (wi_one f t) ?_)
      go_meet
      case rel => exact ⟨f, t, ⟨hf, ht⟩, Rd.grown i1 ((G.refl w9 (some (g + 1))).setRow (.inr rfl) _) (fun k e hk => by cases e; have := hvb _ hk; omega), Rd.grown i2 ((G.refl w9 (some (g + 1))).setRow (.inr rfl) _) (fun k e hk => by cases e; have := hub _ hk; omega), i3.farRow (by omega) _, i4.setRow _, i5.setRow (.inl (by omega)) _⟩
  case rest =>
    obtain ⟨x, y, ⟨hx, hy⟩, hI⟩ := hcut
    clear hvs hus hvb hub hSB7 HX
    have HXY := Lib.hid (And.intro hx hy)
    have s0 : wc.cell? ⟨g, 0, none⟩ = some (.string d) := hI.2.2.1.cell 0
    clear hx hy
    go_wp2_with (refine wpList_load_row rfl 29 _ rfl (g + 1) rfl 29 #[.int .i64 x, .int .i64 y] (0, 0) _ hI.2.2.2.1 Tryd.underlying29 rfl (wi_info _ _) ?_)
    refine (may_c _ _ l m d ck x y _ hI.1 hI.2.1 HL.out HM.out HCK.out HXY.out.1 HXY.out.2 (by omega) (by omega)).mono ?_; rintro e wd ⟨ok, rfl, hok0, hok1, hH⟩
    have hI := hI.quiet hH
    clear hH s0
    obtain ⟨F, hF⟩ : ∃ F, mayE l m d ck x y = F := ⟨_, rfl⟩
    rw [hF] at hok0 ⊢
    have HOK0 := Lib.hid hok0
    have HOK1 := Lib.hid hok1
    have HFF := Lib.hid hF
    clear hok0 hok1 hF
    have hok0 := HOK0
    go_wp2_with fail
    refine (driversFault_c _ l _ hI.1 HL.out (by omega)).mono ?_; rintro e we ⟨rfl, hH⟩
    have hI := hI.quiet hH
    clear hH
    go_wp2_with fail
    refine (checkDrivers_c _ l _ hI.1 HL.out (by omega)).mono ?_; rintro e wf ⟨rfl, hH⟩
    have hI := hI.quiet hH
    clear hH
    go_wp2_with fail
    refine (indexL_c _ l d g _ hI.1 (by omega) hI.2.2.1).mono ?_; rintro e wg ⟨rfl, hH⟩
    have hI := hI.quiet hH
    clear hH
    rcases drAt_spec l d with k3 | ⟨i, p, k3, hip⟩
    · have hone : Hid (errsOf [drE l, agE m, 8, keyE ck, tE x y] = F) := Lib.hid (by rw [← HFF.out]; exact may_errs l m d ck x y 8 (by rw [k3]; rfl))
      have hF0 : F ≠ 0 := fun h => by
        have := (may_zero (HFF.out.trans h)).2.2.1
        omega
      have HF0 := Lib.hid hF0
      rw [k3]
      clear k3 hF0
      go_wp2_with fail
      have hId := hI.quiet ((G.refl wg none).drew)
      clear hI
      refine wp_region_held_drew (S := (fun w' => w'.cell? ⟨g + 1, 0, none⟩ = some (.int .i64 x) ∧ w'.cell? ⟨g + 1, 1, none⟩ = some (.int .i64 y))) (by kernel_rfl) ?_ (fun hHeld => ?_)
      · exact ⟨hId.2.2.2.1.cell 0, hId.2.2.2.1.cell 1⟩
      refine wpAnyH_take (i := 0) (oi := { dst := some 54, op := Op.move (Operand.tmp 11), type := 36, pos := _, after := #[], guard := none }) (v := ?_) rfl (by kernel_rfl) (by kernel_rfl) (by kernel_rfl) (fun _ _ _ h => h) (Or.inl ⟨by rfl, ?_⟩) (by assumption) ?_
      rotate_left
      · (intro w hSw; obtain ⟨s0, s1⟩ := hSw; (go_simp <;> with_reducible rfl))
      try simp only [Act.put, List.setIfInBounds_toArray, List.set_cons_zero, List.set_cons_succ]
      refine wpAnyH_take (i := 1) (oi := { dst := some 55, op := Op.move (Operand.tmp 5), type := 61, pos := _, after := #[], guard := none }) (v := ?_) rfl (by kernel_rfl) (by kernel_rfl) (by kernel_rfl) (fun _ _ _ h => h) (Or.inl ⟨by rfl, ?_⟩) (by assumption) ?_
      rotate_left
      · (intro w hSw; obtain ⟨s0, s1⟩ := hSw; (go_simp <;> with_reducible rfl))
      try simp only [Act.put, List.setIfInBounds_toArray, List.set_cons_zero, List.set_cons_succ]
      refine wpAnyH_take (i := 3) (oi := { dst := some 57, op := Op.move (Operand.tmp 12), type := 3, pos := _, after := #[], guard := none }) (v := ?_) rfl (by kernel_rfl) (by kernel_rfl) (by kernel_rfl) (fun _ _ _ h => h) (Or.inl ⟨by rfl, ?_⟩) (by assumption) ?_
      rotate_left
      · (intro w hSw; obtain ⟨s0, s1⟩ := hSw; (go_simp <;> with_reducible rfl))
      try simp only [Act.put, List.setIfInBounds_toArray, List.set_cons_zero, List.set_cons_succ]
      refine wpAnyH_take (i := 4) (oi := { dst := some 58, op := Op.binOp BinOp.lss 3 (Operand.tmp 57) (Operand.const (Value.int IntKind.i64 0)) 3, type := 4, pos := _, after := #[{ on := 3, ground := Ground.data }], guard := none }) (v := ?_) rfl (by kernel_rfl) (by kernel_rfl) (by kernel_rfl) (fun _ _ _ h => h) (Or.inl ⟨by rfl, ?_⟩) (by assumption) ?_
      rotate_left
      · (intro w hSw; obtain ⟨s0, s1⟩ := hSw; (go_simp <;> with_reducible rfl))
      try simp only [Act.put, List.setIfInBounds_toArray, List.set_cons_zero, List.set_cons_succ]
      refine wpAnyH_take (i := 6) (oi := { dst := some 60, op := Op.move (Operand.tmp 7), type := 9, pos := _, after := #[], guard := none }) (v := ?_) rfl (by kernel_rfl) (by kernel_rfl) (by kernel_rfl) (fun _ _ _ h => h) (Or.inl ⟨by rfl, ?_⟩) (by assumption) ?_
      rotate_left
      · (intro w hSw; obtain ⟨s0, s1⟩ := hSw; (go_simp <;> with_reducible rfl))
      try simp only [Act.put, List.setIfInBounds_toArray, List.set_cons_zero, List.set_cons_succ]
      refine wpAnyH_take (i := 8) (oi := { dst := some 62, op := Op.load 29 (Operand.tmp 8), type := 29, pos := _, after := #[], guard := none }) (v := ?_) rfl (by kernel_rfl) (by kernel_rfl) (by kernel_rfl) (fun _ _ _ h => h) (Or.inl ⟨by rfl, ?_⟩) (by assumption) ?_
      rotate_left
      · (intro w hSw; obtain ⟨s0, s1⟩ := hSw; (go_simp <;> with_reducible rfl))
      try simp only [Act.put, List.setIfInBounds_toArray, List.set_cons_zero, List.set_cons_succ]
      refine wpAnyH_ready (rs := [2]) (by kernel_rfl) (by simp) ?_
      refine AllReadyH.cons (o := { dst := some 56, op := Op.call { callee := Callee.value (Operand.func 39), args := #[Operand.tmp 55], argTypes := #[61] }, type := 36, pos := _, after := #[{ on := 1, ground := Ground.data }], guard := none }) rfl (fun K hK => ?_) AllReadyH.nil
      go_simp
      refine (agesFault_c _ m _ hId.2.1 HM.out (by omega)).mono ?_
      rintro e y1 ⟨rfl, hH⟩
      have hI1 := hId.quiet hH
      clear hH
      refine hK.out _ _ ?_ (fun hHeld => ?_)
      · exact ⟨hI1.2.2.2.1.cell 0, hI1.2.2.2.1.cell 1⟩
      clear hK K
      try simp only [Act.put, List.setIfInBounds_toArray, List.set_cons_zero, List.set_cons_succ]
      refine wpAnyH_ready (rs := [5]) (by kernel_rfl) (by simp) ?_
      refine AllReadyH.cons (o := { dst := some 59, op := Op.call { callee := Callee.value (Operand.func 20), args := #[Operand.tmp 58, Operand.const (Value.int IntKind.i64 8)], argTypes := #[4, 36] }, type := 36, pos := _, after := #[{ on := 4, ground := Ground.data }, { on := 2, ground := Ground.chain }], guard := none }) rfl (fun K hK => ?_) AllReadyH.nil
      go_simp
      refine (when_t _ _).mono ?_
      rintro e w' ⟨rfl, rfl⟩
      refine hK.out _ _ ?_ (fun hHeld => ?_)
      · exact ⟨hI1.2.2.2.1.cell 0, hI1.2.2.2.1.cell 1⟩
      clear hK K
      try simp only [Act.put, List.setIfInBounds_toArray, List.set_cons_zero, List.set_cons_succ]
      refine wpAnyH_ready (rs := [7]) (by kernel_rfl) (by simp) ?_
      refine AllReadyH.cons (o := { dst := some 61, op := Op.call { callee := Callee.value (Operand.func 40), args := #[Operand.tmp 60], argTypes := #[9] }, type := 36, pos := _, after := #[{ on := 6, ground := Ground.data }, { on := 5, ground := Ground.chain }], guard := none }) rfl (fun K hK => ?_) AllReadyH.nil
      go_simp
      refine (keyFault_c ck _ HCK.out).mono ?_
      rintro e y2 ⟨rfl, hH⟩
      have hI2 := hI1.quiet hH
      clear hH
      refine hK.out _ _ ?_ (fun hHeld => ?_)
      · exact ⟨hI2.2.2.2.1.cell 0, hI2.2.2.2.1.cell 1⟩
      clear hK K
      try simp only [Act.put, List.setIfInBounds_toArray, List.set_cons_zero, List.set_cons_succ]
      refine wpAnyH_ready (rs := [9]) (by kernel_rfl) (by simp) ?_
      refine AllReadyH.cons (o := { dst := some 63, op := Op.call { callee := Callee.value (Operand.func 41), args := #[Operand.tmp 62], argTypes := #[29] }, type := 36, pos := _, after := #[{ on := 8, ground := Ground.data }, { on := 7, ground := Ground.chain }], guard := none }) rfl (fun K hK => ?_) AllReadyH.nil
      go_simp
      refine (timeFault_c x y _ HXY.out.1 HXY.out.2).mono ?_
      rintro e y3 ⟨rfl, hH⟩
      have hI3 := hI2.quiet hH
      clear hH
      refine hK.out _ _ ?_ (fun hHeld => ?_)
      · exact ⟨hI3.2.2.2.1.cell 0, hI3.2.2.2.1.cell 1⟩
      clear hK K
      try simp only [Act.put, List.setIfInBounds_toArray, List.set_cons_zero, List.set_cons_succ]
      refine wpAnyH_ready (rs := [10]) (by kernel_rfl) (by simp) ?_
      refine AllReadyH.cons (o := { dst := some 64, op := Op.buildSlice 127 5 #[(0, Operand.tmp 54), (1, Operand.tmp 56), (2, Operand.tmp 59), (3, Operand.tmp 61), (4, Operand.tmp 63)], type := 127, pos := _, after := #[{ on := 0, ground := Ground.data }, { on := 2, ground := Ground.data }, { on := 5, ground := Ground.data }, { on := 7, ground := Ground.data }, { on := 9, ground := Ground.data }], guard := none }) rfl (fun K hK => ?_) AllReadyH.nil
      go_simp
      have hI4 := hI3.quiet ((G.refl y3 none).alloc (.cells #[.int .i64 (drE l), .int .i64 (agE m), .int .i64 8, .int .i64 (keyE ck), .int .i64 (tE x y)] 36))
      refine hK.out _ _ ?_ (fun hHeld => ?_)
      · exact ⟨hI4.2.2.2.1.cell 0, hI4.2.2.2.1.cell 1⟩
      clear hK K
      try simp only [Act.put, List.setIfInBounds_toArray, List.set_cons_zero, List.set_cons_succ]
      refine wpAnyH_ready (rs := [11]) (by kernel_rfl) (by simp) ?_
      refine AllReadyH.cons (o := { dst := some 65, op := Op.call { callee := Callee.value (Operand.func 18), args := #[Operand.tmp 64], argTypes := #[127] }, type := 36, pos := _, after := #[{ on := 10, ground := Ground.data }, { on := 9, ground := Ground.chain }], guard := none }) rfl (fun K hK => ?_) AllReadyH.nil
      go_simp
      refine (errs_c [drE l, agE m, 8, keyE ck, tE x y] _ _ (Rd.new #[.int .i64 (drE l), .int .i64 (agE m), .int .i64 8, .int .i64 (keyE ck), .int .i64 (tE x y)] rfl (by show 5 ≤ maxLen; decide)) (by simp)).mono ?_
      rintro e w' ⟨rfl, rfl⟩
      rw [hone.out]
      refine hK.out _ _ ?_ (fun hHeld => ?_)
      · exact ⟨hI4.2.2.2.1.cell 0, hI4.2.2.2.1.cell 1⟩
      clear hK K
      try simp only [Act.put, List.setIfInBounds_toArray, List.set_cons_zero, List.set_cons_succ]
      refine wpAnyH_take (i := 12) (oi := { dst := some 11, op := Op.assign (Operand.tmp 65), type := 36, pos := _, after := #[{ on := 11, ground := Ground.data }, { on := 11, ground := Ground.chain }, { on := 0, ground := Ground.phase }, { on := 1, ground := Ground.phase }, { on := 2, ground := Ground.phase }, { on := 3, ground := Ground.phase }, { on := 4, ground := Ground.phase }, { on := 5, ground := Ground.phase }, { on := 6, ground := Ground.phase }, { on := 7, ground := Ground.phase }, { on := 8, ground := Ground.phase }, { on := 9, ground := Ground.phase }, { on := 10, ground := Ground.phase }, { on := 11, ground := Ground.phase }], guard := none }) (v := ?_) rfl (by kernel_rfl) (by kernel_rfl) (by kernel_rfl) (fun _ _ _ h => h) (Or.inl ⟨by rfl, ?_⟩) (by assumption) ?_
      rotate_left
      · (intro w hSw; obtain ⟨s0, s1⟩ := hSw; (go_simp <;> with_reducible rfl))
      try simp only [Act.put, List.setIfInBounds_toArray, List.set_cons_zero, List.set_cons_succ]
      refine wpAnyH_done (by kernel_rfl) ?_ _
      have hF0 := HF0.out
      have hok := hok0.out hF0
      subst hok
      have hF1 : (F != 0) = true := by simpa using hF0
      clear hF0
      go_wp2_with fail
      refine (hired_c _).mono ?_; rintro e y9 ⟨rfl, hH⟩
      go_wp2_with fail
      go_ret
      exact ⟨rfl, hI4.2.2.2.2.trans hH⟩
    · have hone : Hid (errsOf [drE l, agE m, 0, keyE ck, tE x y] = F) := Lib.hid (by rw [← HFF.out]; exact may_errs l m d ck x y 0 (by rw [k3, if_neg (by omega)]))
      have HK3 := Lib.hid k3
      have HIP := Lib.hid hip
      have hin : ¬ ((i : Int) < 0) := by omega
      have hil : i < l.length := (List.getElem?_eq_some_iff.1 hip).1
      have hii : (i : Int) < (l.length : Int) := by omega
      rw [k3]
      clear k3 hip hil
      go_wp2_with fail
      have hId := hI.quiet ((G.refl wg none).drew)
      clear hI
      refine wp_region_held_drew (S := (fun w' => w'.cell? ⟨g + 1, 0, none⟩ = some (.int .i64 x) ∧ w'.cell? ⟨g + 1, 1, none⟩ = some (.int .i64 y))) (by kernel_rfl) ?_ (fun hHeld => ?_)
      · exact ⟨hId.2.2.2.1.cell 0, hId.2.2.2.1.cell 1⟩
      refine wpAnyH_take (i := 0) (oi := { dst := some 54, op := Op.move (Operand.tmp 11), type := 36, pos := _, after := #[], guard := none }) (v := ?_) rfl (by kernel_rfl) (by kernel_rfl) (by kernel_rfl) (fun _ _ _ h => h) (Or.inl ⟨by rfl, ?_⟩) (by assumption) ?_
      rotate_left
      · (intro w hSw; obtain ⟨s0, s1⟩ := hSw; (go_simp <;> with_reducible rfl))
      try simp only [Act.put, List.setIfInBounds_toArray, List.set_cons_zero, List.set_cons_succ]
      refine wpAnyH_take (i := 1) (oi := { dst := some 55, op := Op.move (Operand.tmp 5), type := 61, pos := _, after := #[], guard := none }) (v := ?_) rfl (by kernel_rfl) (by kernel_rfl) (by kernel_rfl) (fun _ _ _ h => h) (Or.inl ⟨by rfl, ?_⟩) (by assumption) ?_
      rotate_left
      · (intro w hSw; obtain ⟨s0, s1⟩ := hSw; (go_simp <;> with_reducible rfl))
      try simp only [Act.put, List.setIfInBounds_toArray, List.set_cons_zero, List.set_cons_succ]
      refine wpAnyH_take (i := 3) (oi := { dst := some 57, op := Op.move (Operand.tmp 12), type := 3, pos := _, after := #[], guard := none }) (v := ?_) rfl (by kernel_rfl) (by kernel_rfl) (by kernel_rfl) (fun _ _ _ h => h) (Or.inl ⟨by rfl, ?_⟩) (by assumption) ?_
      rotate_left
      · (intro w hSw; obtain ⟨s0, s1⟩ := hSw; (go_simp <;> with_reducible rfl))
      try simp only [Act.put, List.setIfInBounds_toArray, List.set_cons_zero, List.set_cons_succ]
      refine wpAnyH_take (i := 4) (oi := { dst := some 58, op := Op.binOp BinOp.lss 3 (Operand.tmp 57) (Operand.const (Value.int IntKind.i64 0)) 3, type := 4, pos := _, after := #[{ on := 3, ground := Ground.data }], guard := none }) (v := ?_) rfl (by kernel_rfl) (by kernel_rfl) (by kernel_rfl) (fun _ _ _ h => h) (Or.inl ⟨by rfl, ?_⟩) (by assumption) ?_
      rotate_left
      · (intro w hSw; obtain ⟨s0, s1⟩ := hSw; (go_simp <;> with_reducible rfl))
      try simp only [Act.put, List.setIfInBounds_toArray, List.set_cons_zero, List.set_cons_succ]
      refine wpAnyH_take (i := 6) (oi := { dst := some 60, op := Op.move (Operand.tmp 7), type := 9, pos := _, after := #[], guard := none }) (v := ?_) rfl (by kernel_rfl) (by kernel_rfl) (by kernel_rfl) (fun _ _ _ h => h) (Or.inl ⟨by rfl, ?_⟩) (by assumption) ?_
      rotate_left
      · (intro w hSw; obtain ⟨s0, s1⟩ := hSw; (go_simp <;> with_reducible rfl))
      try simp only [Act.put, List.setIfInBounds_toArray, List.set_cons_zero, List.set_cons_succ]
      refine wpAnyH_take (i := 8) (oi := { dst := some 62, op := Op.load 29 (Operand.tmp 8), type := 29, pos := _, after := #[], guard := none }) (v := ?_) rfl (by kernel_rfl) (by kernel_rfl) (by kernel_rfl) (fun _ _ _ h => h) (Or.inl ⟨by rfl, ?_⟩) (by assumption) ?_
      rotate_left
      · (intro w hSw; obtain ⟨s0, s1⟩ := hSw; (go_simp <;> with_reducible rfl))
      try simp only [Act.put, List.setIfInBounds_toArray, List.set_cons_zero, List.set_cons_succ]
      refine wpAnyH_ready (rs := [2]) (by kernel_rfl) (by simp) ?_
      refine AllReadyH.cons (o := { dst := some 56, op := Op.call { callee := Callee.value (Operand.func 39), args := #[Operand.tmp 55], argTypes := #[61] }, type := 36, pos := _, after := #[{ on := 1, ground := Ground.data }], guard := none }) rfl (fun K hK => ?_) AllReadyH.nil
      go_simp
      refine (agesFault_c _ m _ hId.2.1 HM.out (by omega)).mono ?_
      rintro e y1 ⟨rfl, hH⟩
      have hI1 := hId.quiet hH
      clear hH
      refine hK.out _ _ ?_ (fun hHeld => ?_)
      · exact ⟨hI1.2.2.2.1.cell 0, hI1.2.2.2.1.cell 1⟩
      clear hK K
      try simp only [Act.put, List.setIfInBounds_toArray, List.set_cons_zero, List.set_cons_succ]
      refine wpAnyH_ready (rs := [5]) (by kernel_rfl) (by simp) ?_
      refine AllReadyH.cons (o := { dst := some 59, op := Op.call { callee := Callee.value (Operand.func 20), args := #[Operand.tmp 58, Operand.const (Value.int IntKind.i64 8)], argTypes := #[4, 36] }, type := 36, pos := _, after := #[{ on := 4, ground := Ground.data }, { on := 2, ground := Ground.chain }], guard := none }) rfl (fun K hK => ?_) AllReadyH.nil
      go_simp
      refine (when_f _ _).mono ?_
      rintro e w' ⟨rfl, rfl⟩
      refine hK.out _ _ ?_ (fun hHeld => ?_)
      · exact ⟨hI1.2.2.2.1.cell 0, hI1.2.2.2.1.cell 1⟩
      clear hK K
      try simp only [Act.put, List.setIfInBounds_toArray, List.set_cons_zero, List.set_cons_succ]
      refine wpAnyH_ready (rs := [7]) (by kernel_rfl) (by simp) ?_
      refine AllReadyH.cons (o := { dst := some 61, op := Op.call { callee := Callee.value (Operand.func 40), args := #[Operand.tmp 60], argTypes := #[9] }, type := 36, pos := _, after := #[{ on := 6, ground := Ground.data }, { on := 5, ground := Ground.chain }], guard := none }) rfl (fun K hK => ?_) AllReadyH.nil
      go_simp
      refine (keyFault_c ck _ HCK.out).mono ?_
      rintro e y2 ⟨rfl, hH⟩
      have hI2 := hI1.quiet hH
      clear hH
      refine hK.out _ _ ?_ (fun hHeld => ?_)
      · exact ⟨hI2.2.2.2.1.cell 0, hI2.2.2.2.1.cell 1⟩
      clear hK K
      try simp only [Act.put, List.setIfInBounds_toArray, List.set_cons_zero, List.set_cons_succ]
      refine wpAnyH_ready (rs := [9]) (by kernel_rfl) (by simp) ?_
      refine AllReadyH.cons (o := { dst := some 63, op := Op.call { callee := Callee.value (Operand.func 41), args := #[Operand.tmp 62], argTypes := #[29] }, type := 36, pos := _, after := #[{ on := 8, ground := Ground.data }, { on := 7, ground := Ground.chain }], guard := none }) rfl (fun K hK => ?_) AllReadyH.nil
      go_simp
      refine (timeFault_c x y _ HXY.out.1 HXY.out.2).mono ?_
      rintro e y3 ⟨rfl, hH⟩
      have hI3 := hI2.quiet hH
      clear hH
      refine hK.out _ _ ?_ (fun hHeld => ?_)
      · exact ⟨hI3.2.2.2.1.cell 0, hI3.2.2.2.1.cell 1⟩
      clear hK K
      try simp only [Act.put, List.setIfInBounds_toArray, List.set_cons_zero, List.set_cons_succ]
      refine wpAnyH_ready (rs := [10]) (by kernel_rfl) (by simp) ?_
      refine AllReadyH.cons (o := { dst := some 64, op := Op.buildSlice 127 5 #[(0, Operand.tmp 54), (1, Operand.tmp 56), (2, Operand.tmp 59), (3, Operand.tmp 61), (4, Operand.tmp 63)], type := 127, pos := _, after := #[{ on := 0, ground := Ground.data }, { on := 2, ground := Ground.data }, { on := 5, ground := Ground.data }, { on := 7, ground := Ground.data }, { on := 9, ground := Ground.data }], guard := none }) rfl (fun K hK => ?_) AllReadyH.nil
      go_simp
      have hI4 := hI3.quiet ((G.refl y3 none).alloc (.cells #[.int .i64 (drE l), .int .i64 (agE m), .int .i64 0, .int .i64 (keyE ck), .int .i64 (tE x y)] 36))
      refine hK.out _ _ ?_ (fun hHeld => ?_)
      · exact ⟨hI4.2.2.2.1.cell 0, hI4.2.2.2.1.cell 1⟩
      clear hK K
      try simp only [Act.put, List.setIfInBounds_toArray, List.set_cons_zero, List.set_cons_succ]
      refine wpAnyH_ready (rs := [11]) (by kernel_rfl) (by simp) ?_
      refine AllReadyH.cons (o := { dst := some 65, op := Op.call { callee := Callee.value (Operand.func 18), args := #[Operand.tmp 64], argTypes := #[127] }, type := 36, pos := _, after := #[{ on := 10, ground := Ground.data }, { on := 9, ground := Ground.chain }], guard := none }) rfl (fun K hK => ?_) AllReadyH.nil
      go_simp
      refine (errs_c [drE l, agE m, 0, keyE ck, tE x y] _ _ (Rd.new #[.int .i64 (drE l), .int .i64 (agE m), .int .i64 0, .int .i64 (keyE ck), .int .i64 (tE x y)] rfl (by show 5 ≤ maxLen; decide)) (by simp)).mono ?_
      rintro e w' ⟨rfl, rfl⟩
      rw [hone.out]
      refine hK.out _ _ ?_ (fun hHeld => ?_)
      · exact ⟨hI4.2.2.2.1.cell 0, hI4.2.2.2.1.cell 1⟩
      clear hK K
      try simp only [Act.put, List.setIfInBounds_toArray, List.set_cons_zero, List.set_cons_succ]
      refine wpAnyH_take (i := 12) (oi := { dst := some 11, op := Op.assign (Operand.tmp 65), type := 36, pos := _, after := #[{ on := 11, ground := Ground.data }, { on := 11, ground := Ground.chain }, { on := 0, ground := Ground.phase }, { on := 1, ground := Ground.phase }, { on := 2, ground := Ground.phase }, { on := 3, ground := Ground.phase }, { on := 4, ground := Ground.phase }, { on := 5, ground := Ground.phase }, { on := 6, ground := Ground.phase }, { on := 7, ground := Ground.phase }, { on := 8, ground := Ground.phase }, { on := 9, ground := Ground.phase }, { on := 10, ground := Ground.phase }, { on := 11, ground := Ground.phase }], guard := none }) (v := ?_) rfl (by kernel_rfl) (by kernel_rfl) (by kernel_rfl) (fun _ _ _ h => h) (Or.inl ⟨by rfl, ?_⟩) (by assumption) ?_
      rotate_left
      · (intro w hSw; obtain ⟨s0, s1⟩ := hSw; (go_simp <;> with_reducible rfl))
      try simp only [Act.put, List.setIfInBounds_toArray, List.set_cons_zero, List.set_cons_succ]
      refine wpAnyH_done (by kernel_rfl) ?_ _
      by_cases hF0 : F = 0
      · subst hF0
        obtain ⟨z1, z2, -, z4⟩ := may_zero HFF.out
        have hpT := drE_all z1 p (List.mem_of_getElem? HIP.out)
        have HPT := Lib.hid hpT
        have HTE := Lib.hid z4
        have HOK : Hid (mayB p (agLast ck 0 m) x y = ok) := Lib.hid (by rw [agLast_of ck m _ (agE_err z2)]; exact (HOK1.out i p HFF.out HK3.out HIP.out).symm)
        clear z1 z2 z4 hpT hok0
        obtain ⟨bb, bo, e1, -, -⟩ := RdR.elem drC_sz hI4.1 (G.refl _ none) HIP.out
        subst e1
        go_wp2_with fail
        have hId := hI4.quiet ((G.refl _ none).drew)
        clear hI4 hI3 hI2 hI1
        refine wp_region_held_drew (S := (fun w' => w'.cell? ⟨g + 1, 0, none⟩ = some (.int .i64 x) ∧ w'.cell? ⟨g + 1, 1, none⟩ = some (.int .i64 y) ∧ w'.cell? ⟨bb, bo + i * 4, none⟩ = some (.string p.1) ∧ w'.cell? ⟨bb, bo + i * 4 + 1, none⟩ = some (.int .i64 p.2.1) ∧ w'.cell? ⟨bb, bo + i * 4 + 2, none⟩ = some (.int .i64 p.2.2.1) ∧ w'.cell? ⟨bb, bo + i * 4 + 3, none⟩ = some (.int .i64 p.2.2.2))) (by kernel_rfl) ?_ (fun hHeld => ?_)
        · exact ⟨hId.2.2.2.1.cell 0, hId.2.2.2.1.cell 1, RdR.cell drC_sz hId.1 (G.refl _ none) HIP.out 0 (.string p.1) rfl, RdR.cell drC_sz hId.1 (G.refl _ none) HIP.out 1 (.int .i64 p.2.1) rfl, RdR.cell drC_sz hId.1 (G.refl _ none) HIP.out 2 (.int .i64 p.2.2.1) rfl, RdR.cell drC_sz hId.1 (G.refl _ none) HIP.out 3 (.int .i64 p.2.2.2) rfl⟩
        refine wpAnyH_take (i := 0) (oi := { dst := some 78, op := Op.move (Operand.tmp 10), type := 36, pos := _, after := #[], guard := none }) (v := ?_) rfl (by kernel_rfl) (by kernel_rfl) (by kernel_rfl) (fun _ _ _ h => h) (Or.inl ⟨by rfl, ?_⟩) (by assumption) ?_
        rotate_left
        · (intro w hSw; obtain ⟨s0, s1, s2, s3, s4, s5⟩ := hSw; (go_simp <;> with_reducible rfl))
        try simp only [Act.put, List.setIfInBounds_toArray, List.set_cons_zero, List.set_cons_succ]
        refine wpAnyH_take (i := 1) (oi := { dst := some 79, op := Op.binOp BinOp.eql 36 (Operand.tmp 78) (Operand.const (Value.int IntKind.i64 0)) 36, type := 4, pos := _, after := #[{ on := 0, ground := Ground.data }], guard := none }) (v := ?_) rfl (by kernel_rfl) (by kernel_rfl) (by kernel_rfl) (fun _ _ _ h => h) (Or.inl ⟨by rfl, ?_⟩) (by assumption) ?_
        rotate_left
        · (intro w hSw; obtain ⟨s0, s1, s2, s3, s4, s5⟩ := hSw; (go_simp <;> with_reducible rfl))
        try simp only [Act.put, List.setIfInBounds_toArray, List.set_cons_zero, List.set_cons_succ]
        refine wpAnyH_take (i := 2) (oi := { dst := some 80, op := Op.move (Operand.tmp 79), type := 4, pos := _, after := #[{ on := 1, ground := Ground.data }], guard := none }) (v := ?_) rfl (by kernel_rfl) (by kernel_rfl) (by kernel_rfl) (fun _ _ _ h => h) (Or.inl ⟨by rfl, ?_⟩) (by assumption) ?_
        rotate_left
        · (intro w hSw; obtain ⟨s0, s1, s2, s3, s4, s5⟩ := hSw; (go_simp <;> with_reducible rfl))
        try simp only [Act.put, List.setIfInBounds_toArray, List.set_cons_zero, List.set_cons_succ]
        refine wpAnyH_take (i := 3) (oi := { dst := some 81, op := Op.move (Operand.tmp 9), type := 4, pos := _, after := #[{ on := 2, ground := Ground.guard }], guard := some (2, true) }) (v := ?_) rfl (by kernel_rfl) (by kernel_rfl) (by kernel_rfl) (fun _ _ _ h => h) (Or.inl ⟨by rfl, ?_⟩) (by assumption) ?_
        rotate_left
        · (intro w hSw; obtain ⟨s0, s1, s2, s3, s4, s5⟩ := hSw; (go_simp <;> with_reducible rfl))
        try simp only [Act.put, List.setIfInBounds_toArray, List.set_cons_zero, List.set_cons_succ]
        refine wpAnyH_take (i := 4) (oi := { dst := some 82, op := Op.move (Operand.tmp 4), type := 59, pos := _, after := #[{ on := 2, ground := Ground.guard }], guard := some (2, true) }) (v := ?_) rfl (by kernel_rfl) (by kernel_rfl) (by kernel_rfl) (fun _ _ _ h => h) (Or.inl ⟨by rfl, ?_⟩) (by assumption) ?_
        rotate_left
        · (intro w hSw; obtain ⟨s0, s1, s2, s3, s4, s5⟩ := hSw; (go_simp <;> with_reducible rfl))
        try simp only [Act.put, List.setIfInBounds_toArray, List.set_cons_zero, List.set_cons_succ]
        refine wpAnyH_take (i := 5) (oi := { dst := some 83, op := Op.move (Operand.tmp 12), type := 3, pos := _, after := #[{ on := 2, ground := Ground.guard }], guard := some (2, true) }) (v := ?_) rfl (by kernel_rfl) (by kernel_rfl) (by kernel_rfl) (fun _ _ _ h => h) (Or.inl ⟨by rfl, ?_⟩) (by assumption) ?_
        rotate_left
        · (intro w hSw; obtain ⟨s0, s1, s2, s3, s4, s5⟩ := hSw; (go_simp <;> with_reducible rfl))
        try simp only [Act.put, List.setIfInBounds_toArray, List.set_cons_zero, List.set_cons_succ]
        refine wpAnyH_take (i := 6) (oi := { dst := some 84, op := Op.indexAddr 59 (Operand.tmp 82) (Operand.tmp 83), type := 0, pos := _, after := #[{ on := 4, ground := Ground.data }, { on := 5, ground := Ground.data }, { on := 2, ground := Ground.guard }], guard := some (2, true) }) (v := ?_) rfl (by kernel_rfl) (by kernel_rfl) (by kernel_rfl) (fun _ _ _ h => h) (Or.inl ⟨by rfl, ?_⟩) (by assumption) ?_
        rotate_left
        · (intro w hSw; obtain ⟨s0, s1, s2, s3, s4, s5⟩ := hSw; (go_simp <;> with_reducible rfl))
        try simp only [Act.put, List.setIfInBounds_toArray, List.set_cons_zero, List.set_cons_succ]
        refine wpAnyH_take (i := 7) (oi := { dst := some 85, op := Op.load 69 (Operand.tmp 84), type := 69, pos := _, after := #[{ on := 6, ground := Ground.data }, { on := 2, ground := Ground.guard }], guard := some (2, true) }) (v := ?_) rfl (by kernel_rfl) (by kernel_rfl) (by kernel_rfl) (fun _ _ _ h => h) (Or.inl ⟨by rfl, ?_⟩) (by assumption) ?_
        rotate_left
        · (intro w hSw; obtain ⟨s0, s1, s2, s3, s4, s5⟩ := hSw; (go_simp <;> with_reducible rfl))
        try simp only [Act.put, List.setIfInBounds_toArray, List.set_cons_zero, List.set_cons_succ]
        refine wpAnyH_take (i := 8) (oi := { dst := some 86, op := Op.move (Operand.tmp 5), type := 61, pos := _, after := #[{ on := 2, ground := Ground.guard }], guard := some (2, true) }) (v := ?_) rfl (by kernel_rfl) (by kernel_rfl) (by kernel_rfl) (fun _ _ _ h => h) (Or.inl ⟨by rfl, ?_⟩) (by assumption) ?_
        rotate_left
        · (intro w hSw; obtain ⟨s0, s1, s2, s3, s4, s5⟩ := hSw; (go_simp <;> with_reducible rfl))
        try simp only [Act.put, List.setIfInBounds_toArray, List.set_cons_zero, List.set_cons_succ]
        refine wpAnyH_take (i := 9) (oi := { dst := some 87, op := Op.move (Operand.tmp 7), type := 9, pos := _, after := #[{ on := 2, ground := Ground.guard }], guard := some (2, true) }) (v := ?_) rfl (by kernel_rfl) (by kernel_rfl) (by kernel_rfl) (fun _ _ _ h => h) (Or.inl ⟨by rfl, ?_⟩) (by assumption) ?_
        rotate_left
        · (intro w hSw; obtain ⟨s0, s1, s2, s3, s4, s5⟩ := hSw; (go_simp <;> with_reducible rfl))
        try simp only [Act.put, List.setIfInBounds_toArray, List.set_cons_zero, List.set_cons_succ]
        refine wpAnyH_take (i := 10) (oi := { dst := some 88, op := Op.load 29 (Operand.tmp 8), type := 29, pos := _, after := #[{ on := 2, ground := Ground.guard }], guard := some (2, true) }) (v := ?_) rfl (by kernel_rfl) (by kernel_rfl) (by kernel_rfl) (fun _ _ _ h => h) (Or.inl ⟨by rfl, ?_⟩) (by assumption) ?_
        rotate_left
        · (intro w hSw; obtain ⟨s0, s1, s2, s3, s4, s5⟩ := hSw; (go_simp <;> with_reducible rfl))
        try simp only [Act.put, List.setIfInBounds_toArray, List.set_cons_zero, List.set_cons_succ]
        refine wpAnyH_ready (rs := [11]) (by kernel_rfl) (by simp) ?_
        refine AllReadyH.cons (o := { dst := some 89, op := Op.call { callee := Callee.value (Operand.func 42), args := #[Operand.tmp 85, Operand.tmp 86, Operand.tmp 87, Operand.tmp 88], argTypes := #[69, 61, 9, 29] }, type := 4, pos := _, after := #[{ on := 7, ground := Ground.data }, { on := 8, ground := Ground.data }, { on := 9, ground := Ground.data }, { on := 10, ground := Ground.data }, { on := 2, ground := Ground.chain }, { on := 2, ground := Ground.guard }], guard := some (2, true) }) rfl (fun K hK => ?_) AllReadyH.nil
        go_simp
        refine (mayOf_c p _ m ck x y _ hId.2.1 (by omega) HPT.out HTE.out).mono ?_
        rintro e y5 ⟨rfl, hH⟩
        rw [HOK.out]
        have hI5 := hId.quiet hH
        clear hH
        refine hK.out _ _ ?_ (fun hHeld => ?_)
        · exact ⟨hI5.2.2.2.1.cell 0, hI5.2.2.2.1.cell 1, RdR.cell drC_sz hI5.1 (G.refl _ none) HIP.out 0 (.string p.1) rfl, RdR.cell drC_sz hI5.1 (G.refl _ none) HIP.out 1 (.int .i64 p.2.1) rfl, RdR.cell drC_sz hI5.1 (G.refl _ none) HIP.out 2 (.int .i64 p.2.2.1) rfl, RdR.cell drC_sz hI5.1 (G.refl _ none) HIP.out 3 (.int .i64 p.2.2.2) rfl⟩
        clear hK K
        try simp only [Act.put, List.setIfInBounds_toArray, List.set_cons_zero, List.set_cons_succ]
        refine wpAnyH_take (i := 12) (oi := { dst := some 90, op := Op.binOp BinOp.eql 4 (Operand.tmp 81) (Operand.tmp 89) 4, type := 4, pos := _, after := #[{ on := 3, ground := Ground.data }, { on := 11, ground := Ground.data }, { on := 2, ground := Ground.guard }], guard := some (2, true) }) (v := ?_) rfl (by kernel_rfl) (by kernel_rfl) (by kernel_rfl) (fun _ _ _ h => h) (Or.inl ⟨by rfl, ?_⟩) (by assumption) ?_
        rotate_left
        · (intro w hSw; obtain ⟨s0, s1, s2, s3, s4, s5⟩ := hSw; (go_simp <;> with_reducible rfl))
        try simp only [Act.put, List.setIfInBounds_toArray, List.set_cons_zero, List.set_cons_succ]
        refine wpAnyH_take (i := 13) (oi := { dst := some 91, op := Op.pick (Operand.tmp 80) (Operand.tmp 90) (Operand.const (Value.bool false)), type := 4, pos := _, after := #[{ on := 2, ground := Ground.data }, { on := 12, ground := Ground.data }], guard := none }) (v := ?_) rfl (by kernel_rfl) (by kernel_rfl) (by kernel_rfl) (fun _ _ _ h => h) (Or.inl ⟨by rfl, ?_⟩) (by assumption) ?_
        rotate_left
        · (intro w hSw; obtain ⟨s0, s1, s2, s3, s4, s5⟩ := hSw; (go_simp <;> with_reducible rfl))
        try simp only [Act.put, List.setIfInBounds_toArray, List.set_cons_zero, List.set_cons_succ]
        refine wpAnyH_take (i := 14) (oi := { dst := some 92, op := Op.move (Operand.tmp 91), type := 4, pos := _, after := #[{ on := 13, ground := Ground.data }, { on := 11, ground := Ground.chain }], guard := none }) (v := ?_) rfl (by kernel_rfl) (by kernel_rfl) (by kernel_rfl) (fun _ _ _ h => h) (Or.inl ⟨by rfl, ?_⟩) (by assumption) ?_
        rotate_left
        · (intro w hSw; obtain ⟨s0, s1, s2, s3, s4, s5⟩ := hSw; (go_simp <;> with_reducible rfl))
        try simp only [Act.put, List.setIfInBounds_toArray, List.set_cons_zero, List.set_cons_succ]
        refine wpAnyH_ready (rs := [15]) (by kernel_rfl) (by simp) ?_
        refine AllReadyH.cons (o := { dst := some 93, op := Op.call { callee := Callee.value (Operand.func 30), args := #[], argTypes := #[] }, type := 4, pos := _, after := #[{ on := 14, ground := Ground.chain }, { on := 14, ground := Ground.guard }], guard := some (14, true) }) rfl (fun K hK => ?_) AllReadyH.nil
        go_simp
        refine (hired_c _).mono ?_
        rintro e y6 ⟨rfl, hH⟩
        have hI6 := hI5.quiet hH
        clear hH
        refine hK.out _ _ ?_ (fun hHeld => ?_)
        · exact ⟨hI6.2.2.2.1.cell 0, hI6.2.2.2.1.cell 1, RdR.cell drC_sz hI6.1 (G.refl _ none) HIP.out 0 (.string p.1) rfl, RdR.cell drC_sz hI6.1 (G.refl _ none) HIP.out 1 (.int .i64 p.2.1) rfl, RdR.cell drC_sz hI6.1 (G.refl _ none) HIP.out 2 (.int .i64 p.2.2.1) rfl, RdR.cell drC_sz hI6.1 (G.refl _ none) HIP.out 3 (.int .i64 p.2.2.2) rfl⟩
        clear hK K
        try simp only [Act.put, List.setIfInBounds_toArray, List.set_cons_zero, List.set_cons_succ]
        refine wpAnyH_take (i := 16) (oi := { dst := some 94, op := Op.pick (Operand.tmp 92) (Operand.tmp 93) (Operand.const (Value.bool false)), type := 4, pos := _, after := #[{ on := 14, ground := Ground.data }, { on := 15, ground := Ground.data }], guard := none }) (v := ?_) rfl (by kernel_rfl) (by kernel_rfl) (by kernel_rfl) (fun _ _ _ h => h) (Or.inl ⟨by rfl, ?_⟩) (by assumption) ?_
        rotate_left
        · (intro w hSw; obtain ⟨s0, s1, s2, s3, s4, s5⟩ := hSw; (go_simp <;> with_reducible rfl))
        try simp only [Act.put, List.setIfInBounds_toArray, List.set_cons_zero, List.set_cons_succ]
        refine wpAnyH_take (i := 17) (oi := { dst := some 2, op := Op.assign (Operand.tmp 94), type := 4, pos := _, after := #[{ on := 16, ground := Ground.data }, { on := 15, ground := Ground.chain }, { on := 0, ground := Ground.phase }, { on := 1, ground := Ground.phase }, { on := 2, ground := Ground.phase }, { on := 3, ground := Ground.phase }, { on := 4, ground := Ground.phase }, { on := 5, ground := Ground.phase }, { on := 6, ground := Ground.phase }, { on := 7, ground := Ground.phase }, { on := 8, ground := Ground.phase }, { on := 9, ground := Ground.phase }, { on := 10, ground := Ground.phase }, { on := 11, ground := Ground.phase }, { on := 12, ground := Ground.phase }, { on := 13, ground := Ground.phase }, { on := 14, ground := Ground.phase }, { on := 15, ground := Ground.phase }, { on := 16, ground := Ground.phase }], guard := none }) (v := ?_) rfl (by kernel_rfl) (by kernel_rfl) (by kernel_rfl) (fun _ _ _ h => h) (Or.inl ⟨by rfl, ?_⟩) (by assumption) ?_
        rotate_left
        · (intro w hSw; obtain ⟨s0, s1, s2, s3, s4, s5⟩ := hSw; (go_simp <;> with_reducible rfl))
        try simp only [Act.put, List.setIfInBounds_toArray, List.set_cons_zero, List.set_cons_succ]
        refine wpAnyH_done (by kernel_rfl) ?_ _
        go_wp2_with fail
        go_ret
        exact ⟨rfl, hI6.2.2.2.2⟩
      · have hok := hok0.out hF0
        subst hok
        have hF1 : (F != 0) = true := by simpa using hF0
        clear hF0
        go_wp2_with fail
        refine (hired_c _).mono ?_; rintro e y9 ⟨rfl, hH⟩
        go_wp2_with fail
        go_ret
        exact ⟨rfl, hI4.2.2.2.2.trans hH⟩
end Go.Proofs.YtndeidcddlmhbaaDoor

/- What the row's list of variables gives; a start that meets it. -/
namespace Go.Proofs.YtndeidcddlmhbaaDoor
open Go.ChangeShapes Go.WideShapes Go.ChangeAt Go.RowKit

theorem own : ownKnob Tryd.prog.godebug = none := by kernel_rfl
theorem c1 : Tryd.prog.cellsOf 3 = 1 := by kernel_rfl
def laidL : List (String × DataW Unit) := [("unicode/utf8.acceptRanges", Rows.laid_unicode_utf8_acceptRanges), ("unicode/utf8.first", Rows.laid_unicode_utf8_first)]
/-- A start that meets the list: what the door's run leaves, Go's own table laid by hand. -/
noncomputable def laidWorld (os : Os) : World :=
  { World.doorLaid Tryd.prog 200 os with heap := (World.doorLaid Tryd.prog 200 os).heap.modify 1 fun
      | .cells _ t fr => .cells (Lib.firstTab.map (Value.int .u8)).toArray t fr
      | o => o }
set_option maxRecDepth 100000 in
theorem laid_met (os : Os) : laidMetH Tryd.prog laidL ((laidWorld os).forCall (fun _ _ => 0) ⟨#[], #[.slice none 0 0], []⟩).memory :=
  laidMetH_of_parts3 (fuel := 8) (laidMet_of_run' 8 (by kernel_rfl) (by kernel_rfl)) (by kernel_rfl) (by kernel_rfl)

/-! ### The row's last step -/
section
variable {H : Type} {enc : TypeId × Value → H} {P : Program}
theorem post_quiet {f : Func} {s : ChangeSpec} {apart fresh handsOn again : Bool} {W W' : World} {args : Array Value} {v : Value} {ds gs : List (DataW H)} {before pa pv : List MemPlace}
    (hW : DataW.Whole enc P f.params.toList s.vars apart W args.toList ds gs before) (hg : G W W' none)
    (hres : ∀ (b : Nat) (sp : Nat → Bool) (hd : Bool), DataW.TrodAll enc P W' b sp hd f.resultTypes.toList (v.resultList f.resultTypes.size) (s.fn H (ds ++ gs)).results [])
    (hargs : ∀ sp : Nat → Bool, (∀ p ∈ before, sp p.block = true) → DataW.TrodAll enc P W' 0 sp true f.params.toList args.toList (s.fn H (ds ++ gs)).args pa)
    (hvars : ∀ sp : Nat → Bool, (∀ p ∈ before, sp p.block = true) → DataW.TrodVars enc P W' sp s.vars (s.fn H (ds ++ gs)).vars pv)
    (hps : before = pa ++ pv)
    (hok : ∀ (j : Nat) (t : TypeId) (r : Value), f.resultTypes[j]? = some t → (v.resultList f.resultTypes.size)[j]? = some r → Value.okWide P W' .any 0 t r) :
    s.post enc P f apart fresh handsOn again W args v W' := by
  have hb := hg.below
  have lt : ∀ p ∈ before, p.block < W.heap.size := fun p hp => hW.lt p hp
  have old : ∀ p ∈ before, (fun b => decide (b < W.heap.size)) p.block = true := fun p hp => decide_eq_true (lt p hp)
  have sub : ∀ p, p ∈ ([] ++ pa) ++ pv → p ∈ before := fun p hp => by rw [hps]; simpa using hp
  refine ⟨ds, gs, before, [], pa, pv, hW, hres _ _ _, hargs _ old, hvars _ old, World.keptBut_mono (fun p hp => ⟨hp, .inr (by rw [← List.mem_append, ← hps]; exact hp)⟩) (hb.frame (· ∈ before)), fun _ => ⟨hok, ?_⟩⟩
  obtain ⟨_, _, _, _, _, hz, hn⟩ := hW
  refine ⟨_, _, ([] ++ pa) ++ pv, ⟨[] ++ pa, pv, trodAll_append (hargs _ fun _ _ => rfl) (hres _ _ _), hvars _ fun _ _ => rfl, rfl, fun b off hp => ?_, fun ha => ?_⟩, fun p hp _ => sub p hp⟩
  · rw [hb.frozen (lt _ (sub _ hp))]
    exact hz b off (sub _ hp)
  · have h := hn ha
    rw [hps] at h
    simpa using h
end
theorem laidOut : laidOutB Tryd.prog = true := by kernel_rfl
theorem wf64 {n : Int} (h : (Lit.int .i64 n).wf = true) : -9223372036854775808 ≤ n ∧ n ≤ 9223372036854775807 := by
  have h1 : IntKind.i64.min = -9223372036854775808 := rfl
  have h2 : IntKind.i64.max = 9223372036854775807 := rfl
  simp only [Lit.wf, Bool.and_eq_true, decide_eq_true_eq] at h
  omega
set_option maxRecDepth 100000 in
theorem has_of_ok {W : World} {base : Nat} {a : Addr} {n c : Nat} (hok : Value.okWide Tryd.prog W .any base 22 (.slice (some a) n c)) : a.spot = none ∧ a.block < W.heap.size := by
  simp only [Value.okWide, Tryd.underlying22, Cell.okWide, Cell.ok] at hok
  obtain ⟨_, _, _, h2, row, cells, h3, _⟩ := hok
  refine ⟨h2, ?_⟩
  unfold World.shape? at h3
  cases hh : W.heap[a.block]? with
  | none => simp [hh] at h3
  | some o => exact (Array.getElem?_eq_some_iff.1 hh).1
set_option maxRecDepth 100000 in
/-- The list of numbers that came in, as the walk wants it. -/
theorem rd_of_trod {H : Type} {enc : TypeId × Value → H} {W : World} {base : Nat} {v : Value} {d : DataW H} {p : List MemPlace} (hok : Value.okWide Tryd.prog W .any base 22 v) (h : DataW.Trod enc Tryd.prog W 0 (fun _ => true) true 22 v d p) :
    ∃ (a : Option Addr) (n c : Nat) (zs : List Int), v = .slice a n c ∧ Rd W 1 (.slice a n c) n (zs.map (Value.int .i64)) ∧ ∀ z ∈ zs, -9223372036854775808 ≤ z ∧ z ≤ 9223372036854775807 := by
  obtain ⟨a0, len, cap, rfl⟩ := okWide_slice Tryd.underlying22 hok
  obtain ⟨fuel, hf⟩ := h
  rcases open_ints Tryd.underlying22 Tryd.underlying3 c1 hf with ⟨hcs, _⟩ | ⟨a, len', cap', zs, hcs, _, hl, hm, hz, _, hcell, hw⟩
  · have hcs' : [Value.slice a0 len cap] = [Value.slice none 0 0] := hcs
    injection hcs' with e _
    injection e with e1 e2 e3
    subst e1; subst e2; subst e3
    exact ⟨none, 0, 0, [], rfl, ⟨none, 0, rfl, Nat.le_refl _, Nat.zero_le _, rfl, fun _ => ⟨rfl, rfl⟩, fun b hb => by cases hb⟩, fun z hz => by cases hz⟩
  · have hcs' : [Value.slice a0 len cap] = [Value.slice (some a) len' cap'] := hcs
    injection hcs' with e _
    injection e with e1 e2 e3
    subst e1; subst e2; subst e3
    simp only [if_true] at hz
    obtain ⟨s1, s2⟩ := has_of_ok hok
    refine ⟨some a, len, cap, zs.take len, rfl, ⟨some a, cap, rfl, hl, hm, by simp; omega, (fun e => by cases e), fun b hb => ?_⟩, fun z hz' => wf64 (hw z (List.mem_of_mem_take hz'))⟩
    obtain rfl := Option.some.inj hb
    refine ⟨s1, s2, fun j u hj => ?_⟩
    rw [List.getElem?_map] at hj
    obtain ⟨z, hz1, rfl⟩ := Option.map_eq_some_iff.1 hj
    have hjl := (List.getElem?_eq_some_iff.1 hz1).1
    simp at hjl
    have hc := hcell j (by omega)
    have hz2 : zs[j]? = some z := by rw [← hz1, List.getElem?_take, if_pos (by omega)]
    rw [List.getD, hz2] at hc
    have ha : a.add j = ⟨a.block, a.off + j, none⟩ := by
      obtain ⟨ab, ao, asp⟩ := a
      dsimp only at s1
      subst s1
      exact add_at ab ao j
    rw [ha] at hc
    exact hc
end Go.Proofs.YtndeidcddlmhbaaDoor
