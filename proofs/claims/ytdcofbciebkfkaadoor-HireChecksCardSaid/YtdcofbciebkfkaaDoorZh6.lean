/- Hcl, Lay. -/
import Derived.Test.YtdcofbciebkfkaaDoorZh5
import Derived.Test.YtdcofbciebkfkaaDoorZh3
import Derived.Test.YtdcofbciebkfkaaDoorRows
import Derived.Test.YtdcofbciebkfkaaDoorTie
import Derived.Test.YtdcofbciebkfkaaDoorCards
import Derived.Test.YtdcofbciebkfkaaDoorZh1
import Derived.LaidMore
import Derived.ChangeSame
import Derived.ProofKit
import Derived.OpenShut
import Derived.PinnedBridge
import Derived.Deep.DeepHandedRow
import Derived.Deep.DeepWitnessRowRef
/- The law HireChecks. Written by genhcl.py. -/
namespace Go.Proofs.YtdcofbciebkfkaaDoor
open Go.RowKit

theorem hiL_len (E : Int) (l : List Lg) (h : l.length ≤ 1000) : (hiL E l).length ≤ 1000 := by
  unfold hiL
  split
  · exact h
  · simp
/-- What the drawn region with Start leaves. -/
def HcA (W : World) (g gi gw : Nat) (H : Hh) (l : List Lg) (b1 : Option Addr) (c1 : Nat) (ic oc wc' : Array Value) (h1 : Hh) (so : Rg) (s13 s14 : Value) (w' : World) : Prop :=
  ∃ (g13 : Nat) (v : ByteArray) (A : Hh) (aa : Option Addr) (na ca : Nat), Small v ∧ s13 = .pointer (some ⟨g13, 0, none⟩) ∧ s14 = .int .i64 (hiE h1 [(v, so, noIn)]) ∧ A = hiH (hiE h1 [(v, so, noIn)]) h1 ∧
    Bk w' g13 33 #[.string A.1, .string A.2.1, .int .i64 A.2.2.1, .int .i64 A.2.2.2, .slice aa na ca] ∧ RdR w' 9 lgC (.slice aa na ca) (hiL (hiE h1 [(v, so, noIn)]) [(v, so, noIn)]) ∧
    ((((Bk w' (g + 1) 33 (hiC H (.slice b1 l.length c1)) ∧ RdR w' 9 lgC (.slice b1 l.length c1) l) ∧ Bk w' gi 37 ic) ∧ Bk w' (gi + 1) 37 oc) ∧ Bk w' gw 30 wc') ∧ G W w' (some W.heap.size)
set_option maxRecDepth 100000 in
set_option maxHeartbeats 40000000 in
theorem hireChecks_c (a : Option Addr) (n c : Nat) (zs : List Int) (W : World) (hr : Rd W 1 (.slice a n c) n (zs.map (Value.int .i64))) (hz : ∀ z ∈ zs, -9223372036854775808 ≤ z ∧ z ≤ 9223372036854775807) :
    Calls Tryd.prog 3 #[.slice a n c] W fun e W' => e = .returned (.bool true) ∧ G W W' none := by
  have hSB : SB (W.alloc (.cells #[.slice a n c, .int .i64 0] 25)) W.heap.size 0 := by
    have hB := Bk.new W 25 #[.slice a n c, .int .i64 0]
    refine ⟨0, a, n, c, zs, Nat.le_refl _, hr.quiet ((G.refl _ _).alloc _), fun b e => ?_, hz, hB.cell 0, hB.cell 1, hB.free 1, hB.lt⟩
    obtain ⟨a', c', e', r1, r2, r3, r4, r5⟩ := hr
    cases e'
    exact (r5 b e).2.1
  have hG0 : G W (W.alloc (.cells #[.slice a n c, .int .i64 0] 25)) (some W.heap.size) := (G.refl _ _).alloc _
  clear hr hz
  go_enter Tryd.func3, Tryd.ntmps3
  go_wp2_with fail
  refine (deal_c _ W.heap.size 0 hSB (by omega)).mono ?_; rintro e w1 ⟨x, rfl, hSB1, hG1⟩
  have hG01 := hG0.trans hG1
  have hs1 := hSB1.lt
  clear hSB hG0 hG1
  go_wp2_with fail
  refine (hire_c _ W.heap.size _ hSB1 (by omega)).mono ?_; rintro e w2 ⟨H, l, b1, c1, rfl, hsm, hR2, hb2, hSB2, hG2⟩
  have HSM := Lib.hid hsm
  have hG02 := hG01.trans hG2
  have hs2 := hSB2.lt
  have HOWN : Hid (∀ k, (Value.slice b1 l.length c1).ownBlock = some k → W.heap.size < k) := Lib.hid (fun k e => by have := hb2 k e; omega)
  clear hsm hSB1 hG01 hG2 hb2
  obtain ⟨a0, a1, a2, a3, a4, a5, a6⟩ := x
  have CD1 := Lib.hid (fun w => checkDeal_c ⟨a0, a1, a2, a3, a4, a5, a6⟩ w)
  have CD2 := Lib.hid (fun w => dealFault_c ⟨a0, a1, a2, a3, a4, a5, a6⟩ w)
  generalize deE ⟨a0, a1, a2, a3, a4, a5, a6⟩ = DE at CD1 CD2
  rw [show deC ⟨a0, a1, a2, a3, a4, a5, a6⟩ = #[.int .i64 a0, .int .i64 a1, .int .i64 a2, .int .i64 a3, .int .i64 a4, .int .i64 a5, .int .i64 a6] from rfl] at *
  rw [show hiC H (.slice b1 l.length c1) = #[.string H.1, .string H.2.1, .int .i64 H.2.2.1, .int .i64 H.2.2.2, .slice b1 l.length c1] from rfl]
  have hq := ((G.refl w2 none).alloc (.cells #[.int .i64 a0, .int .i64 a1, .int .i64 a2, .int .i64 a3, .int .i64 a4, .int .i64 a5, .int .i64 a6] 27)).alloc (.cells #[.string H.1, .string H.2.1, .int .i64 H.2.2.1, .int .i64 H.2.2.2, .slice b1 l.length c1] 33)
  have hN := (Bk.new w2 27 #[.int .i64 a0, .int .i64 a1, .int .i64 a2, .int .i64 a3, .int .i64 a4, .int .i64 a5, .int .i64 a6]).alloc (.cells #[.string H.1, .string H.2.1, .int .i64 H.2.2.1, .int .i64 H.2.2.2, .slice b1 l.length c1] 33)
  have hP := Bk.newAt (w := w2.alloc (.cells #[.int .i64 a0, .int .i64 a1, .int .i64 a2, .int .i64 a3, .int .i64 a4, .int .i64 a5, .int .i64 a6] 27)) (b := w2.heap.size + 1) (by simp) 33 #[.string H.1, .string H.2.1, .int .i64 H.2.2.1, .int .i64 H.2.2.2, .slice b1 l.length c1]
  have hSB3 := hSB2.quiet hq
  have hG03 := hG02.trans0 hq
  have hK3 := ((Kp.bk hN hs2).and (Kp.bk hP (Nat.lt_succ_of_lt hs2))).and (Kp.rd (Rd.quiet hR2 hq) HOWN.out)
  clear hq hN hP hSB2 hG02 hR2
  go_upto_region 3 with fail
  generalize (w2.alloc (.cells #[.int .i64 a0, .int .i64 a1, .int .i64 a2, .int .i64 a3, .int .i64 a4, .int .i64 a5, .int .i64 a6] 27)).alloc (.cells #[.string H.1, .string H.2.1, .int .i64 H.2.2.1, .int .i64 H.2.2.2, .slice b1 l.length c1] 33) = w3 at hSB3 hG03 hK3 ⊢
  generalize w2.heap.size = g at hK3 hs2 ⊢
  go_wp2_with fail
  refine (pick_c _ _ _ [0, 100, 150, 500, 1440, 3000, 6000] _ _ _ (hSB3.alloc _) (by omega) (by decide) (by decide) (Rd.newAt _ rfl rfl (by decide)) (hSB3.newAt _ _ _ (Nat.le_refl _))).mono ?_; rintro e w4 ⟨t, rfl, hp, hSB4, hh⟩
  have HT := Lib.hid (bnd_pick hp (by decide))
  have hq := ((G.refl w3 (some W.heap.size)).alloc (.cells _ 3)).trans hh
  have hG04 := hG03.trans hq
  have hK4 := hK3.step hq
  clear hSB3 hG03 hK3 hh hq hp
  go_wp2_with fail
  refine (reading_c t _ W.heap.size _ HT.out hSB4 (by omega)).mono ?_; rintro e w5 ⟨⟨i1, i2, i3, i4⟩, rfl, hri, hSB5, hh⟩
  rw [show rgC (i1, i2, i3, i4) = #[.int .i64 i1, .string i2, .int .i64 i3, .int .i64 i4] from rfl]
  have HI := Lib.hid hri.2.1
  have hG05 := hG04.trans hh
  have hK5 := hK4.step hh
  clear hSB4 hG04 hK4 hh hri
  go_wp2_with fail
  refine (reading_c t _ W.heap.size _ HT.out hSB5 (by omega)).mono ?_; rintro e w6 ⟨⟨o1, o2, o3, o4⟩, rfl, hro, hSB6, hh⟩
  rw [show rgC (o1, o2, o3, o4) = #[.int .i64 o1, .string o2, .int .i64 o3, .int .i64 o4] from rfl]
  have HO2 := Lib.hid hro.2.1
  have hG06 := hG05.trans hh
  have hK6 := hK5.step hh
  clear hSB5 hG05 hK5 hh hro
  go_wp2_with fail
  refine (pick_c _ _ _ [0, 100, 1440, 3000, 200000, 5761440] _ _ _ (hSB6.alloc _) (by omega) (by decide) (by decide) (Rd.newAt _ rfl rfl (by decide)) (hSB6.newAt _ _ _ (Nat.le_refl _))).mono ?_; rintro e w7 ⟨tz, rfl, hp, hSB7, hh⟩
  have HTO := Lib.hid (bnd_pick hp (by decide))
  have hq := ((G.refl w6 (some W.heap.size)).alloc (.cells _ 3)).trans hh
  have hG07 := hG06.trans hq
  have hK7 := hK6.step hq
  have hs7 := hSB7.lt
  clear hSB6 hG06 hK6 hh hq hp
  have hq := ((G.refl w7 none).alloc (.cells #[.int .i64 i1, .string i2, .int .i64 i3, .int .i64 i4] 37)).alloc (.cells #[.int .i64 o1, .string o2, .int .i64 o3, .int .i64 o4] 37)
  have hI := (Bk.new w7 37 #[.int .i64 i1, .string i2, .int .i64 i3, .int .i64 i4]).alloc (.cells #[.int .i64 o1, .string o2, .int .i64 o3, .int .i64 o4] 37)
  have hO := Bk.newAt (w := w7.alloc (.cells #[.int .i64 i1, .string i2, .int .i64 i3, .int .i64 i4] 37)) (b := w7.heap.size + 1) (by simp) 37 #[.int .i64 o1, .string o2, .int .i64 o3, .int .i64 o4]
  have hSB8 := hSB7.quiet hq
  have hG08 := hG07.trans0 hq
  have hK8 := hK7.quiet hq
  have hlt7 := hK7.now.1.2.lt
  have hblk7 := Rd.blk hK7.now.2
  clear hSB7 hG07 hK7 hq
  go_upto_region 5 with fail
  generalize (w7.alloc (.cells #[.int .i64 i1, .string i2, .int .i64 i3, .int .i64 i4] 37)).alloc (.cells #[.int .i64 o1, .string o2, .int .i64 o3, .int .i64 o4] 37) = w8 at hI hO hSB8 hG08 hK8 ⊢
  have HBL : Hid (W.heap.size < g ∧ g + 1 < w7.heap.size ∧ ∀ k, (Value.slice b1 l.length c1).ownBlock = some k → k < w7.heap.size) := Lib.hid ⟨hs2, hlt7, hblk7⟩
  clear hlt7 hblk7
  generalize w7.heap.size = gi at hI hO hs7 HBL ⊢
  go_wp2_with fail
  refine (flip_c _ _ _ _ hSB8 (by omega) (by omega)).mono ?_; rintro e w9 ⟨q, rfl, hSB9, hh⟩
  have hI := hI.grown hh (fun e => by have := Option.some.inj e; omega)
  have hO := hO.grown hh (fun e => by have := Option.some.inj e; omega)
  have hG09 := hG08.trans hh
  have hK9 := hK8.step hh
  clear hSB8 hG08 hK8 hh
  have hbl : Hid (W.heap.size < g ∧ g + 1 < gi ∧ ∀ k, (Value.slice b1 l.length c1).ownBlock = some k → k < gi) := HBL
  go_upto_if 47 with fail
  go_cut [] from 27 (fun w' => ∃ os : ByteArray, Small os ∧ (((((Bk w' g 27 #[.int .i64 a0, .int .i64 a1, .int .i64 a2, .int .i64 a3, .int .i64 a4, .int .i64 a5, .int .i64 a6] ∧ Bk w' (g + 1) 33 #[.string H.1, .string H.2.1, .int .i64 H.2.2.1, .int .i64 H.2.2.2, .slice b1 l.length c1]) ∧ RdR w' 9 lgC (.slice b1 l.length c1) l) ∧ Bk w' gi 37 #[.int .i64 i1, .string i2, .int .i64 i3, .int .i64 i4]) ∧ Bk w' (gi + 1) 37 #[.int .i64 o1, .string os, .int .i64 o3, .int .i64 o4])) ∧ SB w' W.heap.size 800 ∧ G W w' (some W.heap.size))
  case first =>
    cases q with
    | true =>
      have x1 : w9.frozen? ⟨gi + 1, 1, none⟩ = false := hO.free 1
      have y1 : w9.cell? ⟨gi + 1, 1, none⟩ = some (.string o2) := hO.cell 1
      have z1 : w9.cell? ⟨gi, 1, none⟩ = some (.string i2) := hI.cell 1
      obtain ⟨⟨k1, k2⟩, k3⟩ := hK9.now
      obtain ⟨q1, q2, q3⟩ := hbl.out
      go_wp2_with fail
      go_meet
      case rel => exact ⟨i2, HI.out, ⟨⟨⟨⟨k1.far (p := ⟨gi + 1, 1, none⟩) (show g ≠ gi + 1 by omega) _, k2.far (p := ⟨gi + 1, 1, none⟩) (show g + 1 ≠ gi + 1 by omega) _⟩, Rd.grown k3 ((G.refl w9 (some (gi + 1))).setCell (p := ⟨gi + 1, 1, none⟩) (.inr rfl) _) (fun k e hk => by cases e; have := q3 _ hk; omega)⟩, hI.far (p := ⟨gi + 1, 1, none⟩) (show gi ≠ gi + 1 by omega) _⟩, hO.set 1 _⟩, (hSB9.setCell (p := ⟨gi + 1, 1, none⟩) (show W.heap.size < gi + 1 by omega) _).le (by omega), hG09.setCell (p := ⟨gi + 1, 1, none⟩) (.inl (show W.heap.size ≤ gi + 1 by omega)) _⟩
    | false =>
      obtain ⟨⟨k1, k2⟩, k3⟩ := hK9.now
      go_wp2_with fail
      go_meet
      case rel => exact ⟨o2, HO2.out, ⟨⟨⟨⟨k1, k2⟩, k3⟩, hI⟩, hO⟩, hSB9.le (by omega), hG09⟩
  case rest =>
    obtain ⟨os, hos, ⟨⟨⟨⟨hN, hP⟩, hR⟩, hI⟩, hO⟩, hSB, hG⟩ := hcut
    have HOS := Lib.hid hos
    obtain ⟨q1, q2, q3⟩ := hbl.out
    have hK := ((((Kp.bk hN (show W.heap.size < g by omega)).and (Kp.bk hP (show W.heap.size < g + 1 by omega))).and (Kp.rd hR HOWN.out)).and (Kp.bk hI (show W.heap.size < gi by omega))).and (Kp.bk hO (show W.heap.size < gi + 1 by omega))
    have HQ := Lib.hid (And.intro q1 (And.intro q2 q3))
    clear hN hP hR hI hO hSB9 hG09 hK9 HO2 hos hbl q1 q2 q3
    obtain ⟨s1, s2, s3, s4, s5, s6⟩ := HSM.out
    have CHF := Lib.hid (fun w' (q : RdR w' 9 lgC (.slice b1 l.length c1) l) => hireFault_c H _ l w' q s1 s2 s3 s4 s5 (by omega))
    have CCK := Lib.hid (fun w' (q : RdR w' 9 lgC (.slice b1 l.length c1) l) => check_c H _ l w' q s1 s2 s3 s4 s5 (by omega))
    have CX1 := Lib.hid (fun w' (q : RdR w' 9 lgC (.slice b1 l.length c1) l) => exchange_c H _ l (i1, i2, i3, i4) ⟨#[118, 52]⟩ (o1, os, o3, o4) w' q s1 s2 s3 s4 s5 (by omega) HI.out (small_of (by decide)) HOS.out)
    have CX2 := Lib.hid (fun w' (q : RdR w' 9 lgC (.slice b1 l.length c1) l) => exchangeOf_c H _ l (i1, i2, i3, i4) ⟨#[118, 52]⟩ (o1, os, o3, o4) w' q s1 s2 s3 s4 s5 (by omega) HI.out (small_of (by decide)) HOS.out)
    have CY1 := Lib.hid (fun w' (q : RdR w' 9 lgC (.slice b1 l.length c1) l) => extend_c H _ l tz w' q s1 s2 s3 s4 s5 (by omega) HTO.out)
    have CY2 := Lib.hid (fun w' (q : RdR w' 9 lgC (.slice b1 l.length c1) l) => extendOf_c H _ l tz w' q s1 s2 s3 s4 s5 (by omega) HTO.out)
    have CZ1 := Lib.hid (fun w' (q : RdR w' 9 lgC (.slice b1 l.length c1) l) => close_c H _ l (i1, i2, i3, i4) w' q s1 s2 s3 s4 s5 (by omega) HI.out)
    have CZ2 := Lib.hid (fun w' (q : RdR w' 9 lgC (.slice b1 l.length c1) l) => closeOf_c H _ l (i1, i2, i3, i4) w' q s1 s2 s3 s4 s5 (by omega) HI.out)
    have HEX : Hid (∀ (h2 : Hh) (l2 : List Lg), (hiE H l = 0 → chE H l h2 l2 = chR l h2 l2) ∧ (hiE H l ≠ 0 → chE H l h2 l2 = hiE H l)) := Lib.hid fun h2 l2 => ⟨fun e => by unfold chE chR; rw [if_pos e], fun e => by unfold chE; rw [if_neg e]⟩
    clear s1 s2 s3 s4 s5 s6
    obtain ⟨FE, hFE⟩ : ∃ FE, hiE H l = FE := ⟨_, rfl⟩
    rw [hFE] at CHF CCK HEX
    have HFE := Lib.hid hFE
    clear hFE
    have HQX := Lib.hid (HEX.out H (inL l (i1, i2, i3, i4) ++ [((⟨#[118, 52]⟩ : ByteArray), (o1, os, o3, o4), noIn)]))
    have HQY := Lib.hid (HEX.out (H.1, H.2.1, H.2.2.1, tz) l)
    have HQZ := Lib.hid (HEX.out H (inL l (i1, i2, i3, i4)))
    have HNX : Hid (l.length ≤ 20 → (inL l (i1, i2, i3, i4) ++ [((⟨#[118, 52]⟩ : ByteArray), (o1, os, o3, o4), noIn)]).length ≤ 30) := Lib.hid (fun q => by rw [List.length_append, inL_len, List.length_singleton]; omega)
    have HNZ : Hid (l.length ≤ 20 → (inL l (i1, i2, i3, i4)).length ≤ 30) := Lib.hid (fun q => by rw [inL_len]; omega)
    clear HEX
    generalize inL l (i1, i2, i3, i4) ++ [((⟨#[118, 52]⟩ : ByteArray), (o1, os, o3, o4), noIn)] = LX at CX1 CX2 HQX HNX
    generalize inL l (i1, i2, i3, i4) = LZ at CZ1 CZ2 HQZ HNZ
    generalize chE H l H LX = xe at CX1 HQX
    generalize chR l H LX = xr at CX2 HQX
    generalize chE H l (H.1, H.2.1, H.2.2.1, tz) l = ye at CY1 HQY
    generalize chR l (H.1, H.2.1, H.2.2.1, tz) l = yr at CY2 HQY
    generalize chE H l H LZ = ze at CZ1 HQZ
    generalize chR l H LZ = zr at CZ2 HQZ
    have hP := hK.now.1.1.1.2
    go_wp2_with (refine wpList_load_row rfl 33 _ rfl (g + 1) rfl 33 #[.string H.1, .string H.2.1, .int .i64 H.2.2.1, .int .i64 H.2.2.2, .slice b1 l.length c1] (0, 0) _ hP Tryd.underlying33 rfl (hi_info H _) ?_)
    refine (CHF.out _ hK.now.1.1.2).mono ?_; rintro e wF ⟨rfl, hh⟩
    replace hSB := hSB.quiet hh
    replace hG := hG.trans0 hh
    replace hK := hK.quiet hh
    clear hh hP CHF
    have CHF2 : True := trivial
    go_upto_region 8 with fail
    replace hSB := hSB.drewN 1
    replace hG := hG.drewN 1
    have hKp := hK.quiet ((G.refl wF none).drewN 1)
    clear hK
    refine wp_region_held_drew (S := (fun w' => w'.cell? ⟨g, 0, none⟩ = some (.int .i64 a0) ∧ w'.cell? ⟨g, 1, none⟩ = some (.int .i64 a1) ∧ w'.cell? ⟨g, 2, none⟩ = some (.int .i64 a2) ∧ w'.cell? ⟨g, 3, none⟩ = some (.int .i64 a3) ∧ w'.cell? ⟨g, 4, none⟩ = some (.int .i64 a4) ∧ w'.cell? ⟨g, 5, none⟩ = some (.int .i64 a5) ∧ w'.cell? ⟨g, 6, none⟩ = some (.int .i64 a6) ∧ w'.cell? ⟨g + 1, 0, none⟩ = some (.string H.1) ∧ w'.cell? ⟨g + 1, 1, none⟩ = some (.string H.2.1) ∧ w'.cell? ⟨g + 1, 2, none⟩ = some (.int .i64 H.2.2.1) ∧ w'.cell? ⟨g + 1, 3, none⟩ = some (.int .i64 H.2.2.2) ∧ w'.cell? ⟨g + 1, 4, none⟩ = some (.slice b1 l.length c1))) (by kernel_rfl) ?_ (fun hHeld => ?_)
    · exact ⟨hKp.now.1.1.1.1.cell 0, hKp.now.1.1.1.1.cell 1, hKp.now.1.1.1.1.cell 2, hKp.now.1.1.1.1.cell 3, hKp.now.1.1.1.1.cell 4, hKp.now.1.1.1.1.cell 5, hKp.now.1.1.1.1.cell 6, hKp.now.1.1.1.2.cell 0, hKp.now.1.1.1.2.cell 1, hKp.now.1.1.1.2.cell 2, hKp.now.1.1.1.2.cell 3, hKp.now.1.1.1.2.cell 4⟩
    refine wpAnyH_take (i := 0) (oi := { dst := some 53, op := Op.load 27 (Operand.tmp 4), type := 27, pos := _, after := #[], guard := none }) (v := ?_) rfl (by kernel_rfl) (by kernel_rfl) (by kernel_rfl) (fun _ _ _ h => h) (Or.inl ⟨by rfl, ?_⟩) (by assumption) ?_
    rotate_left
    · (intro w hSw; obtain ⟨s0, s1, s2, s3, s4, s5, s6, s7, s8, s9, s10, s11⟩ := hSw; (go_simp <;> with_reducible rfl))
    try simp only [Act.put, List.setIfInBounds_toArray, List.set_cons_zero, List.set_cons_succ]
    refine wpAnyH_take (i := 2) (oi := { dst := some 55, op := Op.load 27 (Operand.tmp 4), type := 27, pos := _, after := #[], guard := none }) (v := ?_) rfl (by kernel_rfl) (by kernel_rfl) (by kernel_rfl) (fun _ _ _ h => h) (Or.inl ⟨by rfl, ?_⟩) (by assumption) ?_
    rotate_left
    · (intro w hSw; obtain ⟨s0, s1, s2, s3, s4, s5, s6, s7, s8, s9, s10, s11⟩ := hSw; (go_simp <;> with_reducible rfl))
    try simp only [Act.put, List.setIfInBounds_toArray, List.set_cons_zero, List.set_cons_succ]
    refine wpAnyH_ready (rs := [1]) (by kernel_rfl) (by simp) ?_
    refine AllReadyH.cons (o := { dst := some 54, op := Op.call { callee := Callee.value (Operand.func 16), args := #[Operand.tmp 53], argTypes := #[27] }, type := 40, pos := _, after := #[{ on := 0, ground := Ground.data }], guard := none }) rfl (fun K hK => ?_) AllReadyH.nil
    go_simp
    refine (CD1.out _).mono ?_
    rintro e w81 ⟨rfl, hh⟩
    replace hSB := hSB.quiet hh
    replace hG := hG.trans0 hh
    replace hKp := hKp.quiet hh
    clear hh
    refine hK.out _ _ ?_ (fun hHeld => ?_)
    · exact ⟨hKp.now.1.1.1.1.cell 0, hKp.now.1.1.1.1.cell 1, hKp.now.1.1.1.1.cell 2, hKp.now.1.1.1.1.cell 3, hKp.now.1.1.1.1.cell 4, hKp.now.1.1.1.1.cell 5, hKp.now.1.1.1.1.cell 6, hKp.now.1.1.1.2.cell 0, hKp.now.1.1.1.2.cell 1, hKp.now.1.1.1.2.cell 2, hKp.now.1.1.1.2.cell 3, hKp.now.1.1.1.2.cell 4⟩
    clear hK K
    try simp only [Act.put, List.setIfInBounds_toArray, List.set_cons_zero, List.set_cons_succ]
    refine wpAnyH_ready (rs := [3]) (by kernel_rfl) (by simp) ?_
    refine AllReadyH.cons (o := { dst := some 56, op := Op.call { callee := Callee.value (Operand.func 17), args := #[Operand.tmp 55], argTypes := #[27] }, type := 40, pos := _, after := #[{ on := 2, ground := Ground.data }, { on := 1, ground := Ground.chain }], guard := none }) rfl (fun K hK => ?_) AllReadyH.nil
    go_simp
    refine (CD2.out _).mono ?_
    rintro e w82 ⟨rfl, hh⟩
    replace hSB := hSB.quiet hh
    replace hG := hG.trans0 hh
    replace hKp := hKp.quiet hh
    clear hh
    refine hK.out _ _ ?_ (fun hHeld => ?_)
    · exact ⟨hKp.now.1.1.1.1.cell 0, hKp.now.1.1.1.1.cell 1, hKp.now.1.1.1.1.cell 2, hKp.now.1.1.1.1.cell 3, hKp.now.1.1.1.1.cell 4, hKp.now.1.1.1.1.cell 5, hKp.now.1.1.1.1.cell 6, hKp.now.1.1.1.2.cell 0, hKp.now.1.1.1.2.cell 1, hKp.now.1.1.1.2.cell 2, hKp.now.1.1.1.2.cell 3, hKp.now.1.1.1.2.cell 4⟩
    clear hK K
    try simp only [Act.put, List.setIfInBounds_toArray, List.set_cons_zero, List.set_cons_succ]
    refine wpAnyH_take (i := 4) (oi := { dst := some 57, op := Op.binOp BinOp.neq 40 (Operand.tmp 54) (Operand.tmp 56) 40, type := 4, pos := _, after := #[{ on := 1, ground := Ground.data }, { on := 3, ground := Ground.data }], guard := none }) (v := ?_) rfl (by kernel_rfl) (by kernel_rfl) (by kernel_rfl) (fun _ _ _ h => h) (Or.inl ⟨by rfl, ?_⟩) (by assumption) ?_
    rotate_left
    · (intro w hSw; obtain ⟨s0, s1, s2, s3, s4, s5, s6, s7, s8, s9, s10, s11⟩ := hSw; (go_simp <;> with_reducible rfl))
    try simp only [Act.put, List.setIfInBounds_toArray, List.set_cons_zero, List.set_cons_succ]
    refine wpAnyH_take (i := 5) (oi := { dst := some 58, op := Op.move (Operand.tmp 57), type := 4, pos := _, after := #[{ on := 4, ground := Ground.data }, { on := 3, ground := Ground.chain }], guard := none }) (v := ?_) rfl (by kernel_rfl) (by kernel_rfl) (by kernel_rfl) (fun _ _ _ h => h) (Or.inl ⟨by rfl, ?_⟩) (by assumption) ?_
    rotate_left
    · (intro w hSw; obtain ⟨s0, s1, s2, s3, s4, s5, s6, s7, s8, s9, s10, s11⟩ := hSw; (go_simp <;> with_reducible rfl))
    try simp only [Act.put, List.setIfInBounds_toArray, List.set_cons_zero, List.set_cons_succ]
    refine wpAnyH_take (i := 6) (oi := { dst := some 59, op := Op.load 33 (Operand.tmp 5), type := 33, pos := _, after := #[{ on := 5, ground := Ground.guard }], guard := some (5, false) }) (v := ?_) rfl (by kernel_rfl) (by kernel_rfl) (by kernel_rfl) (fun _ _ _ h => h) (Or.inl ⟨by rfl, ?_⟩) (by assumption) ?_
    rotate_left
    · (intro w hSw; obtain ⟨s0, s1, s2, s3, s4, s5, s6, s7, s8, s9, s10, s11⟩ := hSw; (go_simp <;> with_reducible rfl))
    try simp only [Act.put, List.setIfInBounds_toArray, List.set_cons_zero, List.set_cons_succ]
    refine wpAnyH_take (i := 8) (oi := { dst := some 61, op := Op.move (Operand.tmp 10), type := 40, pos := _, after := #[{ on := 5, ground := Ground.guard }], guard := some (5, false) }) (v := ?_) rfl (by kernel_rfl) (by kernel_rfl) (by kernel_rfl) (fun _ _ _ h => h) (Or.inl ⟨by rfl, ?_⟩) (by assumption) ?_
    rotate_left
    · (intro w hSw; obtain ⟨s0, s1, s2, s3, s4, s5, s6, s7, s8, s9, s10, s11⟩ := hSw; (go_simp <;> with_reducible rfl))
    try simp only [Act.put, List.setIfInBounds_toArray, List.set_cons_zero, List.set_cons_succ]
    refine wpAnyH_ready (rs := [7]) (by kernel_rfl) (by simp) ?_
    refine AllReadyH.cons (o := { dst := some 60, op := Op.call { callee := Callee.value (Operand.func 18), args := #[Operand.tmp 59], argTypes := #[33] }, type := 40, pos := _, after := #[{ on := 6, ground := Ground.data }, { on := 5, ground := Ground.chain }, { on := 5, ground := Ground.guard }], guard := some (5, false) }) rfl (fun K hK => ?_) AllReadyH.nil
    go_simp
    refine (CCK.out _ hKp.now.1.1.2).mono ?_
    rintro e w83 ⟨rfl, hh⟩
    replace hSB := hSB.quiet hh
    replace hG := hG.trans0 hh
    replace hKp := hKp.quiet hh
    clear hh
    refine hK.out _ _ ?_ (fun hHeld => ?_)
    · exact ⟨hKp.now.1.1.1.1.cell 0, hKp.now.1.1.1.1.cell 1, hKp.now.1.1.1.1.cell 2, hKp.now.1.1.1.1.cell 3, hKp.now.1.1.1.1.cell 4, hKp.now.1.1.1.1.cell 5, hKp.now.1.1.1.1.cell 6, hKp.now.1.1.1.2.cell 0, hKp.now.1.1.1.2.cell 1, hKp.now.1.1.1.2.cell 2, hKp.now.1.1.1.2.cell 3, hKp.now.1.1.1.2.cell 4⟩
    clear hK K
    try simp only [Act.put, List.setIfInBounds_toArray, List.set_cons_zero, List.set_cons_succ]
    refine wpAnyH_take (i := 9) (oi := { dst := some 62, op := Op.binOp BinOp.neq 40 (Operand.tmp 60) (Operand.tmp 61) 40, type := 4, pos := _, after := #[{ on := 7, ground := Ground.data }, { on := 8, ground := Ground.data }, { on := 5, ground := Ground.guard }], guard := some (5, false) }) (v := ?_) rfl (by kernel_rfl) (by kernel_rfl) (by kernel_rfl) (fun _ _ _ h => h) (Or.inl ⟨by rfl, ?_⟩) (by assumption) ?_
    rotate_left
    · (intro w hSw; obtain ⟨s0, s1, s2, s3, s4, s5, s6, s7, s8, s9, s10, s11⟩ := hSw; (go_simp <;> with_reducible rfl))
    try simp only [Act.put, List.setIfInBounds_toArray, List.set_cons_zero, List.set_cons_succ]
    refine wpAnyH_take (i := 10) (oi := { dst := some 63, op := Op.pick (Operand.tmp 58) (Operand.const (Value.bool true)) (Operand.tmp 62), type := 4, pos := _, after := #[{ on := 5, ground := Ground.data }, { on := 9, ground := Ground.data }], guard := none }) (v := ?_) rfl (by kernel_rfl) (by kernel_rfl) (by kernel_rfl) (fun _ _ _ h => h) (Or.inl ⟨by rfl, ?_⟩) (by assumption) ?_
    rotate_left
    · (intro w hSw; obtain ⟨s0, s1, s2, s3, s4, s5, s6, s7, s8, s9, s10, s11⟩ := hSw; (go_simp <;> with_reducible rfl))
    try simp only [Act.put, List.setIfInBounds_toArray, List.set_cons_zero, List.set_cons_succ]
    refine wpAnyH_done (by kernel_rfl) ?_ _
    clear CD1 CD2 CCK
    generalize w83 = wG at hKp hSB hG hHeld ⊢
    clear hHeld
    go_wp2_with fail
    refine (some_c _ _ _ [⟨#[104, 49]⟩, ⟨#[]⟩, ⟨#[65]⟩] _ W.heap.size _ (hSB.alloc _) (by omega) (by decide) (by decide) (Rd.newAt _ rfl rfl (by decide)) (hSB.newAt _ _ _ (Nat.le_refl _))).mono ?_; rintro e wk ⟨key, rfl, hp, hSBk, hh⟩
    have HKY := Lib.hid (small_pick hp (by decide))
    have hq := ((G.refl wG (some W.heap.size)).alloc (.cells _ 9)).trans hh
    have hGk := hG.trans hq
    have hKk := hKp.step hq
    clear hSB hG hKp hh hq hp
    go_wp2_with fail
    refine (time_c _ W.heap.size _ hSBk (by omega)).mono ?_; rintro e wt ⟨x, y, rfl, hx, hy, hSBt, hh⟩
    have HTX := Lib.hid hx
    have HTY := Lib.hid hy
    have hGt := hGk.trans hh
    have hKt := hKk.step hh
    clear hSBk hGk hKk hh hx hy
    have hq := (G.refl wt none).alloc (.cells #[.int .i64 x, .int .i64 y] 30)
    have hT := Bk.new wt 30 #[.int .i64 x, .int .i64 y]
    have hst := hSBt.lt
    have hSB := hSBt.quiet hq
    have hG := hGt.trans0 hq
    have hKp := hKt.quiet hq
    clear hSBt hGt hKt hq
    go_upto_region 11 with fail
    generalize wt.alloc (.cells #[.int .i64 x, .int .i64 y] 30) = wT at hT hSB hG hKp ⊢
    have hgT := hT.lt
    generalize wt.heap.size = gw at hT hst hgT ⊢
    obtain ⟨⟨⟨⟨-, hP⟩, hR⟩, hI⟩, hO⟩ := hKp.now
    have hlb := Rd.blk hR
    have HO := Lib.hid (((((KS.old hP (show W.heap.size < g + 1 from by have := HQ.out.1; omega)).and (KS.rd (S := Snew W.heap.size wT.heap.size) hR (by
      rintro k hk (e | e)
      · have := HOWN.out k hk; omega
      · have := hlb k hk; omega))).and (KS.old hI (show W.heap.size < gi from by have := HQ.out; omega))).and (KS.old hO (show W.heap.size < gi + 1 from by have := HQ.out; omega))).and (KS.old hT hst))
    clear hP hR hI hO hlb hKp hT
    go_cut [13, 14] from 27 (fun s13 s14 w' => HcA W g gi gw H l b1 c1 #[.int .i64 i1, .string i2, .int .i64 i3, .int .i64 i4] #[.int .i64 o1, .string os, .int .i64 o3, .int .i64 o4] #[.int .i64 x, .int .i64 y] (key, ⟨#[97, 110, 110]⟩, x, y) (o1, os, o3, o4) s13 s14 w')
    case first =>
      have hq := (G.refl wT none).drew
      have hSB0 := hSB.quiet hq
      have hG0 := hG.trans0 hq
      have hS0 : GS (Snew W.heap.size wT.heap.size) wT wT.drew := GS.of_G hq
      clear hq hSB hG
      refine wp_region_held_drew (S := (fun w' => w'.cell? ⟨gw, 0, none⟩ = some (.int .i64 x) ∧ w'.cell? ⟨gw, 1, none⟩ = some (.int .i64 y) ∧ w'.cell? ⟨gi + 1, 0, none⟩ = some (.int .i64 o1) ∧ w'.cell? ⟨gi + 1, 1, none⟩ = some (.string os) ∧ w'.cell? ⟨gi + 1, 2, none⟩ = some (.int .i64 o3) ∧ w'.cell? ⟨gi + 1, 3, none⟩ = some (.int .i64 o4))) (by kernel_rfl) ?_ (fun hHeld => ?_)
      · exact ⟨(HO.out _ hS0).2.cell 0, (HO.out _ hS0).2.cell 1, (HO.out _ hS0).1.2.cell 0, (HO.out _ hS0).1.2.cell 1, (HO.out _ hS0).1.2.cell 2, (HO.out _ hS0).1.2.cell 3⟩
      generalize wT.drew = wd at hHeld hSB0 hG0 hS0 ⊢
      refine wpAnyH_take (i := 0) (oi := { dst := some 70, op := Op.move (Operand.tmp 11), type := 9, pos := _, after := #[], guard := none }) (v := ?_) rfl (by kernel_rfl) (by kernel_rfl) (by kernel_rfl) (fun _ _ _ h => h) (Or.inl ⟨by rfl, ?_⟩) (by assumption) ?_
      rotate_left
      · (intro w hSw; obtain ⟨s0, s1, s2, s3, s4, s5⟩ := hSw; (go_simp <;> with_reducible rfl))
      try simp only [Act.put, List.setIfInBounds_toArray, List.set_cons_zero, List.set_cons_succ]
      refine wpAnyH_take (i := 1) (oi := { dst := some 71, op := Op.load 30 (Operand.tmp 12), type := 30, pos := _, after := #[], guard := none }) (v := ?_) rfl (by kernel_rfl) (by kernel_rfl) (by kernel_rfl) (fun _ _ _ h => h) (Or.inl ⟨by rfl, ?_⟩) (by assumption) ?_
      rotate_left
      · (intro w hSw; obtain ⟨s0, s1, s2, s3, s4, s5⟩ := hSw; (go_simp <;> with_reducible rfl))
      try simp only [Act.put, List.setIfInBounds_toArray, List.set_cons_zero, List.set_cons_succ]
      refine wpAnyH_take (i := 2) (oi := { dst := some 72, op := Op.move (Operand.tmp 3), type := 23, pos := _, after := #[], guard := none }) (v := ?_) rfl (by kernel_rfl) (by kernel_rfl) (by kernel_rfl) (fun _ _ _ h => h) (Or.inl ⟨by rfl, ?_⟩) (by assumption) ?_
      rotate_left
      · (intro w hSw; obtain ⟨s0, s1, s2, s3, s4, s5⟩ := hSw; (go_simp <;> with_reducible rfl))
      try simp only [Act.put, List.setIfInBounds_toArray, List.set_cons_zero, List.set_cons_succ]
      refine wpAnyH_take (i := 5) (oi := { dst := some 75, op := Op.load 37 (Operand.tmp 8), type := 37, pos := _, after := #[], guard := none }) (v := ?_) rfl (by kernel_rfl) (by kernel_rfl) (by kernel_rfl) (fun _ _ _ h => h) (Or.inl ⟨by rfl, ?_⟩) (by assumption) ?_
      rotate_left
      · (intro w hSw; obtain ⟨s0, s1, s2, s3, s4, s5⟩ := hSw; (go_simp <;> with_reducible rfl))
      try simp only [Act.put, List.setIfInBounds_toArray, List.set_cons_zero, List.set_cons_succ]
      refine wpAnyH_ready (rs := [3, 10]) (by kernel_rfl) (by simp) ?_
      refine (AllReadyH.cons (o := { dst := some 73, op := Op.buildSlice 59 3 #[(0, Operand.const (Value.string { data := #[118, 49] })), (1, Operand.const (Value.string { data := #[118, 49] })), (2, Operand.const (Value.string { data := #[] }))], type := 59, pos := _, after := #[], guard := none }) rfl (fun K hK => ?_) (AllReadyH.cons (o := { dst := some 13, op := Op.alloc 33, type := 0, pos := _, after := #[], guard := none }) rfl (fun K hK => ?_) AllReadyH.nil))
      · go_simp
        have hh := (G.refl wd none).alloc (.cells #[.string ⟨#[118, 49]⟩, .string ⟨#[118, 49]⟩, .string ⟨#[]⟩] 9)
        have hN := Kp.made (s := W.heap.size) (w := wd) 3 9 #[.string ⟨#[118, 49]⟩, .string ⟨#[118, 49]⟩, .string ⟨#[]⟩] rfl (by decide) hSB0.lt
        have hglB := hSB0.lt
        have hSB1 := hSB0.quiet hh
        have hG1 := hG0.trans0 hh
        have hS1 := hS0.trans (GS.of_G hh)
        clear hh hSB0 hG0 hS0
        have hKB_1 := hN
        clear hN
        generalize wd.alloc (.cells #[.string ⟨#[118, 49]⟩, .string ⟨#[118, 49]⟩, .string ⟨#[]⟩] 9) = w1_x at hSB1 hG1 hS1 hKB_1 ⊢
        refine hK.out _ _ ?_ (fun hHeld => ?_)
        · exact ⟨(HO.out _ hS1).2.cell 0, (HO.out _ hS1).2.cell 1, (HO.out _ hS1).1.2.cell 0, (HO.out _ hS1).1.2.cell 1, (HO.out _ hS1).1.2.cell 2, (HO.out _ hS1).1.2.cell 3⟩
        clear hK K
        try simp only [Act.put, List.setIfInBounds_toArray, List.set_cons_zero, List.set_cons_succ]
        refine wpAnyH_ready (rs := [4, 10]) (by kernel_rfl) (by simp) ?_
        refine (AllReadyH.cons (o := { dst := some 74, op := Op.call { callee := Callee.value (Operand.func 19), args := #[Operand.tmp 72, Operand.tmp 73], argTypes := #[23, 59] }, type := 9, pos := _, after := #[{ on := 2, ground := Ground.data }, { on := 3, ground := Ground.data }], guard := none }) rfl (fun K hK => ?_) (AllReadyH.cons (o := { dst := some 13, op := Op.alloc 33, type := 0, pos := _, after := #[], guard := none }) rfl (fun K hK => ?_) AllReadyH.nil))
        · go_simp
          refine (some_c _ _ _ [⟨#[118, 49]⟩, ⟨#[118, 49]⟩, ⟨#[]⟩] _ _ _ hSB1 (by omega) (by decide) (by decide) hKB_1.now (hSB1.ne hglB)).mono ?_
          rintro e w2_v ⟨v, rfl, hp, hSB2, hh⟩
          have HSv := Lib.hid (small_pick hp (by decide))
          clear hp hKB_1
          have hG2 := hG1.trans hh
          have hS2 := hS1.trans (GS.stream hh)
          clear hh hSB1 hG1 hS1
          refine hK.out _ _ ?_ (fun hHeld => ?_)
          · exact ⟨(HO.out _ hS2).2.cell 0, (HO.out _ hS2).2.cell 1, (HO.out _ hS2).1.2.cell 0, (HO.out _ hS2).1.2.cell 1, (HO.out _ hS2).1.2.cell 2, (HO.out _ hS2).1.2.cell 3⟩
          clear hK K
          try simp only [Act.put, List.setIfInBounds_toArray, List.set_cons_zero, List.set_cons_succ]
          refine wpAnyH_ready (rs := [6, 10]) (by kernel_rfl) (by simp) ?_
          refine (AllReadyH.cons (o := { dst := some 76, op := Op.call { callee := Callee.value (Operand.func 21), args := #[Operand.tmp 70, Operand.const (Value.string { data := #[97, 110, 110] }), Operand.tmp 71, Operand.tmp 74, Operand.tmp 75], argTypes := #[9, 9, 30, 9, 37] }, type := 45, pos := _, after := #[{ on := 0, ground := Ground.data }, { on := 1, ground := Ground.data }, { on := 4, ground := Ground.data }, { on := 5, ground := Ground.data }, { on := 4, ground := Ground.chain }], guard := none }) rfl (fun K hK => ?_) (AllReadyH.cons (o := { dst := some 13, op := Op.alloc 33, type := 0, pos := _, after := #[], guard := none }) rfl (fun K hK => ?_) AllReadyH.nil))
          · go_simp
            refine (start_c (key, ⟨#[97, 110, 110]⟩, x, y) v (o1, os, o3, o4) _ HSv.out HOS.out HKY.out sm_ann HTX.out HTY.out).mono ?_
            rintro e w3_m ⟨H', a', n', c', rfl, hHH, hbb, hR3, hh⟩
            have HHH := Lib.hid hHH
            have HB := Lib.hid (fun k e => Nat.le_trans hS2.size (hbb k e))
            clear hHH hbb
            have hSB3 := hSB2.quiet hh
            have hG3 := hG2.trans0 hh
            have hS3 := hS2.trans (GS.of_G hh)
            clear hh hSB2 hG2 hS2
            refine hK.out _ _ ?_ (fun hHeld => ?_)
            · exact ⟨(HO.out _ hS3).2.cell 0, (HO.out _ hS3).2.cell 1, (HO.out _ hS3).1.2.cell 0, (HO.out _ hS3).1.2.cell 1, (HO.out _ hS3).1.2.cell 2, (HO.out _ hS3).1.2.cell 3⟩
            clear hK K
            try simp only [Act.put, List.setIfInBounds_toArray, List.set_cons_zero, List.set_cons_succ]
            refine wpAnyH_take (i := 7) (oi := { dst := some 69, op := Op.move (Operand.tmp 76), type := 45, pos := _, after := #[{ on := 6, ground := Ground.data }], guard := none }) (v := ?_) rfl (by kernel_rfl) (by kernel_rfl) (by kernel_rfl) (fun _ _ _ h => h) (Or.inl ⟨by rfl, ?_⟩) (by assumption) ?_
            rotate_left
            · (intro w hSw; obtain ⟨s0, s1, s2, s3, s4, s5⟩ := hSw; (go_simp <;> with_reducible rfl))
            try simp only [Act.put, List.setIfInBounds_toArray, List.set_cons_zero, List.set_cons_succ]
            refine wpAnyH_take (i := 8) (oi := { dst := some 77, op := Op.extract (Operand.tmp 69) 0, type := 33, pos := _, after := #[{ on := 7, ground := Ground.data }], guard := none }) (v := ?_) rfl (by kernel_rfl) (by kernel_rfl) (by kernel_rfl) (fun _ _ _ h => h) (Or.inl ⟨by rfl, ?_⟩) (by assumption) ?_
            rotate_left
            · (intro w hSw; obtain ⟨s0, s1, s2, s3, s4, s5⟩ := hSw; (go_simp <;> with_reducible rfl))
            try simp only [Act.put, List.setIfInBounds_toArray, List.set_cons_zero, List.set_cons_succ]
            refine wpAnyH_take (i := 9) (oi := { dst := some 78, op := Op.extract (Operand.tmp 69) 1, type := 40, pos := _, after := #[{ on := 7, ground := Ground.data }, { on := 11, ground := Ground.gcOnly Departure.lateStores }], guard := none }) (v := ?_) rfl (by kernel_rfl) (by kernel_rfl) (by kernel_rfl) (fun _ _ _ h => h) (Or.inl ⟨by rfl, ?_⟩) (by assumption) ?_
            rotate_left
            · (intro w hSw; obtain ⟨s0, s1, s2, s3, s4, s5⟩ := hSw; (go_simp <;> with_reducible rfl))
            try simp only [Act.put, List.setIfInBounds_toArray, List.set_cons_zero, List.set_cons_succ]
            refine wpAnyH_ready (rs := [10]) (by kernel_rfl) (by simp) ?_
            refine (AllReadyH.cons (o := { dst := some 13, op := Op.alloc 33, type := 0, pos := _, after := #[], guard := none }) rfl (fun K hK => ?_) AllReadyH.nil)
            go_simp
            have hh := (G.refl w3_m none).alloc (.cells #[.string ⟨#[]⟩, .string ⟨#[]⟩, .int .i64 0, .int .i64 0, .slice none 0 0] 33)
            have hz : wT.heap.size ≤ w3_m.heap.size := hS3.size
            have hZZ := Bk.new w3_m 33 #[.string ⟨#[]⟩, .string ⟨#[]⟩, .int .i64 0, .int .i64 0, .slice none 0 0]
            have hNE : ∀ k, (Value.slice a' n' c').ownBlock = some k → k ≠ w3_m.heap.size := fun k e => Nat.ne_of_lt (Rd.blk hR3 k e)
            have hSB4 := hSB3.quiet hh
            have hG4 := hG3.trans0 hh
            have hS4 := hS3.trans (GS.of_G hh)
            have hR4 := Rd.quiet hR3 hh
            clear hh hSB3 hG3 hS3 hR3
            have hZ4 := hZZ
            have hne4 := hNE
            generalize w3_m.alloc (.cells #[.string ⟨#[]⟩, .string ⟨#[]⟩, .int .i64 0, .int .i64 0, .slice none 0 0] 33) = w4_x at hSB4 hG4 hS4 hZ4 hR4 ⊢
            refine hK.out _ _ ?_ (fun hHeld => ?_)
            · exact ⟨(HO.out _ hS4).2.cell 0, (HO.out _ hS4).2.cell 1, (HO.out _ hS4).1.2.cell 0, (HO.out _ hS4).1.2.cell 1, (HO.out _ hS4).1.2.cell 2, (HO.out _ hS4).1.2.cell 3⟩
            clear hK K
            try simp only [Act.put, List.setIfInBounds_toArray, List.set_cons_zero, List.set_cons_succ]
            refine wpAnyH_ready (rs := [11]) (by kernel_rfl) (by simp) ?_
            refine (AllReadyH.cons (o := { dst := none, op := Op.store 33 (Operand.tmp 13) (Operand.tmp 77), type := 0, pos := _, after := #[{ on := 10, ground := Ground.data }, { on := 8, ground := Ground.data }, { on := 6, ground := Ground.chain }, { on := 0, ground := Ground.phase }, { on := 1, ground := Ground.phase }, { on := 2, ground := Ground.phase }, { on := 3, ground := Ground.phase }, { on := 4, ground := Ground.phase }, { on := 5, ground := Ground.phase }, { on := 6, ground := Ground.phase }, { on := 7, ground := Ground.phase }, { on := 8, ground := Ground.phase }, { on := 9, ground := Ground.textOnly Departure.lateStores }, { on := 10, ground := Ground.phase }], guard := none }) rfl (fun K hK => ?_) AllReadyH.nil)
            refine st_wp rfl (wp_store_row 33 _ _ rfl (w3_m.heap.size) #[.string H'.1, .string H'.2.1, .int .i64 H'.2.2.1, .int .i64 H'.2.2.2, .slice a' n' c'] rfl rfl 33 _ hZ4 (hi_info H' _) rfl (hi_one H' a' n' c') ?_)
            have hSB5 := hSB4.setRow (r := w3_m.heap.size) (by omega) #[.string H'.1, .string H'.2.1, .int .i64 H'.2.2.1, .int .i64 H'.2.2.2, .slice a' n' c']
            have hG5 := hG4.setRow (g := w3_m.heap.size) (.inl (by omega)) #[.string H'.1, .string H'.2.1, .int .i64 H'.2.2.1, .int .i64 H'.2.2.2, .slice a' n' c']
            have hS5 := hS4.trans (GS.row (g := w3_m.heap.size) hz #[.string H'.1, .string H'.2.1, .int .i64 H'.2.2.1, .int .i64 H'.2.2.2, .slice a' n' c'])
            have hR5 := Rd.grown hR4 ((G.refl _ (some (w3_m.heap.size))).setRow (.inr rfl) #[.string H'.1, .string H'.2.1, .int .i64 H'.2.2.1, .int .i64 H'.2.2.2, .slice a' n' c']) (fun k e hk => by cases e; exact hne4 _ hk rfl)
            have hZ5 := hZ4.setRow #[.string H'.1, .string H'.2.1, .int .i64 H'.2.2.1, .int .i64 H'.2.2.2, .slice a' n' c']
            have hne5 := hne4
            clear hSB4 hG4
            refine hK.out _ _ ?_ (fun hHeld => ?_)
            · exact ⟨(HO.out _ hS5).2.cell 0, (HO.out _ hS5).2.cell 1, (HO.out _ hS5).1.2.cell 0, (HO.out _ hS5).1.2.cell 1, (HO.out _ hS5).1.2.cell 2, (HO.out _ hS5).1.2.cell 3⟩
            clear hK K
            try simp only [Act.put, List.setIfInBounds_toArray, List.set_cons_zero, List.set_cons_succ]
            refine wpAnyH_take (i := 12) (oi := { dst := some 14, op := Op.assign (Operand.tmp 78), type := 40, pos := _, after := #[{ on := 9, ground := Ground.data }, { on := 11, ground := Ground.chain }, { on := 0, ground := Ground.phase }, { on := 1, ground := Ground.phase }, { on := 2, ground := Ground.phase }, { on := 3, ground := Ground.phase }, { on := 4, ground := Ground.phase }, { on := 5, ground := Ground.phase }, { on := 6, ground := Ground.phase }, { on := 7, ground := Ground.phase }, { on := 8, ground := Ground.phase }, { on := 9, ground := Ground.phase }, { on := 10, ground := Ground.phase }, { on := 11, ground := Ground.phase }], guard := none }) (v := ?_) rfl (by kernel_rfl) (by kernel_rfl) (by kernel_rfl) (fun _ _ _ h => h) (Or.inl ⟨by rfl, ?_⟩) (by assumption) ?_
            rotate_left
            · (intro w hSw; obtain ⟨s0, s1, s2, s3, s4, s5⟩ := hSw; (go_simp <;> with_reducible rfl))
            try simp only [Act.put, List.setIfInBounds_toArray, List.set_cons_zero, List.set_cons_succ]
            refine wpAnyH_done (by kernel_rfl) ?_ _
            go_wp2_with fail
            go_meet
            case rel => exact ⟨_, v, H', a', n', c', HSv.out, rfl, rfl, HHH.out, hZ5, hR5, HO.out _ hS5, hG5⟩
          · go_simp
            have hh := (G.refl w2_v none).alloc (.cells #[.string ⟨#[]⟩, .string ⟨#[]⟩, .int .i64 0, .int .i64 0, .slice none 0 0] 33)
            have hz : wT.heap.size ≤ w2_v.heap.size := hS2.size
            have hZZ := Bk.new w2_v 33 #[.string ⟨#[]⟩, .string ⟨#[]⟩, .int .i64 0, .int .i64 0, .slice none 0 0]
            have hSB3 := hSB2.quiet hh
            have hG3 := hG2.trans0 hh
            have hS3 := hS2.trans (GS.of_G hh)
            clear hh hSB2 hG2 hS2
            have hZ3 := hZZ
            generalize w2_v.alloc (.cells #[.string ⟨#[]⟩, .string ⟨#[]⟩, .int .i64 0, .int .i64 0, .slice none 0 0] 33) = w3_x at hSB3 hG3 hS3 hZ3 ⊢
            refine hK.out _ _ ?_ (fun hHeld => ?_)
            · exact ⟨(HO.out _ hS3).2.cell 0, (HO.out _ hS3).2.cell 1, (HO.out _ hS3).1.2.cell 0, (HO.out _ hS3).1.2.cell 1, (HO.out _ hS3).1.2.cell 2, (HO.out _ hS3).1.2.cell 3⟩
            clear hK K
            try simp only [Act.put, List.setIfInBounds_toArray, List.set_cons_zero, List.set_cons_succ]
            refine wpAnyH_ready (rs := [6]) (by kernel_rfl) (by simp) ?_
            refine (AllReadyH.cons (o := { dst := some 76, op := Op.call { callee := Callee.value (Operand.func 21), args := #[Operand.tmp 70, Operand.const (Value.string { data := #[97, 110, 110] }), Operand.tmp 71, Operand.tmp 74, Operand.tmp 75], argTypes := #[9, 9, 30, 9, 37] }, type := 45, pos := _, after := #[{ on := 0, ground := Ground.data }, { on := 1, ground := Ground.data }, { on := 4, ground := Ground.data }, { on := 5, ground := Ground.data }, { on := 4, ground := Ground.chain }], guard := none }) rfl (fun K hK => ?_) AllReadyH.nil)
            go_simp
            refine (start_c (key, ⟨#[97, 110, 110]⟩, x, y) v (o1, os, o3, o4) _ HSv.out HOS.out HKY.out sm_ann HTX.out HTY.out).mono ?_
            rintro e w4_m ⟨H', a', n', c', rfl, hHH, hbb, hR4, hh⟩
            have HHH := Lib.hid hHH
            have HB := Lib.hid (fun k e => Nat.le_trans hS3.size (hbb k e))
            have hne4 : ∀ k, (Value.slice a' n' c').ownBlock = some k → k ≠ w2_v.heap.size := fun k e => by have := hbb k e; have := hZ3.lt; omega
            clear hHH hbb
            have hSB4 := hSB3.quiet hh
            have hG4 := hG3.trans0 hh
            have hS4 := hS3.trans (GS.of_G hh)
            have hZ4 := hZ3.quiet hh
            clear hh hSB3 hG3 hS3 hZ3
            refine hK.out _ _ ?_ (fun hHeld => ?_)
            · exact ⟨(HO.out _ hS4).2.cell 0, (HO.out _ hS4).2.cell 1, (HO.out _ hS4).1.2.cell 0, (HO.out _ hS4).1.2.cell 1, (HO.out _ hS4).1.2.cell 2, (HO.out _ hS4).1.2.cell 3⟩
            clear hK K
            try simp only [Act.put, List.setIfInBounds_toArray, List.set_cons_zero, List.set_cons_succ]
            refine wpAnyH_take (i := 7) (oi := { dst := some 69, op := Op.move (Operand.tmp 76), type := 45, pos := _, after := #[{ on := 6, ground := Ground.data }], guard := none }) (v := ?_) rfl (by kernel_rfl) (by kernel_rfl) (by kernel_rfl) (fun _ _ _ h => h) (Or.inl ⟨by rfl, ?_⟩) (by assumption) ?_
            rotate_left
            · (intro w hSw; obtain ⟨s0, s1, s2, s3, s4, s5⟩ := hSw; (go_simp <;> with_reducible rfl))
            try simp only [Act.put, List.setIfInBounds_toArray, List.set_cons_zero, List.set_cons_succ]
            refine wpAnyH_take (i := 8) (oi := { dst := some 77, op := Op.extract (Operand.tmp 69) 0, type := 33, pos := _, after := #[{ on := 7, ground := Ground.data }], guard := none }) (v := ?_) rfl (by kernel_rfl) (by kernel_rfl) (by kernel_rfl) (fun _ _ _ h => h) (Or.inl ⟨by rfl, ?_⟩) (by assumption) ?_
            rotate_left
            · (intro w hSw; obtain ⟨s0, s1, s2, s3, s4, s5⟩ := hSw; (go_simp <;> with_reducible rfl))
            try simp only [Act.put, List.setIfInBounds_toArray, List.set_cons_zero, List.set_cons_succ]
            refine wpAnyH_take (i := 9) (oi := { dst := some 78, op := Op.extract (Operand.tmp 69) 1, type := 40, pos := _, after := #[{ on := 7, ground := Ground.data }, { on := 11, ground := Ground.gcOnly Departure.lateStores }], guard := none }) (v := ?_) rfl (by kernel_rfl) (by kernel_rfl) (by kernel_rfl) (fun _ _ _ h => h) (Or.inl ⟨by rfl, ?_⟩) (by assumption) ?_
            rotate_left
            · (intro w hSw; obtain ⟨s0, s1, s2, s3, s4, s5⟩ := hSw; (go_simp <;> with_reducible rfl))
            try simp only [Act.put, List.setIfInBounds_toArray, List.set_cons_zero, List.set_cons_succ]
            refine wpAnyH_ready (rs := [11]) (by kernel_rfl) (by simp) ?_
            refine (AllReadyH.cons (o := { dst := none, op := Op.store 33 (Operand.tmp 13) (Operand.tmp 77), type := 0, pos := _, after := #[{ on := 10, ground := Ground.data }, { on := 8, ground := Ground.data }, { on := 6, ground := Ground.chain }, { on := 0, ground := Ground.phase }, { on := 1, ground := Ground.phase }, { on := 2, ground := Ground.phase }, { on := 3, ground := Ground.phase }, { on := 4, ground := Ground.phase }, { on := 5, ground := Ground.phase }, { on := 6, ground := Ground.phase }, { on := 7, ground := Ground.phase }, { on := 8, ground := Ground.phase }, { on := 9, ground := Ground.textOnly Departure.lateStores }, { on := 10, ground := Ground.phase }], guard := none }) rfl (fun K hK => ?_) AllReadyH.nil)
            refine st_wp rfl (wp_store_row 33 _ _ rfl (w2_v.heap.size) #[.string H'.1, .string H'.2.1, .int .i64 H'.2.2.1, .int .i64 H'.2.2.2, .slice a' n' c'] rfl rfl 33 _ hZ4 (hi_info H' _) rfl (hi_one H' a' n' c') ?_)
            have hSB5 := hSB4.setRow (r := w2_v.heap.size) (by omega) #[.string H'.1, .string H'.2.1, .int .i64 H'.2.2.1, .int .i64 H'.2.2.2, .slice a' n' c']
            have hG5 := hG4.setRow (g := w2_v.heap.size) (.inl (by omega)) #[.string H'.1, .string H'.2.1, .int .i64 H'.2.2.1, .int .i64 H'.2.2.2, .slice a' n' c']
            have hS5 := hS4.trans (GS.row (g := w2_v.heap.size) hz #[.string H'.1, .string H'.2.1, .int .i64 H'.2.2.1, .int .i64 H'.2.2.2, .slice a' n' c'])
            have hR5 := Rd.grown hR4 ((G.refl _ (some (w2_v.heap.size))).setRow (.inr rfl) #[.string H'.1, .string H'.2.1, .int .i64 H'.2.2.1, .int .i64 H'.2.2.2, .slice a' n' c']) (fun k e hk => by cases e; exact hne4 _ hk rfl)
            have hZ5 := hZ4.setRow #[.string H'.1, .string H'.2.1, .int .i64 H'.2.2.1, .int .i64 H'.2.2.2, .slice a' n' c']
            have hne5 := hne4
            clear hSB4 hG4
            refine hK.out _ _ ?_ (fun hHeld => ?_)
            · exact ⟨(HO.out _ hS5).2.cell 0, (HO.out _ hS5).2.cell 1, (HO.out _ hS5).1.2.cell 0, (HO.out _ hS5).1.2.cell 1, (HO.out _ hS5).1.2.cell 2, (HO.out _ hS5).1.2.cell 3⟩
            clear hK K
            try simp only [Act.put, List.setIfInBounds_toArray, List.set_cons_zero, List.set_cons_succ]
            refine wpAnyH_take (i := 12) (oi := { dst := some 14, op := Op.assign (Operand.tmp 78), type := 40, pos := _, after := #[{ on := 9, ground := Ground.data }, { on := 11, ground := Ground.chain }, { on := 0, ground := Ground.phase }, { on := 1, ground := Ground.phase }, { on := 2, ground := Ground.phase }, { on := 3, ground := Ground.phase }, { on := 4, ground := Ground.phase }, { on := 5, ground := Ground.phase }, { on := 6, ground := Ground.phase }, { on := 7, ground := Ground.phase }, { on := 8, ground := Ground.phase }, { on := 9, ground := Ground.phase }, { on := 10, ground := Ground.phase }, { on := 11, ground := Ground.phase }], guard := none }) (v := ?_) rfl (by kernel_rfl) (by kernel_rfl) (by kernel_rfl) (fun _ _ _ h => h) (Or.inl ⟨by rfl, ?_⟩) (by assumption) ?_
            rotate_left
            · (intro w hSw; obtain ⟨s0, s1, s2, s3, s4, s5⟩ := hSw; (go_simp <;> with_reducible rfl))
            try simp only [Act.put, List.setIfInBounds_toArray, List.set_cons_zero, List.set_cons_succ]
            refine wpAnyH_done (by kernel_rfl) ?_ _
            go_wp2_with fail
            go_meet
            case rel => exact ⟨_, v, H', a', n', c', HSv.out, rfl, rfl, HHH.out, hZ5, hR5, HO.out _ hS5, hG5⟩
        · go_simp
          have hh := (G.refl w1_x none).alloc (.cells #[.string ⟨#[]⟩, .string ⟨#[]⟩, .int .i64 0, .int .i64 0, .slice none 0 0] 33)
          have hz : wT.heap.size ≤ w1_x.heap.size := hS1.size
          have hZZ := Bk.new w1_x 33 #[.string ⟨#[]⟩, .string ⟨#[]⟩, .int .i64 0, .int .i64 0, .slice none 0 0]
          have hSB2 := hSB1.quiet hh
          have hG2 := hG1.trans0 hh
          have hS2 := hS1.trans (GS.of_G hh)
          have hKB_2 := hKB_1.quiet hh
          clear hh hSB1 hG1 hS1 hKB_1
          have hZ2 := hZZ
          generalize w1_x.alloc (.cells #[.string ⟨#[]⟩, .string ⟨#[]⟩, .int .i64 0, .int .i64 0, .slice none 0 0] 33) = w2_x at hSB2 hG2 hS2 hZ2 hKB_2 ⊢
          refine hK.out _ _ ?_ (fun hHeld => ?_)
          · exact ⟨(HO.out _ hS2).2.cell 0, (HO.out _ hS2).2.cell 1, (HO.out _ hS2).1.2.cell 0, (HO.out _ hS2).1.2.cell 1, (HO.out _ hS2).1.2.cell 2, (HO.out _ hS2).1.2.cell 3⟩
          clear hK K
          try simp only [Act.put, List.setIfInBounds_toArray, List.set_cons_zero, List.set_cons_succ]
          refine wpAnyH_ready (rs := [4]) (by kernel_rfl) (by simp) ?_
          refine (AllReadyH.cons (o := { dst := some 74, op := Op.call { callee := Callee.value (Operand.func 19), args := #[Operand.tmp 72, Operand.tmp 73], argTypes := #[23, 59] }, type := 9, pos := _, after := #[{ on := 2, ground := Ground.data }, { on := 3, ground := Ground.data }], guard := none }) rfl (fun K hK => ?_) AllReadyH.nil)
          go_simp
          refine (some_c _ _ _ [⟨#[118, 49]⟩, ⟨#[118, 49]⟩, ⟨#[]⟩] _ _ _ hSB2 (by omega) (by decide) (by decide) hKB_2.now (hSB2.ne hglB)).mono ?_
          rintro e w3_v ⟨v, rfl, hp, hSB3, hh⟩
          have HSv := Lib.hid (small_pick hp (by decide))
          clear hp hKB_2
          have hG3 := hG2.trans hh
          have hS3 := hS2.trans (GS.stream hh)
          have hZ3 := hZ2.grown hh (fun e => by have := Option.some.inj e; omega)
          clear hh hSB2 hG2 hS2 hZ2
          refine hK.out _ _ ?_ (fun hHeld => ?_)
          · exact ⟨(HO.out _ hS3).2.cell 0, (HO.out _ hS3).2.cell 1, (HO.out _ hS3).1.2.cell 0, (HO.out _ hS3).1.2.cell 1, (HO.out _ hS3).1.2.cell 2, (HO.out _ hS3).1.2.cell 3⟩
          clear hK K
          try simp only [Act.put, List.setIfInBounds_toArray, List.set_cons_zero, List.set_cons_succ]
          refine wpAnyH_ready (rs := [6]) (by kernel_rfl) (by simp) ?_
          refine (AllReadyH.cons (o := { dst := some 76, op := Op.call { callee := Callee.value (Operand.func 21), args := #[Operand.tmp 70, Operand.const (Value.string { data := #[97, 110, 110] }), Operand.tmp 71, Operand.tmp 74, Operand.tmp 75], argTypes := #[9, 9, 30, 9, 37] }, type := 45, pos := _, after := #[{ on := 0, ground := Ground.data }, { on := 1, ground := Ground.data }, { on := 4, ground := Ground.data }, { on := 5, ground := Ground.data }, { on := 4, ground := Ground.chain }], guard := none }) rfl (fun K hK => ?_) AllReadyH.nil)
          go_simp
          refine (start_c (key, ⟨#[97, 110, 110]⟩, x, y) v (o1, os, o3, o4) _ HSv.out HOS.out HKY.out sm_ann HTX.out HTY.out).mono ?_
          rintro e w4_m ⟨H', a', n', c', rfl, hHH, hbb, hR4, hh⟩
          have HHH := Lib.hid hHH
          have HB := Lib.hid (fun k e => Nat.le_trans hS3.size (hbb k e))
          have hne4 : ∀ k, (Value.slice a' n' c').ownBlock = some k → k ≠ w1_x.heap.size := fun k e => by have := hbb k e; have := hZ3.lt; omega
          clear hHH hbb
          have hSB4 := hSB3.quiet hh
          have hG4 := hG3.trans0 hh
          have hS4 := hS3.trans (GS.of_G hh)
          have hZ4 := hZ3.quiet hh
          clear hh hSB3 hG3 hS3 hZ3
          refine hK.out _ _ ?_ (fun hHeld => ?_)
          · exact ⟨(HO.out _ hS4).2.cell 0, (HO.out _ hS4).2.cell 1, (HO.out _ hS4).1.2.cell 0, (HO.out _ hS4).1.2.cell 1, (HO.out _ hS4).1.2.cell 2, (HO.out _ hS4).1.2.cell 3⟩
          clear hK K
          try simp only [Act.put, List.setIfInBounds_toArray, List.set_cons_zero, List.set_cons_succ]
          refine wpAnyH_take (i := 7) (oi := { dst := some 69, op := Op.move (Operand.tmp 76), type := 45, pos := _, after := #[{ on := 6, ground := Ground.data }], guard := none }) (v := ?_) rfl (by kernel_rfl) (by kernel_rfl) (by kernel_rfl) (fun _ _ _ h => h) (Or.inl ⟨by rfl, ?_⟩) (by assumption) ?_
          rotate_left
          · (intro w hSw; obtain ⟨s0, s1, s2, s3, s4, s5⟩ := hSw; (go_simp <;> with_reducible rfl))
          try simp only [Act.put, List.setIfInBounds_toArray, List.set_cons_zero, List.set_cons_succ]
          refine wpAnyH_take (i := 8) (oi := { dst := some 77, op := Op.extract (Operand.tmp 69) 0, type := 33, pos := _, after := #[{ on := 7, ground := Ground.data }], guard := none }) (v := ?_) rfl (by kernel_rfl) (by kernel_rfl) (by kernel_rfl) (fun _ _ _ h => h) (Or.inl ⟨by rfl, ?_⟩) (by assumption) ?_
          rotate_left
          · (intro w hSw; obtain ⟨s0, s1, s2, s3, s4, s5⟩ := hSw; (go_simp <;> with_reducible rfl))
          try simp only [Act.put, List.setIfInBounds_toArray, List.set_cons_zero, List.set_cons_succ]
          refine wpAnyH_take (i := 9) (oi := { dst := some 78, op := Op.extract (Operand.tmp 69) 1, type := 40, pos := _, after := #[{ on := 7, ground := Ground.data }, { on := 11, ground := Ground.gcOnly Departure.lateStores }], guard := none }) (v := ?_) rfl (by kernel_rfl) (by kernel_rfl) (by kernel_rfl) (fun _ _ _ h => h) (Or.inl ⟨by rfl, ?_⟩) (by assumption) ?_
          rotate_left
          · (intro w hSw; obtain ⟨s0, s1, s2, s3, s4, s5⟩ := hSw; (go_simp <;> with_reducible rfl))
          try simp only [Act.put, List.setIfInBounds_toArray, List.set_cons_zero, List.set_cons_succ]
          refine wpAnyH_ready (rs := [11]) (by kernel_rfl) (by simp) ?_
          refine (AllReadyH.cons (o := { dst := none, op := Op.store 33 (Operand.tmp 13) (Operand.tmp 77), type := 0, pos := _, after := #[{ on := 10, ground := Ground.data }, { on := 8, ground := Ground.data }, { on := 6, ground := Ground.chain }, { on := 0, ground := Ground.phase }, { on := 1, ground := Ground.phase }, { on := 2, ground := Ground.phase }, { on := 3, ground := Ground.phase }, { on := 4, ground := Ground.phase }, { on := 5, ground := Ground.phase }, { on := 6, ground := Ground.phase }, { on := 7, ground := Ground.phase }, { on := 8, ground := Ground.phase }, { on := 9, ground := Ground.textOnly Departure.lateStores }, { on := 10, ground := Ground.phase }], guard := none }) rfl (fun K hK => ?_) AllReadyH.nil)
          refine st_wp rfl (wp_store_row 33 _ _ rfl (w1_x.heap.size) #[.string H'.1, .string H'.2.1, .int .i64 H'.2.2.1, .int .i64 H'.2.2.2, .slice a' n' c'] rfl rfl 33 _ hZ4 (hi_info H' _) rfl (hi_one H' a' n' c') ?_)
          have hSB5 := hSB4.setRow (r := w1_x.heap.size) (by omega) #[.string H'.1, .string H'.2.1, .int .i64 H'.2.2.1, .int .i64 H'.2.2.2, .slice a' n' c']
          have hG5 := hG4.setRow (g := w1_x.heap.size) (.inl (by omega)) #[.string H'.1, .string H'.2.1, .int .i64 H'.2.2.1, .int .i64 H'.2.2.2, .slice a' n' c']
          have hS5 := hS4.trans (GS.row (g := w1_x.heap.size) hz #[.string H'.1, .string H'.2.1, .int .i64 H'.2.2.1, .int .i64 H'.2.2.2, .slice a' n' c'])
          have hR5 := Rd.grown hR4 ((G.refl _ (some (w1_x.heap.size))).setRow (.inr rfl) #[.string H'.1, .string H'.2.1, .int .i64 H'.2.2.1, .int .i64 H'.2.2.2, .slice a' n' c']) (fun k e hk => by cases e; exact hne4 _ hk rfl)
          have hZ5 := hZ4.setRow #[.string H'.1, .string H'.2.1, .int .i64 H'.2.2.1, .int .i64 H'.2.2.2, .slice a' n' c']
          have hne5 := hne4
          clear hSB4 hG4
          refine hK.out _ _ ?_ (fun hHeld => ?_)
          · exact ⟨(HO.out _ hS5).2.cell 0, (HO.out _ hS5).2.cell 1, (HO.out _ hS5).1.2.cell 0, (HO.out _ hS5).1.2.cell 1, (HO.out _ hS5).1.2.cell 2, (HO.out _ hS5).1.2.cell 3⟩
          clear hK K
          try simp only [Act.put, List.setIfInBounds_toArray, List.set_cons_zero, List.set_cons_succ]
          refine wpAnyH_take (i := 12) (oi := { dst := some 14, op := Op.assign (Operand.tmp 78), type := 40, pos := _, after := #[{ on := 9, ground := Ground.data }, { on := 11, ground := Ground.chain }, { on := 0, ground := Ground.phase }, { on := 1, ground := Ground.phase }, { on := 2, ground := Ground.phase }, { on := 3, ground := Ground.phase }, { on := 4, ground := Ground.phase }, { on := 5, ground := Ground.phase }, { on := 6, ground := Ground.phase }, { on := 7, ground := Ground.phase }, { on := 8, ground := Ground.phase }, { on := 9, ground := Ground.phase }, { on := 10, ground := Ground.phase }, { on := 11, ground := Ground.phase }], guard := none }) (v := ?_) rfl (by kernel_rfl) (by kernel_rfl) (by kernel_rfl) (fun _ _ _ h => h) (Or.inl ⟨by rfl, ?_⟩) (by assumption) ?_
          rotate_left
          · (intro w hSw; obtain ⟨s0, s1, s2, s3, s4, s5⟩ := hSw; (go_simp <;> with_reducible rfl))
          try simp only [Act.put, List.setIfInBounds_toArray, List.set_cons_zero, List.set_cons_succ]
          refine wpAnyH_done (by kernel_rfl) ?_ _
          go_wp2_with fail
          go_meet
          case rel => exact ⟨_, v, H', a', n', c', HSv.out, rfl, rfl, HHH.out, hZ5, hR5, HO.out _ hS5, hG5⟩
      · go_simp
        have hh := (G.refl wd none).alloc (.cells #[.string ⟨#[]⟩, .string ⟨#[]⟩, .int .i64 0, .int .i64 0, .slice none 0 0] 33)
        have hz : wT.heap.size ≤ wd.heap.size := hS0.size
        have hZZ := Bk.new wd 33 #[.string ⟨#[]⟩, .string ⟨#[]⟩, .int .i64 0, .int .i64 0, .slice none 0 0]
        have hSB1 := hSB0.quiet hh
        have hG1 := hG0.trans0 hh
        have hS1 := hS0.trans (GS.of_G hh)
        clear hh hSB0 hG0 hS0
        have hZ1 := hZZ
        generalize wd.alloc (.cells #[.string ⟨#[]⟩, .string ⟨#[]⟩, .int .i64 0, .int .i64 0, .slice none 0 0] 33) = w1_x at hSB1 hG1 hS1 hZ1 ⊢
        refine hK.out _ _ ?_ (fun hHeld => ?_)
        · exact ⟨(HO.out _ hS1).2.cell 0, (HO.out _ hS1).2.cell 1, (HO.out _ hS1).1.2.cell 0, (HO.out _ hS1).1.2.cell 1, (HO.out _ hS1).1.2.cell 2, (HO.out _ hS1).1.2.cell 3⟩
        clear hK K
        try simp only [Act.put, List.setIfInBounds_toArray, List.set_cons_zero, List.set_cons_succ]
        refine wpAnyH_ready (rs := [3]) (by kernel_rfl) (by simp) ?_
        refine (AllReadyH.cons (o := { dst := some 73, op := Op.buildSlice 59 3 #[(0, Operand.const (Value.string { data := #[118, 49] })), (1, Operand.const (Value.string { data := #[118, 49] })), (2, Operand.const (Value.string { data := #[] }))], type := 59, pos := _, after := #[], guard := none }) rfl (fun K hK => ?_) AllReadyH.nil)
        go_simp
        have hh := (G.refl w1_x none).alloc (.cells #[.string ⟨#[118, 49]⟩, .string ⟨#[118, 49]⟩, .string ⟨#[]⟩] 9)
        have hN := Kp.made (s := W.heap.size) (w := w1_x) 3 9 #[.string ⟨#[118, 49]⟩, .string ⟨#[118, 49]⟩, .string ⟨#[]⟩] rfl (by decide) hSB1.lt
        have hglB := hSB1.lt
        have hSB2 := hSB1.quiet hh
        have hG2 := hG1.trans0 hh
        have hS2 := hS1.trans (GS.of_G hh)
        have hZ2 := hZ1.quiet hh
        clear hh hSB1 hG1 hS1 hZ1
        have hKB_2 := hN
        clear hN
        generalize w1_x.alloc (.cells #[.string ⟨#[118, 49]⟩, .string ⟨#[118, 49]⟩, .string ⟨#[]⟩] 9) = w2_x at hSB2 hG2 hS2 hZ2 hKB_2 ⊢
        refine hK.out _ _ ?_ (fun hHeld => ?_)
        · exact ⟨(HO.out _ hS2).2.cell 0, (HO.out _ hS2).2.cell 1, (HO.out _ hS2).1.2.cell 0, (HO.out _ hS2).1.2.cell 1, (HO.out _ hS2).1.2.cell 2, (HO.out _ hS2).1.2.cell 3⟩
        clear hK K
        try simp only [Act.put, List.setIfInBounds_toArray, List.set_cons_zero, List.set_cons_succ]
        refine wpAnyH_ready (rs := [4]) (by kernel_rfl) (by simp) ?_
        refine (AllReadyH.cons (o := { dst := some 74, op := Op.call { callee := Callee.value (Operand.func 19), args := #[Operand.tmp 72, Operand.tmp 73], argTypes := #[23, 59] }, type := 9, pos := _, after := #[{ on := 2, ground := Ground.data }, { on := 3, ground := Ground.data }], guard := none }) rfl (fun K hK => ?_) AllReadyH.nil)
        go_simp
        refine (some_c _ _ _ [⟨#[118, 49]⟩, ⟨#[118, 49]⟩, ⟨#[]⟩] _ _ _ hSB2 (by omega) (by decide) (by decide) hKB_2.now (hSB2.ne hglB)).mono ?_
        rintro e w3_v ⟨v, rfl, hp, hSB3, hh⟩
        have HSv := Lib.hid (small_pick hp (by decide))
        clear hp hKB_2
        have hG3 := hG2.trans hh
        have hS3 := hS2.trans (GS.stream hh)
        have hZ3 := hZ2.grown hh (fun e => by have := Option.some.inj e; omega)
        clear hh hSB2 hG2 hS2 hZ2
        refine hK.out _ _ ?_ (fun hHeld => ?_)
        · exact ⟨(HO.out _ hS3).2.cell 0, (HO.out _ hS3).2.cell 1, (HO.out _ hS3).1.2.cell 0, (HO.out _ hS3).1.2.cell 1, (HO.out _ hS3).1.2.cell 2, (HO.out _ hS3).1.2.cell 3⟩
        clear hK K
        try simp only [Act.put, List.setIfInBounds_toArray, List.set_cons_zero, List.set_cons_succ]
        refine wpAnyH_ready (rs := [6]) (by kernel_rfl) (by simp) ?_
        refine (AllReadyH.cons (o := { dst := some 76, op := Op.call { callee := Callee.value (Operand.func 21), args := #[Operand.tmp 70, Operand.const (Value.string { data := #[97, 110, 110] }), Operand.tmp 71, Operand.tmp 74, Operand.tmp 75], argTypes := #[9, 9, 30, 9, 37] }, type := 45, pos := _, after := #[{ on := 0, ground := Ground.data }, { on := 1, ground := Ground.data }, { on := 4, ground := Ground.data }, { on := 5, ground := Ground.data }, { on := 4, ground := Ground.chain }], guard := none }) rfl (fun K hK => ?_) AllReadyH.nil)
        go_simp
        refine (start_c (key, ⟨#[97, 110, 110]⟩, x, y) v (o1, os, o3, o4) _ HSv.out HOS.out HKY.out sm_ann HTX.out HTY.out).mono ?_
        rintro e w4_m ⟨H', a', n', c', rfl, hHH, hbb, hR4, hh⟩
        have HHH := Lib.hid hHH
        have HB := Lib.hid (fun k e => Nat.le_trans hS3.size (hbb k e))
        have hne4 : ∀ k, (Value.slice a' n' c').ownBlock = some k → k ≠ wd.heap.size := fun k e => by have := hbb k e; have := hZ3.lt; omega
        clear hHH hbb
        have hSB4 := hSB3.quiet hh
        have hG4 := hG3.trans0 hh
        have hS4 := hS3.trans (GS.of_G hh)
        have hZ4 := hZ3.quiet hh
        clear hh hSB3 hG3 hS3 hZ3
        refine hK.out _ _ ?_ (fun hHeld => ?_)
        · exact ⟨(HO.out _ hS4).2.cell 0, (HO.out _ hS4).2.cell 1, (HO.out _ hS4).1.2.cell 0, (HO.out _ hS4).1.2.cell 1, (HO.out _ hS4).1.2.cell 2, (HO.out _ hS4).1.2.cell 3⟩
        clear hK K
        try simp only [Act.put, List.setIfInBounds_toArray, List.set_cons_zero, List.set_cons_succ]
        refine wpAnyH_take (i := 7) (oi := { dst := some 69, op := Op.move (Operand.tmp 76), type := 45, pos := _, after := #[{ on := 6, ground := Ground.data }], guard := none }) (v := ?_) rfl (by kernel_rfl) (by kernel_rfl) (by kernel_rfl) (fun _ _ _ h => h) (Or.inl ⟨by rfl, ?_⟩) (by assumption) ?_
        rotate_left
        · (intro w hSw; obtain ⟨s0, s1, s2, s3, s4, s5⟩ := hSw; (go_simp <;> with_reducible rfl))
        try simp only [Act.put, List.setIfInBounds_toArray, List.set_cons_zero, List.set_cons_succ]
        refine wpAnyH_take (i := 8) (oi := { dst := some 77, op := Op.extract (Operand.tmp 69) 0, type := 33, pos := _, after := #[{ on := 7, ground := Ground.data }], guard := none }) (v := ?_) rfl (by kernel_rfl) (by kernel_rfl) (by kernel_rfl) (fun _ _ _ h => h) (Or.inl ⟨by rfl, ?_⟩) (by assumption) ?_
        rotate_left
        · (intro w hSw; obtain ⟨s0, s1, s2, s3, s4, s5⟩ := hSw; (go_simp <;> with_reducible rfl))
        try simp only [Act.put, List.setIfInBounds_toArray, List.set_cons_zero, List.set_cons_succ]
        refine wpAnyH_take (i := 9) (oi := { dst := some 78, op := Op.extract (Operand.tmp 69) 1, type := 40, pos := _, after := #[{ on := 7, ground := Ground.data }, { on := 11, ground := Ground.gcOnly Departure.lateStores }], guard := none }) (v := ?_) rfl (by kernel_rfl) (by kernel_rfl) (by kernel_rfl) (fun _ _ _ h => h) (Or.inl ⟨by rfl, ?_⟩) (by assumption) ?_
        rotate_left
        · (intro w hSw; obtain ⟨s0, s1, s2, s3, s4, s5⟩ := hSw; (go_simp <;> with_reducible rfl))
        try simp only [Act.put, List.setIfInBounds_toArray, List.set_cons_zero, List.set_cons_succ]
        refine wpAnyH_ready (rs := [11]) (by kernel_rfl) (by simp) ?_
        refine (AllReadyH.cons (o := { dst := none, op := Op.store 33 (Operand.tmp 13) (Operand.tmp 77), type := 0, pos := _, after := #[{ on := 10, ground := Ground.data }, { on := 8, ground := Ground.data }, { on := 6, ground := Ground.chain }, { on := 0, ground := Ground.phase }, { on := 1, ground := Ground.phase }, { on := 2, ground := Ground.phase }, { on := 3, ground := Ground.phase }, { on := 4, ground := Ground.phase }, { on := 5, ground := Ground.phase }, { on := 6, ground := Ground.phase }, { on := 7, ground := Ground.phase }, { on := 8, ground := Ground.phase }, { on := 9, ground := Ground.textOnly Departure.lateStores }, { on := 10, ground := Ground.phase }], guard := none }) rfl (fun K hK => ?_) AllReadyH.nil)
        refine st_wp rfl (wp_store_row 33 _ _ rfl (wd.heap.size) #[.string H'.1, .string H'.2.1, .int .i64 H'.2.2.1, .int .i64 H'.2.2.2, .slice a' n' c'] rfl rfl 33 _ hZ4 (hi_info H' _) rfl (hi_one H' a' n' c') ?_)
        have hSB5 := hSB4.setRow (r := wd.heap.size) (by omega) #[.string H'.1, .string H'.2.1, .int .i64 H'.2.2.1, .int .i64 H'.2.2.2, .slice a' n' c']
        have hG5 := hG4.setRow (g := wd.heap.size) (.inl (by omega)) #[.string H'.1, .string H'.2.1, .int .i64 H'.2.2.1, .int .i64 H'.2.2.2, .slice a' n' c']
        have hS5 := hS4.trans (GS.row (g := wd.heap.size) hz #[.string H'.1, .string H'.2.1, .int .i64 H'.2.2.1, .int .i64 H'.2.2.2, .slice a' n' c'])
        have hR5 := Rd.grown hR4 ((G.refl _ (some (wd.heap.size))).setRow (.inr rfl) #[.string H'.1, .string H'.2.1, .int .i64 H'.2.2.1, .int .i64 H'.2.2.2, .slice a' n' c']) (fun k e hk => by cases e; exact hne4 _ hk rfl)
        have hZ5 := hZ4.setRow #[.string H'.1, .string H'.2.1, .int .i64 H'.2.2.1, .int .i64 H'.2.2.2, .slice a' n' c']
        have hne5 := hne4
        clear hSB4 hG4
        refine hK.out _ _ ?_ (fun hHeld => ?_)
        · exact ⟨(HO.out _ hS5).2.cell 0, (HO.out _ hS5).2.cell 1, (HO.out _ hS5).1.2.cell 0, (HO.out _ hS5).1.2.cell 1, (HO.out _ hS5).1.2.cell 2, (HO.out _ hS5).1.2.cell 3⟩
        clear hK K
        try simp only [Act.put, List.setIfInBounds_toArray, List.set_cons_zero, List.set_cons_succ]
        refine wpAnyH_take (i := 12) (oi := { dst := some 14, op := Op.assign (Operand.tmp 78), type := 40, pos := _, after := #[{ on := 9, ground := Ground.data }, { on := 11, ground := Ground.chain }, { on := 0, ground := Ground.phase }, { on := 1, ground := Ground.phase }, { on := 2, ground := Ground.phase }, { on := 3, ground := Ground.phase }, { on := 4, ground := Ground.phase }, { on := 5, ground := Ground.phase }, { on := 6, ground := Ground.phase }, { on := 7, ground := Ground.phase }, { on := 8, ground := Ground.phase }, { on := 9, ground := Ground.phase }, { on := 10, ground := Ground.phase }, { on := 11, ground := Ground.phase }], guard := none }) (v := ?_) rfl (by kernel_rfl) (by kernel_rfl) (by kernel_rfl) (fun _ _ _ h => h) (Or.inl ⟨by rfl, ?_⟩) (by assumption) ?_
        rotate_left
        · (intro w hSw; obtain ⟨s0, s1, s2, s3, s4, s5⟩ := hSw; (go_simp <;> with_reducible rfl))
        try simp only [Act.put, List.setIfInBounds_toArray, List.set_cons_zero, List.set_cons_succ]
        refine wpAnyH_done (by kernel_rfl) ?_ _
        go_wp2_with fail
        go_meet
        case rel => exact ⟨_, v, H', a', n', c', HSv.out, rfl, rfl, HHH.out, hZ5, hR5, HO.out _ hS5, hG5⟩
    case rest =>
      obtain ⟨g13, v, Ah, aa, na, ca, hv, rfl, rfl, hA, hAB, hAR, ⟨⟨⟨⟨hP, hR⟩, hI⟩, hO⟩, hT⟩, hG⟩ := hcut
      replace hG := G.own hG (Nat.le_refl _)
      obtain ⟨AE, hAE⟩ : ∃ AE, hiE (key, ⟨#[97, 110, 110]⟩, x, y) [(v, (o1, os, o3, o4), noIn)] = AE := ⟨_, rfl⟩
      rw [hAE] at hA hAR ⊢
      have HAE := Lib.hid hAE
      clear hAE
      have HAH := Lib.hid hA
      have HVS := Lib.hid hv
      clear HO hA hv hst hgT
      go_wp2_with (first | (refine wpList_load_row rfl 33 _ rfl (g + 1) rfl 33 #[.string H.1, .string H.2.1, .int .i64 H.2.2.1, .int .i64 H.2.2.2, .slice b1 l.length c1] (0, 0) _ hP Tryd.underlying33 rfl (hi_info H _) ?_) | (refine wpList_load_row rfl 37 _ rfl (gi) rfl 37 #[.int .i64 i1, .string i2, .int .i64 i3, .int .i64 i4] (0, 0) _ hI Tryd.underlying37 rfl (rg_info (i1, i2, i3, i4)) ?_) | (refine wpList_load_row rfl 37 _ rfl (gi + 1) rfl 37 #[.int .i64 o1, .string os, .int .i64 o3, .int .i64 o4] (0, 0) _ hO Tryd.underlying37 rfl (rg_info (o1, os, o3, o4)) ?_))
      refine (CX1.out _ hR).mono ?_; rintro e wx ⟨XH, ax, nx, cx, rfl, hq, -, hRx, hh⟩
      have HXH := Lib.hid hq
      clear hq
      replace hP := hP.quiet hh
      replace hR := Rd.quiet hR hh
      replace hI := hI.quiet hh
      replace hO := hO.quiet hh
      replace hT := hT.quiet hh
      replace hAB := hAB.quiet hh
      replace hAR := Rd.quiet hAR hh
      replace hG := hG.trans hh
      clear hh CX1
      have hh := (G.refl wx none).alloc (.cells #[.string XH.1, .string XH.2.1, .int .i64 XH.2.2.1, .int .i64 XH.2.2.2, .slice ax nx cx] 33)
      have hX := Bk.new wx 33 #[.string XH.1, .string XH.2.1, .int .i64 XH.2.2.1, .int .i64 XH.2.2.2, .slice ax nx cx]
      replace hP := hP.quiet hh
      replace hR := Rd.quiet hR hh
      replace hI := hI.quiet hh
      replace hO := hO.quiet hh
      replace hT := hT.quiet hh
      replace hAB := hAB.quiet hh
      replace hAR := Rd.quiet hAR hh
      replace hRx := Rd.quiet hRx hh
      replace hG := hG.trans hh
      clear hh
      go_upto_region 13 with fail
      generalize wx.alloc (.cells #[.string XH.1, .string XH.2.1, .int .i64 XH.2.2.1, .int .i64 XH.2.2.2, .slice ax nx cx] 33) = vx at hP hR hI hO hT hAB hAR hRx hX hG ⊢
      generalize wx.heap.size = gx at hX ⊢
      go_wp2_with (refine wpList_load_row rfl 33 _ rfl (g + 1) rfl 33 #[.string H.1, .string H.2.1, .int .i64 H.2.2.1, .int .i64 H.2.2.2, .slice b1 l.length c1] (0, 0) _ hP Tryd.underlying33 rfl (hi_info H _) ?_)
      refine (CY1.out _ hR).mono ?_; rintro e wy ⟨YH, ay, ny, cy, rfl, hq, -, hRy, hh⟩
      have HYH := Lib.hid hq
      clear hq
      replace hP := hP.quiet hh
      replace hR := Rd.quiet hR hh
      replace hI := hI.quiet hh
      replace hO := hO.quiet hh
      replace hT := hT.quiet hh
      replace hAB := hAB.quiet hh
      replace hAR := Rd.quiet hAR hh
      replace hRx := Rd.quiet hRx hh
      replace hX := hX.quiet hh
      replace hG := hG.trans hh
      clear hh CY1
      have hh := (G.refl wy none).alloc (.cells #[.string YH.1, .string YH.2.1, .int .i64 YH.2.2.1, .int .i64 YH.2.2.2, .slice ay ny cy] 33)
      have hY := Bk.new wy 33 #[.string YH.1, .string YH.2.1, .int .i64 YH.2.2.1, .int .i64 YH.2.2.2, .slice ay ny cy]
      replace hP := hP.quiet hh
      replace hR := Rd.quiet hR hh
      replace hI := hI.quiet hh
      replace hO := hO.quiet hh
      replace hT := hT.quiet hh
      replace hAB := hAB.quiet hh
      replace hAR := Rd.quiet hAR hh
      replace hRx := Rd.quiet hRx hh
      replace hX := hX.quiet hh
      replace hRy := Rd.quiet hRy hh
      replace hG := hG.trans hh
      clear hh
      go_upto_region 14 with fail
      generalize wy.alloc (.cells #[.string YH.1, .string YH.2.1, .int .i64 YH.2.2.1, .int .i64 YH.2.2.2, .slice ay ny cy] 33) = vy at hP hR hI hO hT hAB hAR hRx hX hRy hY hG ⊢
      generalize wy.heap.size = gy at hY ⊢
      go_wp2_with (first | (refine wpList_load_row rfl 33 _ rfl (g + 1) rfl 33 #[.string H.1, .string H.2.1, .int .i64 H.2.2.1, .int .i64 H.2.2.2, .slice b1 l.length c1] (0, 0) _ hP Tryd.underlying33 rfl (hi_info H _) ?_) | (refine wpList_load_row rfl 37 _ rfl (gi) rfl 37 #[.int .i64 i1, .string i2, .int .i64 i3, .int .i64 i4] (0, 0) _ hI Tryd.underlying37 rfl (rg_info (i1, i2, i3, i4)) ?_))
      refine (CZ1.out _ hR).mono ?_; rintro e wz ⟨ZH, az, nz, cz, rfl, hq, -, hRz, hh⟩
      have HZH := Lib.hid hq
      clear hq
      replace hP := hP.quiet hh
      replace hR := Rd.quiet hR hh
      replace hI := hI.quiet hh
      replace hO := hO.quiet hh
      replace hT := hT.quiet hh
      replace hAB := hAB.quiet hh
      replace hAR := Rd.quiet hAR hh
      replace hRx := Rd.quiet hRx hh
      replace hX := hX.quiet hh
      replace hRy := Rd.quiet hRy hh
      replace hY := hY.quiet hh
      replace hG := hG.trans hh
      clear hh CZ1
      have hh := (G.refl wz none).alloc (.cells #[.string ZH.1, .string ZH.2.1, .int .i64 ZH.2.2.1, .int .i64 ZH.2.2.2, .slice az nz cz] 33)
      have hZ := Bk.new wz 33 #[.string ZH.1, .string ZH.2.1, .int .i64 ZH.2.2.1, .int .i64 ZH.2.2.2, .slice az nz cz]
      replace hP := hP.quiet hh
      replace hR := Rd.quiet hR hh
      replace hI := hI.quiet hh
      replace hO := hO.quiet hh
      replace hT := hT.quiet hh
      replace hAB := hAB.quiet hh
      replace hAR := Rd.quiet hAR hh
      replace hRx := Rd.quiet hRx hh
      replace hX := hX.quiet hh
      replace hRy := Rd.quiet hRy hh
      replace hY := hY.quiet hh
      replace hRz := Rd.quiet hRz hh
      replace hG := hG.trans hh
      clear hh
      go_upto_region 15 with fail
      generalize wz.alloc (.cells #[.string ZH.1, .string ZH.2.1, .int .i64 ZH.2.2.1, .int .i64 ZH.2.2.2, .slice az nz cz] 33) = vz at hP hR hI hO hT hAB hAR hRx hX hRy hY hRz hZ hG ⊢
      generalize wz.heap.size = gz at hZ ⊢
      have HF := Lib.hid (fun w' (q : GS (fun k => vz.heap.size ≤ k) vz w') => (show Bk w' (g + 1) 33 #[.string H.1, .string H.2.1, .int .i64 H.2.2.1, .int .i64 H.2.2.2, .slice b1 l.length c1] ∧ RdR w' 9 lgC (.slice b1 l.length c1) l ∧ Bk w' gi 37 #[.int .i64 i1, .string i2, .int .i64 i3, .int .i64 i4] ∧ Bk w' (gi + 1) 37 #[.int .i64 o1, .string os, .int .i64 o3, .int .i64 o4] ∧ Bk w' gw 30 #[.int .i64 x, .int .i64 y] ∧ Bk w' g13 33 #[.string Ah.1, .string Ah.2.1, .int .i64 Ah.2.2.1, .int .i64 Ah.2.2.2, .slice aa na ca] ∧ RdR w' 9 lgC (.slice aa na ca) (hiL AE [(v, (o1, os, o3, o4), noIn)]) ∧ Bk w' gx 33 #[.string XH.1, .string XH.2.1, .int .i64 XH.2.2.1, .int .i64 XH.2.2.2, .slice ax nx cx] ∧ RdR w' 9 lgC (.slice ax nx cx) (hiL xe LX) ∧ Bk w' gy 33 #[.string YH.1, .string YH.2.1, .int .i64 YH.2.2.1, .int .i64 YH.2.2.2, .slice ay ny cy] ∧ RdR w' 9 lgC (.slice ay ny cy) (hiL ye l) ∧ Bk w' gz 33 #[.string ZH.1, .string ZH.2.1, .int .i64 ZH.2.2.1, .int .i64 ZH.2.2.2, .slice az nz cz] ∧ RdR w' 9 lgC (.slice az nz cz) (hiL ze LZ) from ⟨hP.gs q (by have := hP.lt; omega), Rd.gs hR q (fun k e => by have := Rd.blk hR k e; omega), hI.gs q (by have := hI.lt; omega), hO.gs q (by have := hO.lt; omega), hT.gs q (by have := hT.lt; omega), hAB.gs q (by have := hAB.lt; omega), Rd.gs hAR q (fun k e => by have := Rd.blk hAR k e; omega), hX.gs q (by have := hX.lt; omega), Rd.gs hRx q (fun k e => by have := Rd.blk hRx k e; omega), hY.gs q (by have := hY.lt; omega), Rd.gs hRy q (fun k e => by have := Rd.blk hRy k e; omega), hZ.gs q (by have := hZ.lt; omega), Rd.gs hRz q (fun k e => by have := Rd.blk hRz k e; omega)⟩))
      clear hP hR hI hO hT hAB hAR hX hRx hY hRy hZ hRz
      have hh := (((G.refl vz none).alloc (.cells #[.string ⟨#[]⟩, .string ⟨#[]⟩, .int .i64 0, .int .i64 0, .slice none 0 0] 33)).alloc (.cells #[.string ⟨#[]⟩, .string ⟨#[]⟩, .int .i64 0, .int .i64 0, .slice none 0 0] 33)).alloc (.cells #[.string ⟨#[]⟩, .string ⟨#[]⟩, .int .i64 0, .int .i64 0, .slice none 0 0] 33)
      have hZ1 := ((Bk.new vz 33 #[.string ⟨#[]⟩, .string ⟨#[]⟩, .int .i64 0, .int .i64 0, .slice none 0 0]).alloc (.cells #[.string ⟨#[]⟩, .string ⟨#[]⟩, .int .i64 0, .int .i64 0, .slice none 0 0] 33)).alloc (.cells #[.string ⟨#[]⟩, .string ⟨#[]⟩, .int .i64 0, .int .i64 0, .slice none 0 0] 33)
      have hZ2 := (Bk.newAt (w := vz.alloc (.cells #[.string ⟨#[]⟩, .string ⟨#[]⟩, .int .i64 0, .int .i64 0, .slice none 0 0] 33)) (b := vz.heap.size + 1) (by simp) 33 #[.string ⟨#[]⟩, .string ⟨#[]⟩, .int .i64 0, .int .i64 0, .slice none 0 0]).alloc (.cells #[.string ⟨#[]⟩, .string ⟨#[]⟩, .int .i64 0, .int .i64 0, .slice none 0 0] 33)
      have hZ3 := Bk.newAt (w := (vz.alloc (.cells #[.string ⟨#[]⟩, .string ⟨#[]⟩, .int .i64 0, .int .i64 0, .slice none 0 0] 33)).alloc (.cells #[.string ⟨#[]⟩, .string ⟨#[]⟩, .int .i64 0, .int .i64 0, .slice none 0 0] 33)) (b := vz.heap.size + 2) (by simp) 33 #[.string ⟨#[]⟩, .string ⟨#[]⟩, .int .i64 0, .int .i64 0, .slice none 0 0]
      have hS : GS (fun k => vz.heap.size ≤ k) vz _ := GS.of_G hh
      have hWq := hG.size
      clear hh
      go_upto_region 16 with fail
      generalize ((vz.alloc (.cells #[.string ⟨#[]⟩, .string ⟨#[]⟩, .int .i64 0, .int .i64 0, .slice none 0 0] 33)).alloc (.cells #[.string ⟨#[]⟩, .string ⟨#[]⟩, .int .i64 0, .int .i64 0, .slice none 0 0] 33)).alloc (.cells #[.string ⟨#[]⟩, .string ⟨#[]⟩, .int .i64 0, .int .i64 0, .slice none 0 0] 33) = vq at hZ1 hZ2 hZ3 hS ⊢
      generalize vz.heap.size = gq at hZ1 hZ2 hZ3 hS HF hWq ⊢
      go_upto_if 102 with fail
      go_cut [24, 25, 26] from 27 (fun s24 s25 s26 w' => ∃ (x1 : Option Addr) (x2 x3 : Nat) (y1 : Option Addr) (y2 y3 : Nat) (z1 : Option Addr) (z2 z3 : Nat), s24 = .int .i64 xe ∧ s25 = .int .i64 ye ∧ s26 = .int .i64 ze ∧ Bk w' gq 33 #[.string XH.1, .string XH.2.1, .int .i64 XH.2.2.1, .int .i64 XH.2.2.2, .slice x1 x2 x3] ∧ Bk w' (gq + 1) 33 #[.string YH.1, .string YH.2.1, .int .i64 YH.2.2.1, .int .i64 YH.2.2.2, .slice y1 y2 y3] ∧ Bk w' (gq + 2) 33 #[.string ZH.1, .string ZH.2.1, .int .i64 ZH.2.2.1, .int .i64 ZH.2.2.2, .slice z1 z2 z3] ∧ RdR w' 9 lgC (.slice x1 x2 x3) (hiL xe LX) ∧ RdR w' 9 lgC (.slice y1 y2 y3) (hiL ye l) ∧ RdR w' 9 lgC (.slice z1 z2 z3) (hiL ze LZ) ∧ GS (fun k => gq ≤ k) vz w')
      case first =>
        by_cases k0 : FE = 0
        · obtain rfl : xe = xr := HQX.out.1 k0
          obtain rfl : ye = yr := HQY.out.1 k0
          obtain rfl : ze = zr := HQZ.out.1 k0
          subst k0
          clear HQX HQY HQZ
          obtain ⟨hP, hR, hI, hO, -⟩ := HF.out _ hS
          go_wp2_with (first | (refine wpList_load_row rfl 33 _ rfl (g + 1) rfl 33 #[.string H.1, .string H.2.1, .int .i64 H.2.2.1, .int .i64 H.2.2.2, .slice b1 l.length c1] (0, 0) _ hP Tryd.underlying33 rfl (hi_info H _) ?_) | (refine wpList_load_row rfl 37 _ rfl (gi) rfl 37 #[.int .i64 i1, .string i2, .int .i64 i3, .int .i64 i4] (0, 0) _ hI Tryd.underlying37 rfl (rg_info (i1, i2, i3, i4)) ?_) | (refine wpList_load_row rfl 37 _ rfl (gi + 1) rfl 37 #[.int .i64 o1, .string os, .int .i64 o3, .int .i64 o4] (0, 0) _ hO Tryd.underlying37 rfl (rg_info (o1, os, o3, o4)) ?_))
          refine (CX2.out _ hR).mono ?_; rintro e mx ⟨Qx, x1, x2, x3, rfl, hq, hb, hLx, hh⟩
          obtain rfl : XH = Qx := HXH.out.trans hq.symm
          clear hP hR hI hO hq CX2
          have hlq := hZ3.lt
          replace hZ1 := hZ1.quiet hh
          replace hZ2 := hZ2.quiet hh
          replace hZ3 := hZ3.quiet hh
          replace hS := hS.trans (GS.of_G hh)
          clear hh
          have hset := (G.refl mx (some (gq))).setRow (.inr rfl) #[.string XH.1, .string XH.2.1, .int .i64 XH.2.2.1, .int .i64 XH.2.2.2, .slice x1 x2 x3]
          replace hLx := Rd.grown hLx hset (fun k e hk => by cases e; have := hb _ hk; omega)
          have hNx : ∀ k, (Value.slice x1 x2 x3).ownBlock = some k → ¬ k ≤ gq + 2 := fun k hk => by have := hb _ hk; omega
          replace hS := hS.trans (GS.of_Gs hset (show gq ≤ gq by omega))
          have hz := hZ1
          go_upto_region 19 with (refine wpList_store_row rfl 33 _ _ rfl (gq) #[.string XH.1, .string XH.2.1, .int .i64 XH.2.2.1, .int .i64 XH.2.2.2, .slice x1 x2 x3] rfl rfl 33 _ hz (hi_info XH _) rfl (hi_one XH _ _ _) ?_)
          clear hz
          replace hZ1 := hZ1.setRow #[.string XH.1, .string XH.2.1, .int .i64 XH.2.2.1, .int .i64 XH.2.2.2, .slice x1 x2 x3]
          replace hZ2 := hZ2.farRow (k := gq) (by omega) #[.string XH.1, .string XH.2.1, .int .i64 XH.2.2.1, .int .i64 XH.2.2.2, .slice x1 x2 x3]
          replace hZ3 := hZ3.farRow (k := gq) (by omega) #[.string XH.1, .string XH.2.1, .int .i64 XH.2.2.1, .int .i64 XH.2.2.2, .slice x1 x2 x3]
          clear hset hb hlq
          generalize mx.setRow (gq) #[.string XH.1, .string XH.2.1, .int .i64 XH.2.2.1, .int .i64 XH.2.2.2, .slice x1 x2 x3] = n_x at hZ1 hZ2 hZ3 hLx hS ⊢
          obtain ⟨hP, hR, hI, hO, -⟩ := HF.out _ hS
          go_wp2_with (refine wpList_load_row rfl 33 _ rfl (g + 1) rfl 33 #[.string H.1, .string H.2.1, .int .i64 H.2.2.1, .int .i64 H.2.2.2, .slice b1 l.length c1] (0, 0) _ hP Tryd.underlying33 rfl (hi_info H _) ?_)
          refine (CY2.out _ hR).mono ?_; rintro e my ⟨Qy, y1, y2, y3, rfl, hq, hb, hLy, hh⟩
          obtain rfl : YH = Qy := HYH.out.trans hq.symm
          clear hP hR hI hO hq CY2
          have hlq := hZ3.lt
          replace hZ1 := hZ1.quiet hh
          replace hZ2 := hZ2.quiet hh
          replace hZ3 := hZ3.quiet hh
          replace hLx := Rd.quiet hLx hh
          replace hS := hS.trans (GS.of_G hh)
          clear hh
          have hset := (G.refl my (some (gq + 1))).setRow (.inr rfl) #[.string YH.1, .string YH.2.1, .int .i64 YH.2.2.1, .int .i64 YH.2.2.2, .slice y1 y2 y3]
          replace hLy := Rd.grown hLy hset (fun k e hk => by cases e; have := hb _ hk; omega)
          replace hLx := Rd.grown hLx hset (fun k e hk => by cases e; exact hNx _ hk (by omega))
          have hNy : ∀ k, (Value.slice y1 y2 y3).ownBlock = some k → ¬ k ≤ gq + 2 := fun k hk => by have := hb _ hk; omega
          replace hS := hS.trans (GS.of_Gs hset (show gq ≤ gq + 1 by omega))
          have hz := hZ2
          go_upto_region 20 with (refine wpList_store_row rfl 33 _ _ rfl (gq + 1) #[.string YH.1, .string YH.2.1, .int .i64 YH.2.2.1, .int .i64 YH.2.2.2, .slice y1 y2 y3] rfl rfl 33 _ hz (hi_info YH _) rfl (hi_one YH _ _ _) ?_)
          clear hz
          replace hZ1 := hZ1.farRow (k := gq + 1) (by omega) #[.string YH.1, .string YH.2.1, .int .i64 YH.2.2.1, .int .i64 YH.2.2.2, .slice y1 y2 y3]
          replace hZ2 := hZ2.setRow #[.string YH.1, .string YH.2.1, .int .i64 YH.2.2.1, .int .i64 YH.2.2.2, .slice y1 y2 y3]
          replace hZ3 := hZ3.farRow (k := gq + 1) (by omega) #[.string YH.1, .string YH.2.1, .int .i64 YH.2.2.1, .int .i64 YH.2.2.2, .slice y1 y2 y3]
          clear hset hb hlq
          generalize my.setRow (gq + 1) #[.string YH.1, .string YH.2.1, .int .i64 YH.2.2.1, .int .i64 YH.2.2.2, .slice y1 y2 y3] = n_y at hZ1 hZ2 hZ3 hLx hLy hS ⊢
          obtain ⟨hP, hR, hI, hO, -⟩ := HF.out _ hS
          go_wp2_with (first | (refine wpList_load_row rfl 33 _ rfl (g + 1) rfl 33 #[.string H.1, .string H.2.1, .int .i64 H.2.2.1, .int .i64 H.2.2.2, .slice b1 l.length c1] (0, 0) _ hP Tryd.underlying33 rfl (hi_info H _) ?_) | (refine wpList_load_row rfl 37 _ rfl (gi) rfl 37 #[.int .i64 i1, .string i2, .int .i64 i3, .int .i64 i4] (0, 0) _ hI Tryd.underlying37 rfl (rg_info (i1, i2, i3, i4)) ?_))
          refine (CZ2.out _ hR).mono ?_; rintro e mz ⟨Qz, z1, z2, z3, rfl, hq, hb, hLz, hh⟩
          obtain rfl : ZH = Qz := HZH.out.trans hq.symm
          clear hP hR hI hO hq CZ2
          have hlq := hZ3.lt
          replace hZ1 := hZ1.quiet hh
          replace hZ2 := hZ2.quiet hh
          replace hZ3 := hZ3.quiet hh
          replace hLx := Rd.quiet hLx hh
          replace hLy := Rd.quiet hLy hh
          replace hS := hS.trans (GS.of_G hh)
          clear hh
          have hset := (G.refl mz (some (gq + 2))).setRow (.inr rfl) #[.string ZH.1, .string ZH.2.1, .int .i64 ZH.2.2.1, .int .i64 ZH.2.2.2, .slice z1 z2 z3]
          replace hLz := Rd.grown hLz hset (fun k e hk => by cases e; have := hb _ hk; omega)
          replace hLx := Rd.grown hLx hset (fun k e hk => by cases e; exact hNx _ hk (by omega))
          replace hLy := Rd.grown hLy hset (fun k e hk => by cases e; exact hNy _ hk (by omega))
          have hNz : ∀ k, (Value.slice z1 z2 z3).ownBlock = some k → ¬ k ≤ gq + 2 := fun k hk => by have := hb _ hk; omega
          replace hS := hS.trans (GS.of_Gs hset (show gq ≤ gq + 2 by omega))
          have hz := hZ3
          go_wp2_with (refine wpList_store_row rfl 33 _ _ rfl (gq + 2) #[.string ZH.1, .string ZH.2.1, .int .i64 ZH.2.2.1, .int .i64 ZH.2.2.2, .slice z1 z2 z3] rfl rfl 33 _ hz (hi_info ZH _) rfl (hi_one ZH _ _ _) ?_)
          clear hz
          replace hZ1 := hZ1.farRow (k := gq + 2) (by omega) #[.string ZH.1, .string ZH.2.1, .int .i64 ZH.2.2.1, .int .i64 ZH.2.2.2, .slice z1 z2 z3]
          replace hZ2 := hZ2.farRow (k := gq + 2) (by omega) #[.string ZH.1, .string ZH.2.1, .int .i64 ZH.2.2.1, .int .i64 ZH.2.2.2, .slice z1 z2 z3]
          replace hZ3 := hZ3.setRow #[.string ZH.1, .string ZH.2.1, .int .i64 ZH.2.2.1, .int .i64 ZH.2.2.2, .slice z1 z2 z3]
          clear hset hb hlq
          generalize mz.setRow (gq + 2) #[.string ZH.1, .string ZH.2.1, .int .i64 ZH.2.2.1, .int .i64 ZH.2.2.2, .slice z1 z2 z3] = n_z at hZ1 hZ2 hZ3 hLx hLy hLz hS ⊢
          go_meet
          case rel => exact ⟨x1, x2, x3, y1, y2, y3, z1, z2, z3, rfl, rfl, rfl, hZ1, hZ2, hZ3, hLx, hLy, hLz, hS⟩
        · have k0' : (FE == 0) = false := by simpa using k0
          obtain rfl : xe = FE := HQX.out.2 k0
          obtain rfl : ye = xe := HQY.out.2 k0
          obtain rfl : ze = ye := HQZ.out.2 k0
          obtain rfl : XH = (⟨#[]⟩, ⟨#[]⟩, 0, 0) := HXH.out.trans (by rw [hiH, if_neg k0])
          obtain rfl : YH = (⟨#[]⟩, ⟨#[]⟩, 0, 0) := HYH.out.trans (by rw [hiH, if_neg k0])
          obtain rfl : ZH = (⟨#[]⟩, ⟨#[]⟩, 0, 0) := HZH.out.trans (by rw [hiH, if_neg k0])
          clear HQX HQY HQZ CX2 CY2 CZ2
          go_wp2_with fail
          go_meet
          case rel => exact ⟨none, 0, 0, none, 0, 0, none, 0, 0, rfl, rfl, rfl, hZ1, hZ2, hZ3, by rw [hiL, if_neg k0]; exact RdR.nil _ _ _, by rw [hiL, if_neg k0]; exact RdR.nil _ _ _, by rw [hiL, if_neg k0]; exact RdR.nil _ _ _, hS⟩
      case rest =>
        obtain ⟨x1, x2, x3, y1, y2, y3, z1, z2, z3, rfl, rfl, rfl, hZ1, hZ2, hZ3, hL1, hL2, hL3, hS2⟩ := hcut
        clear hS CX2 CY2 CZ2 HQX HQY HQZ
        have hxx : (xe != xe) = false := by simp
        have hyy : (ye != ye) = false := by simp
        have hzz : (ze != ze) = false := by simp
        obtain ⟨-, -, -, -, hT, hAB, hAR, hX, hRx, hY, hRy, hZ, hRz⟩ := HF.out _ hS2
        go_wp2_with (first | (refine wpList_load_gd rfl 33 _ rfl ⟨gx, 0, none⟩ rfl #[.string XH.1, .string XH.2.1, .int .i64 XH.2.2.1, .int .i64 XH.2.2.2, .slice ax nx cx] _ (bk_at hX) Tryd.underlying33 rfl (hi_info XH _) ?_) | (refine wpList_load_gd rfl 33 _ rfl ⟨gq, 0, none⟩ rfl #[.string XH.1, .string XH.2.1, .int .i64 XH.2.2.1, .int .i64 XH.2.2.2, .slice x1 x2 x3] _ (bk_at hZ1) Tryd.underlying33 rfl (hi_info XH _) ?_))
        refine (sameHire_c XH (.slice ax nx cx) (.slice x1 x2 x3) (hiL xe LX) _ hRx hL1 (hiL_len _ _ (by have := HNX.out HSM.out.2.2.2.2.2; omega))).mono ?_; rintro e rx ⟨rfl, hh⟩
        replace hT := hT.quiet hh
        replace hAB := hAB.quiet hh
        replace hY := hY.quiet hh
        replace hZ := hZ.quiet hh
        replace hZ2 := hZ2.quiet hh
        replace hZ3 := hZ3.quiet hh
        replace hAR := Rd.quiet hAR hh
        replace hRy := Rd.quiet hRy hh
        replace hRz := Rd.quiet hRz hh
        replace hL2 := Rd.quiet hL2 hh
        replace hL3 := Rd.quiet hL3 hh
        replace hS2 := hS2.trans (GS.of_G hh)
        clear hh hX hRx hZ1 hL1
        go_wp2_with (first | (refine wpList_load_gd rfl 33 _ rfl ⟨gy, 0, none⟩ rfl #[.string YH.1, .string YH.2.1, .int .i64 YH.2.2.1, .int .i64 YH.2.2.2, .slice ay ny cy] _ (bk_at hY) Tryd.underlying33 rfl (hi_info YH _) ?_) | (refine wpList_load_gd rfl 33 _ rfl ⟨gq + 1, 0, none⟩ rfl #[.string YH.1, .string YH.2.1, .int .i64 YH.2.2.1, .int .i64 YH.2.2.2, .slice y1 y2 y3] _ (bk_at hZ2) Tryd.underlying33 rfl (hi_info YH _) ?_))
        refine (sameHire_c YH (.slice ay ny cy) (.slice y1 y2 y3) (hiL ye l) _ hRy hL2 (hiL_len _ _ (by have := HSM.out.2.2.2.2.2; omega))).mono ?_; rintro e ry ⟨rfl, hh⟩
        replace hT := hT.quiet hh
        replace hAB := hAB.quiet hh
        replace hZ := hZ.quiet hh
        replace hZ3 := hZ3.quiet hh
        replace hAR := Rd.quiet hAR hh
        replace hRz := Rd.quiet hRz hh
        replace hL3 := Rd.quiet hL3 hh
        replace hS2 := hS2.trans (GS.of_G hh)
        clear hh hY hRy hZ2 hL2
        go_wp2_with (first | (refine wpList_load_gd rfl 33 _ rfl ⟨gz, 0, none⟩ rfl #[.string ZH.1, .string ZH.2.1, .int .i64 ZH.2.2.1, .int .i64 ZH.2.2.2, .slice az nz cz] _ (bk_at hZ) Tryd.underlying33 rfl (hi_info ZH _) ?_) | (refine wpList_load_gd rfl 33 _ rfl ⟨gq + 2, 0, none⟩ rfl #[.string ZH.1, .string ZH.2.1, .int .i64 ZH.2.2.1, .int .i64 ZH.2.2.2, .slice z1 z2 z3] _ (bk_at hZ3) Tryd.underlying33 rfl (hi_info ZH _) ?_))
        refine (sameHire_c ZH (.slice az nz cz) (.slice z1 z2 z3) (hiL ze LZ) _ hRz hL3 (hiL_len _ _ (by have := HNZ.out HSM.out.2.2.2.2.2; omega))).mono ?_; rintro e rz ⟨rfl, hh⟩
        replace hT := hT.quiet hh
        replace hAB := hAB.quiet hh
        replace hAR := Rd.quiet hAR hh
        replace hS2 := hS2.trans (GS.of_G hh)
        clear hh hZ hRz hZ3 hL3
        replace hG := GS.own hG hS2 (fun k hk => Nat.le_trans hWq hk)
        clear hS2 HF hxx hyy hzz
        by_cases k1 : AE = 0
        · subst k1
          obtain rfl : Ah = (key, ⟨#[97, 110, 110]⟩, x, y) := HAH.out
          have hAR : RdR rz 9 lgC (.slice aa na ca) [(v, (o1, os, o3, o4), noIn)] := hAR
          obtain ⟨a', c', hv', -, -⟩ := RdR.form hAR
          cases hv'
          have hok : LgOk [(v, (o1, os, o3, o4), noIn)] := fun p hp => by obtain rfl := List.mem_singleton.1 hp; exact ⟨HVS.out, HOS.out, small_nil⟩
          have hio : ioB [(v, (o1, os, o3, o4), noIn)] = true := rfl
          have hq := wi_eql x y
          go_wp2_with (refine wpList_load_row rfl 33 _ rfl g13 rfl 33 #[.string key, .string ⟨#[97, 110, 110]⟩, .int .i64 x, .int .i64 y, .slice aa 1 ca] (0, 0) _ hAB Tryd.underlying33 rfl (hi_info (key, ⟨#[97, 110, 110]⟩, x, y) _) ?_)
          refine (hireFault_c (key, ⟨#[97, 110, 110]⟩, x, y) (.slice aa 1 ca) _ _ hAR hok HKY.out sm_ann HTX.out HTY.out (by simp)).mono ?_; rintro e q1 ⟨rfl, hh⟩
          rw [HAE.out]
          replace hAB := hAB.quiet hh
          replace hT := hT.quiet hh
          replace hAR := Rd.quiet hAR hh
          replace hG := hG.trans hh
          clear hh
          go_wp2_with (refine wpList_load_gd rfl 33 _ rfl ⟨g13, 0, none⟩ rfl #[.string key, .string ⟨#[97, 110, 110]⟩, .int .i64 x, .int .i64 y, .slice aa 1 ca] _ (bk_at hAB) Tryd.underlying33 rfl (hi_info (key, ⟨#[97, 110, 110]⟩, x, y) _) ?_)
          refine (isOpenR_c (key, ⟨#[97, 110, 110]⟩, x, y) (.slice aa 1 ca) _ _ hAR (by simp)).mono ?_; rintro e q2 ⟨rfl, hh⟩
          rw [hio]
          replace hAB := hAB.quiet hh
          replace hT := hT.quiet hh
          replace hAR := Rd.quiet hAR hh
          replace hG := hG.trans hh
          clear hh
          have HTI := Lib.hid (hAB.part 2 #[.int .i64 x, .int .i64 y] (hi_time (key, ⟨#[97, 110, 110]⟩, x, y) _))
          go_wp2_with (first | (refine wpList_load_gd rfl 30 _ rfl ⟨g13, 2, none⟩ rfl #[.int .i64 x, .int .i64 y] _ HTI.out Tryd.underlying30 rfl (wi_info _ _) ?_) | (refine wpList_load_gd rfl 30 _ rfl ⟨gw, 0, none⟩ rfl #[.int .i64 x, .int .i64 y] _ (bk_at hT) Tryd.underlying30 rfl (wi_info _ _) ?_))
          refine (hired_c _).mono ?_; rintro e q3 ⟨rfl, hh⟩
          go_wp2_with fail
          go_ret
          exact ⟨rfl, hG.trans hh⟩
        · have k1' : (AE != 0) = true := by simpa using k1
          rw [hiL, if_neg k1] at hAR
          obtain ⟨a', c', hv', -, -⟩ := RdR.form hAR
          cases hv'
          have c4 : rz.cell? ⟨g13, 4, none⟩ = some (.slice aa 0 ca) := hAB.cell 4
          go_wp2_with fail
          refine (hired_c _).mono ?_; rintro e q3 ⟨rfl, hh⟩
          go_wp2_with fail
          go_ret
          exact ⟨rfl, hG.trans hh⟩
end Go.Proofs.YtdcofbciebkfkaaDoor

/- What the row's list of variables gives; a start that meets it. -/
namespace Go.Proofs.YtdcofbciebkfkaaDoor
open Go.ChangeShapes Go.WideShapes Go.ChangeAt Go.RowKit

theorem own : ownKnob Tryd.prog.godebug = none := by kernel_rfl
theorem c1 : Tryd.prog.cellsOf 3 = 1 := by kernel_rfl
def laidL : List (String × DataW Unit) := [("unicode/utf8.acceptRanges", Rows.laid_unicode_utf8_acceptRanges), ("unicode/utf8.first", Rows.laid_unicode_utf8_first)]
/-- A start that meets the list: what the door's run leaves, Go's own table laid by hand. -/
noncomputable def laidWorld (os : Os) : World :=
  { World.doorLaid Tryd.prog 200 os with heap := (World.doorLaid Tryd.prog 200 os).heap.modify 0 fun
      | .cells _ t fr => .cells (Lib.firstTab.map (Value.int .u8)).toArray t fr
      | o => o }
set_option maxRecDepth 100000 in
theorem laid_met (os : Os) : laidMetH Tryd.prog laidL ((laidWorld os).forCall (fun _ _ => 0) ⟨#[], #[.slice none 0 0], []⟩).memory :=
  laidMetH_of_parts3 (fuel := 8) (laidMet_of_run' 8 (by kernel_rfl) (by kernel_rfl)) (by kernel_rfl) (by kernel_rfl)

/-! ### The row's last step -/
section
variable {H : Type} {enc : TypeId × Value → H} {P : Program}
theorem post_quiet {f : Func} {s : ChangeSpec} {apart fresh handsOn again : Bool} {W W' : World} {args : Array Value} {v : Value} {ds gs : List (DataW H)} {before pa pv : List MemPlace}
    (hW : DataW.Whole enc P f.params.toList s.vars apart W args.toList ds gs before) (hg : G W W' none)
    (hres : ∀ (b : Nat) (sp : Nat → Bool) (hd : Bool), DataW.TrodAll enc P W' b sp hd f.resultTypes.toList (v.resultList f.resultTypes.size) (s.fn H (ds ++ gs)).results [])
    (hargs : ∀ sp : Nat → Bool, (∀ p ∈ before, sp p.block = true) → DataW.TrodAll enc P W' 0 sp true f.params.toList args.toList (s.fn H (ds ++ gs)).args pa)
    (hvars : ∀ sp : Nat → Bool, (∀ p ∈ before, sp p.block = true) → DataW.TrodVars enc P W' sp s.vars (s.fn H (ds ++ gs)).vars pv)
    (hps : before = pa ++ pv)
    (hok : ∀ (j : Nat) (t : TypeId) (r : Value), f.resultTypes[j]? = some t → (v.resultList f.resultTypes.size)[j]? = some r → Value.okWide P W' .any 0 t r) :
    s.post enc P f apart fresh handsOn again W args v W' := by
  have hb := hg.below
  have lt : ∀ p ∈ before, p.block < W.heap.size := fun p hp => hW.lt p hp
  have old : ∀ p ∈ before, (fun b => decide (b < W.heap.size)) p.block = true := fun p hp => decide_eq_true (lt p hp)
  have sub : ∀ p, p ∈ ([] ++ pa) ++ pv → p ∈ before := fun p hp => by rw [hps]; simpa using hp
  refine ⟨ds, gs, before, [], pa, pv, hW, hres _ _ _, hargs _ old, hvars _ old, World.keptBut_mono (fun p hp => ⟨hp, .inr (by rw [← List.mem_append, ← hps]; exact hp)⟩) (hb.frame (· ∈ before)), fun _ => ⟨hok, ?_⟩⟩
  obtain ⟨_, _, _, _, _, hz, hn⟩ := hW
  refine ⟨_, _, ([] ++ pa) ++ pv, ⟨[] ++ pa, pv, trodAll_append (hargs _ fun _ _ => rfl) (hres _ _ _), hvars _ fun _ _ => rfl, rfl, fun b off hp => ?_, fun ha => ?_⟩, fun p hp _ => sub p hp⟩
  · rw [hb.frozen (lt _ (sub _ hp))]
    exact hz b off (sub _ hp)
  · have h := hn ha
    rw [hps] at h
    simpa using h
end
theorem laidOut : laidOutB Tryd.prog = true := by kernel_rfl
theorem wf64 {n : Int} (h : (Lit.int .i64 n).wf = true) : -9223372036854775808 ≤ n ∧ n ≤ 9223372036854775807 := by
  have h1 : IntKind.i64.min = -9223372036854775808 := rfl
  have h2 : IntKind.i64.max = 9223372036854775807 := rfl
  simp only [Lit.wf, Bool.and_eq_true, decide_eq_true_eq] at h
  omega
set_option maxRecDepth 100000 in
theorem has_of_ok {W : World} {base : Nat} {a : Addr} {n c : Nat} (hok : Value.okWide Tryd.prog W .any base 22 (.slice (some a) n c)) : a.spot = none ∧ a.block < W.heap.size := by
  simp only [Value.okWide, Tryd.underlying22, Cell.okWide, Cell.ok] at hok
  obtain ⟨_, _, _, h2, row, cells, h3, _⟩ := hok
  refine ⟨h2, ?_⟩
  unfold World.shape? at h3
  cases hh : W.heap[a.block]? with
  | none => simp [hh] at h3
  | some o => exact (Array.getElem?_eq_some_iff.1 hh).1
set_option maxRecDepth 100000 in
/-- The list of numbers that came in, as the walk wants it. -/
theorem rd_of_trod {H : Type} {enc : TypeId × Value → H} {W : World} {base : Nat} {v : Value} {d : DataW H} {p : List MemPlace} (hok : Value.okWide Tryd.prog W .any base 22 v) (h : DataW.Trod enc Tryd.prog W 0 (fun _ => true) true 22 v d p) :
    ∃ (a : Option Addr) (n c : Nat) (zs : List Int), v = .slice a n c ∧ Rd W 1 (.slice a n c) n (zs.map (Value.int .i64)) ∧ ∀ z ∈ zs, -9223372036854775808 ≤ z ∧ z ≤ 9223372036854775807 := by
  obtain ⟨a0, len, cap, rfl⟩ := okWide_slice Tryd.underlying22 hok
  obtain ⟨fuel, hf⟩ := h
  rcases open_ints Tryd.underlying22 Tryd.underlying3 c1 hf with ⟨hcs, _⟩ | ⟨a, len', cap', zs, hcs, _, hl, hm, hz, _, hcell, hw⟩
  · have hcs' : [Value.slice a0 len cap] = [Value.slice none 0 0] := hcs
    injection hcs' with e _
    injection e with e1 e2 e3
    subst e1; subst e2; subst e3
    exact ⟨none, 0, 0, [], rfl, ⟨none, 0, rfl, Nat.le_refl _, Nat.zero_le _, rfl, fun _ => ⟨rfl, rfl⟩, fun b hb => by cases hb⟩, fun z hz => by cases hz⟩
  · have hcs' : [Value.slice a0 len cap] = [Value.slice (some a) len' cap'] := hcs
    injection hcs' with e _
    injection e with e1 e2 e3
    subst e1; subst e2; subst e3
    simp only [if_true] at hz
    obtain ⟨s1, s2⟩ := has_of_ok hok
    refine ⟨some a, len, cap, zs.take len, rfl, ⟨some a, cap, rfl, hl, hm, by simp; omega, (fun e => by cases e), fun b hb => ?_⟩, fun z hz' => wf64 (hw z (List.mem_of_mem_take hz'))⟩
    obtain rfl := Option.some.inj hb
    refine ⟨s1, s2, fun j u hj => ?_⟩
    rw [List.getElem?_map] at hj
    obtain ⟨z, hz1, rfl⟩ := Option.map_eq_some_iff.1 hj
    have hjl := (List.getElem?_eq_some_iff.1 hz1).1
    simp at hjl
    have hc := hcell j (by omega)
    have hz2 : zs[j]? = some z := by rw [← hz1, List.getElem?_take, if_pos (by omega)]
    rw [List.getD, hz2] at hc
    have ha : a.add j = ⟨a.block, a.off + j, none⟩ := by
      obtain ⟨ab, ao, asp⟩ := a
      dsimp only at s1
      subst s1
      exact add_at ab ao j
    rw [ha] at hc
    exact hc
end Go.Proofs.YtdcofbciebkfkaaDoor
