/- The law HireStarts. -/
import Derived.Test.YtbieiefbgcgogaaDoorHiu
import Derived.Test.YtbieiefbgcgogaaDoorGenL
import Derived.Test.YtbieiefbgcgogaaDoorGenW
namespace Go.Proofs.YtbieiefbgcgogaaDoor
open Go.RowKit

set_option maxRecDepth 100000 in
set_option maxHeartbeats 8000000 in
theorem hireStarts_c (a : Option Addr) (n c : Nat) (zs : List Int) (W : World) (hr : Rd W 1 (.slice a n c) n (zs.map (Value.int .i64))) (hz : ∀ z ∈ zs, -9223372036854775808 ≤ z ∧ z ≤ 9223372036854775807) :
    Calls Tryd.prog 4 #[.slice a n c] W fun e W' => e = .returned (.bool true) ∧ G W W' none := by
  have hSB : SB (W.alloc (.cells #[.slice a n c, .int .i64 0] 25)) W.heap.size 0 := by
    have hB := Bk.new W 25 #[.slice a n c, .int .i64 0]
    refine ⟨0, a, n, c, zs, Nat.le_refl _, hr.quiet ((G.refl _ _).alloc _), fun b e => ?_, hz, hB.cell 0, hB.cell 1, hB.free 1, hB.lt⟩
    obtain ⟨a', c', e', r1, r2, r3, r4, r5⟩ := hr
    cases e'
    exact (r5 b e).2.1
  have hG0 : G W (W.alloc (.cells #[.slice a n c, .int .i64 0] 25)) (some W.heap.size) := (G.refl _ _).alloc _
  clear hr hz
  go_enter Tryd.func4, Tryd.ntmps4
  go_wp2_with fail
  refine (some_c _ _ _ [⟨#[104, 49]⟩, ⟨#[104, 49]⟩, ⟨#[]⟩, ⟨#[65]⟩] _ W.heap.size 0 (hSB.alloc _) (by omega) (by decide) (by decide) (Rd.newAt _ (by simp) rfl (by decide)) (hSB.newAt _ _ _ (by simp))).mono ?_; rintro e w1 ⟨k, rfl, hp, hSB1, hG1⟩
  have HK := Lib.hid (small_pick hp (by decide))
  have hG01 := (hG0.alloc _).trans hG1
  clear hSB hG0 hG1 hp
  go_wp2_with fail
  refine (some_c _ _ _ [⟨#[97, 110, 110]⟩, ⟨#[97, 110, 110]⟩, ⟨#[65]⟩] _ _ _ (hSB1.alloc _) (by omega) (by decide) (by decide) (Rd.newAt _ rfl rfl (by decide)) (hSB1.newAt _ _ _ (Nat.le_refl _))).mono ?_; rintro e w2 ⟨d, rfl, hp, hSB2, hG2⟩
  have HD := Lib.hid (small_pick hp (by decide))
  have hG02 := (hG01.alloc _).trans hG2
  clear hSB1 hG01 hG2 hp
  go_wp2_with fail
  refine (some_c _ _ _ [⟨#[118, 49]⟩, ⟨#[118, 49]⟩, ⟨#[]⟩] _ _ _ (hSB2.alloc _) (by omega) (by decide) (by decide) (Rd.newAt _ rfl rfl (by decide)) (hSB2.newAt _ _ _ (Nat.le_refl _))).mono ?_; rintro e w3 ⟨v, rfl, hp, hSB3, hG3⟩
  have HV := Lib.hid (small_pick hp (by decide))
  have hG03 := (hG02.alloc _).trans hG3
  clear hSB2 hG02 hG3 hp
  go_wp2_with fail
  refine (time_c _ W.heap.size _ hSB3 (by omega)).mono ?_; rintro e w4 ⟨x, y, rfl, hx, hy, hSB4, hG4⟩
  have HX := Lib.hid hx
  have HY := Lib.hid hy
  have hG04 := hG03.trans hG4
  clear hSB3 hG03 hG4 hx hy
  have hT4 := Bk.new w4 31 #[.int .i64 x, .int .i64 y]
  have hSB5 := hSB4.alloc (.cells #[.int .i64 x, .int .i64 y] 31)
  have hG05 := hG04.alloc (.cells #[.int .i64 x, .int .i64 y] 31)
  have hs4 := hSB4.lt
  clear hSB4 hG04
  go_upto_region 3 with fail
  generalize w4.alloc (.cells #[.int .i64 x, .int .i64 y] 31) = w5 at hT4 hSB5 hG05 ⊢
  generalize w4.heap.size = g at hT4 hs4 ⊢
  have c0 : w5.cell? ⟨g, 0, none⟩ = some (.int .i64 x) := hT4.cell 0
  go_wp2_with fail
  refine (pick_c _ _ _ [x, x, x, 7] _ _ _ (hSB5.alloc _) (by omega) (by decide) (by decide) (Rd.newAt _ rfl rfl (by decide)) (hSB5.newAt _ _ _ (Nat.le_refl _))).mono ?_; rintro e w6 ⟨t, rfl, hp, hSB6, hG6⟩
  have HT : Hid (bnd t) := Lib.hid (by
    simp only [List.mem_cons, List.mem_nil_iff, or_false] at hp
    rcases hp with rfl | rfl | rfl | rfl
    · exact HX.out
    · exact HX.out
    · exact HX.out
    · unfold bnd; omega)
  have hT6 := (hT4.alloc _).grown hG6 (fun e => by have := Option.some.inj e; omega)
  have hG06 := (hG05.alloc _).trans hG6
  clear hSB5 hG05 hG6 hT4 c0 hp
  go_wp2_with fail
  refine (reading_c t _ _ _ HT.out hSB6 (by omega)).mono ?_; rintro e w7 ⟨r, rfl, hrb, hSB7, hG7⟩
  have HRB := Lib.hid hrb
  have hT7 := hT6.grown hG7 (fun e => by have := Option.some.inj e; omega)
  have hG07 := G.own (hG06.trans hG7) (Nat.le_refl _)
  clear hSB6 hG06 hG7 hT6 hrb hSB7
  have hR8 := Bk.new w7 57 (rgC r)
  have hT8 := hT7.alloc (.cells (rgC r) 57)
  have hG08 := hG07.alloc (.cells (rgC r) 57)
  have hg7 := hT7.lt
  rw [show rgC r = #[.int .i64 r.1, .string r.2.1, .int .i64 r.2.2.1, .int .i64 r.2.2.2] from rfl]
  clear hT7 hG07
  go_upto_region 4 with fail
  rw [show #[.int .i64 r.1, .string r.2.1, .int .i64 r.2.2.1, .int .i64 r.2.2.2] = rgC r from rfl]
  generalize w7.alloc (.cells (rgC r) 57) = w8 at hR8 hT8 hG08 ⊢
  generalize w7.heap.size = q at hR8 hg7 ⊢
  have HS1 := Lib.hid (fun w => start_c (k, d, x, y) v r w HV.out HRB.out.2.1 HK.out HD.out HX.out HY.out)
  have HS2 := Lib.hid (fun w => startOf_c (k, d, x, y) v r w HV.out HRB.out.2.1 HK.out HD.out HX.out HY.out)
  go_wp2_with (first | (refine wpList_load_row rfl 31 _ rfl g rfl 31 #[.int .i64 x, .int .i64 y] (0, 0) _ hT8 Tryd.underlying31 rfl (wi_info _ _) ?_) | (refine wpList_load_row rfl 57 _ rfl q rfl 57 #[.int .i64 r.1, .string r.2.1, .int .i64 r.2.2.1, .int .i64 r.2.2.2] (0, 0) _ hR8 Tryd.underlying57 rfl (rg_info r) ?_))
  refine (HS1.out _).mono ?_; rintro e w9 ⟨H, a1, n1, c1, rfl, hH, -, hL1, hG9⟩
  have HH := Lib.hid hH
  have hT8 := hT8.quiet hG9
  have hR8 := hR8.quiet hG9
  have hG09 := hG08.trans hG9
  clear hG08 hG9 hH
  have hA := Bk.new w9 61 #[.string H.1, .string H.2.1, .int .i64 H.2.2.1, .int .i64 H.2.2.2, .slice a1 n1 c1]
  have hT8 := hT8.alloc (.cells #[.string H.1, .string H.2.1, .int .i64 H.2.2.1, .int .i64 H.2.2.2, .slice a1 n1 c1] 61)
  have hR8 := hR8.alloc (.cells #[.string H.1, .string H.2.1, .int .i64 H.2.2.1, .int .i64 H.2.2.2, .slice a1 n1 c1] 61)
  have hG09 := hG09.alloc (.cells #[.string H.1, .string H.2.1, .int .i64 H.2.2.1, .int .i64 H.2.2.2, .slice a1 n1 c1] 61)
  have hL1 := hL1.quiet ((G.refl w9 none).alloc (.cells #[.string H.1, .string H.2.1, .int .i64 H.2.2.1, .int .i64 H.2.2.2, .slice a1 n1 c1] 61))
  go_upto_region 5 with fail
  generalize w9.alloc (.cells #[.string H.1, .string H.2.1, .int .i64 H.2.2.1, .int .i64 H.2.2.2, .slice a1 n1 c1] 61) = wa at hA hT8 hR8 hG09 hL1 ⊢
  generalize w9.heap.size = p1 at hA ⊢
  go_wp2_with (first | (refine wpList_load_row rfl 31 _ rfl g rfl 31 #[.int .i64 x, .int .i64 y] (0, 0) _ hT8 Tryd.underlying31 rfl (wi_info _ _) ?_) | (refine wpList_load_row rfl 57 _ rfl q rfl 57 #[.int .i64 r.1, .string r.2.1, .int .i64 r.2.2.1, .int .i64 r.2.2.2] (0, 0) _ hR8 Tryd.underlying57 rfl (rg_info r) ?_))
  refine (HS2.out _).mono ?_; rintro e wb ⟨H2, a2, n2, c2, rfl, hH2, -, hL2, hGb⟩
  obtain rfl : H2 = H := hH2.trans HH.out.symm
  have hA := hA.quiet hGb
  have hL1 := hL1.quiet hGb
  have hG0b := hG09.trans hGb
  clear hG09 hGb hH2 HH hT8 hR8 HS1 HS2
  have hB := Bk.new wb 61 #[.string H2.1, .string H2.2.1, .int .i64 H2.2.2.1, .int .i64 H2.2.2.2, .slice a2 n2 c2]
  have hA := hA.alloc (.cells #[.string H2.1, .string H2.2.1, .int .i64 H2.2.2.1, .int .i64 H2.2.2.2, .slice a2 n2 c2] 61)
  have hG0b := hG0b.alloc (.cells #[.string H2.1, .string H2.2.1, .int .i64 H2.2.2.1, .int .i64 H2.2.2.2, .slice a2 n2 c2] 61)
  have hL1 := hL1.quiet ((G.refl wb none).alloc (.cells #[.string H2.1, .string H2.2.1, .int .i64 H2.2.2.1, .int .i64 H2.2.2.2, .slice a2 n2 c2] 61))
  have hL2 := hL2.quiet ((G.refl wb none).alloc (.cells #[.string H2.1, .string H2.2.1, .int .i64 H2.2.2.1, .int .i64 H2.2.2.2, .slice a2 n2 c2] 61))
  go_upto_region 6 with fail
  generalize wb.alloc (.cells #[.string H2.1, .string H2.2.1, .int .i64 H2.2.2.1, .int .i64 H2.2.2.2, .slice a2 n2 c2] 61) = wc at hA hB hG0b hL1 hL2 ⊢
  generalize wb.heap.size = p2 at hB ⊢
  have x0 : wc.cell? ⟨p1, 0, none⟩ = some (.string H2.1) := hA.cell 0
  have x1 : wc.cell? ⟨p1, 1, none⟩ = some (.string H2.2.1) := hA.cell 1
  have x2 : wc.cell? ⟨p1, 2, none⟩ = some (.int .i64 H2.2.2.1) := hA.cell 2
  have x3 : wc.cell? ⟨p1, 3, none⟩ = some (.int .i64 H2.2.2.2) := hA.cell 3
  have x4 : wc.cell? ⟨p1, 4, none⟩ = some (.slice a1 n1 c1) := hA.cell 4
  have y0 : wc.cell? ⟨p2, 0, none⟩ = some (.string H2.1) := hB.cell 0
  have y1 : wc.cell? ⟨p2, 1, none⟩ = some (.string H2.2.1) := hB.cell 1
  have y2 : wc.cell? ⟨p2, 2, none⟩ = some (.int .i64 H2.2.2.1) := hB.cell 2
  have y3 : wc.cell? ⟨p2, 3, none⟩ = some (.int .i64 H2.2.2.2) := hB.cell 3
  have y4 : wc.cell? ⟨p2, 4, none⟩ = some (.slice a2 n2 c2) := hB.cell 4
  go_wp2_with fail
  refine (sameHire_c H2 (.slice a1 n1 c1) (.slice a2 n2 c2) _ _ hL1 hL2 (by unfold hiL; split <;> simp)).mono ?_; rintro e wd ⟨rfl, hGd⟩
  go_wp2_with fail
  refine (hired_c _).mono ?_; rintro e we ⟨rfl, hGe⟩
  go_wp2_with fail
  go_ret
  exact ⟨rfl, (hG0b.trans hGd).trans hGe⟩
end Go.Proofs.YtbieiefbgcgogaaDoor
