/- The law HoursAdd. -/
import Derived.Test.YtbieiefbgcgogaaHrm
import Derived.Test.YtbieiefbgcgogaaRdy
import Derived.Test.YtbieiefbgcgogaaGenS
namespace Go.Proofs.Ytbieiefbgcgogaa
open Go.RowKit

theorem minE_st {r : ByteArray} {h : Nat → Int} {a b : Int} (h0 : 0 ≤ a) (h1 : a ≤ b) (h2 : b ≤ 5761440) : minE r h a b = stErr [(r, h)] := by
  unfold minE
  split
  · rename_i hs
    rw [hs, winE, if_pos (by simp [winB, h0, h1, h2])]
  · rfl
theorem minR_st {r : ByteArray} {h : Nat → Int} {a b : Nat} (h1 : a ≤ b) (h2 : b ≤ 5761440) (hs : stErr [(r, h)] = 0) : minR r h a b = openIn h a b := by
  have := minE_st (r := r) (h := h) (a := a) (b := b) (by omega) (by omega) (by omega)
  rw [minR, this, if_pos hs]
  rfl
theorem atE_st {r : ByteArray} {h : Nat → Int} {t : Int} (h0 : 0 ≤ t) (h1 : t < 5761440) : atE r h t = stErr [(r, h)] := by
  unfold atE
  split
  · rename_i hs
    rw [hs, momE, if_pos (by simp [momB, h0, h1])]
  · rfl
/-- What the law wants of the hours, once for all. -/
structure HaOk (r : ByteArray) (h : Nat → Int) (t z m : Nat) : Prop where
  e1 : minE r h t z = stErr [(r, h)]
  e2 : minE r h t m = stErr [(r, h)]
  e3 : minE r h m z = stErr [(r, h)]
theorem haOk (r : ByteArray) (h : Nat → Int) (t z m : Nat) (h1 : t ≤ m) (h2 : m ≤ z) (h3 : z ≤ 5761440) : HaOk r h t z m :=
  ⟨minE_st (by omega) (by omega) (by omega), minE_st (by omega) (by omega) (by omega), minE_st (by omega) (by omega) (by omega)⟩
/-- What stands throughout: the station, the window. -/
def HaI (W : World) (g k : Nat) (r : ByteArray) (h : Nat → Int) (t z : Int) (w : World) : Prop := Bk w g 30 (stC r h) ∧ Bk w k 27 #[.int .i64 t, .int .i64 z] ∧ G W w none
theorem HaI.quiet {W w w' : World} {g k : Nat} {r : ByteArray} {h : Nat → Int} {t z : Int} (hI : HaI W g k r h t z w) (hG : G w w' none) : HaI W g k r h t z w' := ⟨hI.1.quiet hG, hI.2.1.quiet hG, hI.2.2.trans hG⟩
set_option maxRecDepth 100000 in
set_option maxHeartbeats 8000000 in
theorem hoursAdd_c (a : Option Addr) (n c : Nat) (zs : List Int) (W : World) (hr : Rd W 1 (.slice a n c) n (zs.map (Value.int .i64))) (hz : ∀ z ∈ zs, -9223372036854775808 ≤ z ∧ z ≤ 9223372036854775807) :
    Calls Try.prog 3 #[.slice a n c] W fun e W' => e = .returned (.bool true) ∧ G W W' none := by
  have hSB : SB (W.alloc (.cells #[.slice a n c, .int .i64 0] 25)) W.heap.size 0 := by
    have hB := Bk.new W 25 #[.slice a n c, .int .i64 0]
    refine ⟨0, a, n, c, zs, Nat.le_refl _, hr.quiet ((G.refl _ _).alloc _), fun b e => ?_, hz, hB.cell 0, hB.cell 1, hB.free 1, hB.lt⟩
    obtain ⟨a', c', e', r1, r2, r3, r4, r5⟩ := hr
    cases e'
    exact (r5 b e).2.1
  have hG0 : G W (W.alloc (.cells #[.slice a n c, .int .i64 0] 25)) (some W.heap.size) := (G.refl _ _).alloc _
  clear hr hz
  go_enter Try.func3, Try.ntmps3
  go_wp2_with fail
  refine (station_c _ W.heap.size 0 hSB (by omega)).mono ?_; rintro e w1 ⟨r, h, rfl, hrk, hb, hSB1, hG1⟩
  have hr1 : r.size ≤ 9223372036854775807 := by
    have h10 : r.size ≤ 10 := by
      unfold StationKeys at hrk
      simp only [List.mem_cons, List.mem_nil_iff, or_false] at hrk
      rcases hrk with rfl | rfl | rfl | rfl | rfl | rfl <;> decide
    omega
  have HRK := Lib.hid hr1
  have HHB := Lib.hid hb
  have hG01 := hG0.trans hG1
  clear hSB hG0 hG1 hrk hr1 hb
  have hS2 := Bk.new w1 30 (stC r h)
  have hSB2 := hSB1.alloc (.cells (stC r h) 30)
  have hG02 := hG01.alloc (.cells (stC r h) 30)
  have hs1 := hSB1.lt
  rw [show stC r h = #[.string r, .int .i64 (h 0), .int .i64 (h 1), .int .i64 (h 2), .int .i64 (h 3), .int .i64 (h 4), .int .i64 (h 5), .int .i64 (h 6), .int .i64 (h 7), .int .i64 (h 8), .int .i64 (h 9), .int .i64 (h 10), .int .i64 (h 11), .int .i64 (h 12), .int .i64 (h 13)] from rfl]
  clear hSB1 hG01
  go_wp2_with fail
  refine (range_c 0 30000 _ _ _ hSB2 (by omega) (by omega) (by omega) (by omega)).mono ?_; rintro e w3 ⟨t, rfl, t0, t1, hSB3, hG3⟩
  have hS3 := hS2.grown hG3 (fun e => by have := Option.some.inj e; omega)
  have hG03 := hG02.trans hG3
  have hl3 := hS3.lt
  clear hS2 hG02 hG3 hSB2
  obtain ⟨t, rfl⟩ := Int.eq_ofNat_of_zero_le t0
  generalize w1.heap.size = g at hS3 hs1 hl3 ⊢
  go_wp2_with fail
  refine (range_c 0 20000 _ _ _ hSB3 (by omega) (by omega) (by omega) (by omega)).mono ?_; rintro e w4 ⟨d, rfl, d0, d1, hSB4, hG4⟩
  have hS4 := hS3.grown hG4 (fun e => by have := Option.some.inj e; omega)
  have hG04 := hG03.trans hG4
  clear hS3 hG03 hG4 hSB3
  obtain ⟨d, rfl⟩ := Int.eq_ofNat_of_zero_le d0
  obtain ⟨z, hz⟩ : ∃ z : Nat, t + d = z := ⟨_, rfl⟩
  have hzi : (t : Int) + (d : Int) = (z : Int) := by omega
  have htz : t ≤ z := by omega
  have hzb : z ≤ 50000 := by omega
  have htb : t ≤ 30000 := by omega
  clear t0 t1 d0 d1 hz
  have hSB5 := hSB4.alloc (.cells #[.int .i64 t, .int .i64 z] 27)
  have hS5 := hS4.alloc (.cells #[.int .i64 t, .int .i64 z] 27)
  have hW5 := Bk.new w4 27 #[.int .i64 t, .int .i64 z]
  have hG05 := hG04.alloc (.cells #[.int .i64 t, .int .i64 z] 27)
  have hl4 := hS4.lt
  clear hSB4 hS4 hG04
  go_upto_region 5 with fail
  generalize w4.alloc (.cells #[.int .i64 t, .int .i64 z] 27) = w5 at hSB5 hS5 hW5 hG05 ⊢
  generalize w4.heap.size = k at hW5 hl4 ⊢
  clear hzi
  have c0 : w5.cell? ⟨k, 0, none⟩ = some (.int .i64 t) := hW5.cell 0
  have c1 : w5.cell? ⟨k, 1, none⟩ = some (.int .i64 z) := hW5.cell 1
  go_wp2_with fail
  refine (range_c t z _ _ _ hSB5 (by omega) (by omega) (by omega) (by omega)).mono ?_; rintro e w6 ⟨m, rfl, m0, m1, hSB6, hG6⟩
  have hI : HaI W g k r h t z w6 := ⟨hS5.grown hG6 (fun e => by have := Option.some.inj e; omega), hW5.grown hG6 (fun e => by have := Option.some.inj e; omega), G.own (hG05.trans hG6) (Nat.le_refl _)⟩
  clear hS5 hW5 hG05 hG6 hSB6 hSB5 c0 c1
  obtain ⟨m, rfl⟩ := Int.eq_ofNat_of_zero_le (show 0 ≤ m by omega)
  have htm : t ≤ m := by omega
  have hmz : m ≤ z := by omega
  clear m0 m1
  have hok := haOk r h t z m htm hmz (by omega)
  have HM : Hid (∀ w : World, (Calls Try.prog 6 #[.agg #[.string r, .int .i64 (h 0), .int .i64 (h 1), .int .i64 (h 2), .int .i64 (h 3), .int .i64 (h 4), .int .i64 (h 5), .int .i64 (h 6), .int .i64 (h 7), .int .i64 (h 8), .int .i64 (h 9), .int .i64 (h 10), .int .i64 (h 11), .int .i64 (h 12), .int .i64 (h 13)], .agg #[.int .i64 t, .int .i64 z]] w fun e w' => e = .returned (.tuple #[.int .i64 (minR r h t z), .int .i64 (stErr [(r, h)])]) ∧ G w w' none) ∧ (Calls Try.prog 6 #[.agg #[.string r, .int .i64 (h 0), .int .i64 (h 1), .int .i64 (h 2), .int .i64 (h 3), .int .i64 (h 4), .int .i64 (h 5), .int .i64 (h 6), .int .i64 (h 7), .int .i64 (h 8), .int .i64 (h 9), .int .i64 (h 10), .int .i64 (h 11), .int .i64 (h 12), .int .i64 (h 13)], .agg #[.int .i64 t, .int .i64 m]] w fun e w' => e = .returned (.tuple #[.int .i64 (minR r h t m), .int .i64 (stErr [(r, h)])]) ∧ G w w' none) ∧ (Calls Try.prog 6 #[.agg #[.string r, .int .i64 (h 0), .int .i64 (h 1), .int .i64 (h 2), .int .i64 (h 3), .int .i64 (h 4), .int .i64 (h 5), .int .i64 (h 6), .int .i64 (h 7), .int .i64 (h 8), .int .i64 (h 9), .int .i64 (h 10), .int .i64 (h 11), .int .i64 (h 12), .int .i64 (h 13)], .agg #[.int .i64 m, .int .i64 z]] w fun e w' => e = .returned (.tuple #[.int .i64 (minR r h m z), .int .i64 (stErr [(r, h)])]) ∧ G w w' none)) := Lib.hid fun w => by
    have q1 := openMinutes_c r h t z w HRK.out HHB.out
    have q2 := openMinutes_c r h t m w HRK.out HHB.out
    have q3 := openMinutes_c r h m z w HRK.out HHB.out
    rw [hok.e1] at q1
    rw [hok.e2] at q2
    rw [hok.e3] at q3
    exact ⟨q1, q2, q3⟩
  have HSUM : Hid (stErr [(r, h)] = 0 → minR r h t z = minR r h t m + minR r h m z ∧ 0 ≤ minR r h t m ∧ minR r h t m ≤ 100000000000 ∧ 0 ≤ minR r h m z ∧ minR r h m z ≤ 100000000000) := Lib.hid fun hs => by
    rw [minR_st htz (by omega) hs, minR_st htm (by omega) hs, minR_st hmz (by omega) hs]
    have b1 := accD_le h t m (t / 1440) (nD t m) htm (by omega) (by have := nD_le (a := t) (b := m) (by omega); omega)
    have b2 := accD_le h m z (m / 1440) (nD m z) hmz (by omega) (by have := nD_le (a := m) (b := z) (by omega); omega)
    exact ⟨openIn_add (okHrs_of hs) t m z htm hmz, b1.1, b1.2, b2.1, b2.2⟩
  clear hok
  obtain ⟨E, hE⟩ : ∃ E, stErr [(r, h)] = E := ⟨_, rfl⟩
  rw [hE] at HM HSUM
  have HE := Lib.hid hE
  clear hE
  obtain ⟨A, hA⟩ : ∃ A, minR r h t z = A := ⟨_, rfl⟩
  obtain ⟨B, hB⟩ : ∃ B, minR r h t m = B := ⟨_, rfl⟩
  obtain ⟨C, hC⟩ : ∃ C, minR r h m z = C := ⟨_, rfl⟩
  rw [hA, hB, hC] at HM HSUM
  clear hA hB hC
  go_wp2_with (first | (refine wpList_load_row rfl 30 _ rfl g rfl 30 #[.string r, .int .i64 (h 0), .int .i64 (h 1), .int .i64 (h 2), .int .i64 (h 3), .int .i64 (h 4), .int .i64 (h 5), .int .i64 (h 6), .int .i64 (h 7), .int .i64 (h 8), .int .i64 (h 9), .int .i64 (h 10), .int .i64 (h 11), .int .i64 (h 12), .int .i64 (h 13)] (0, 0) _ hI.1 Try.underlying30 rfl (st_info r h) ?_) | (refine wpList_load_row rfl 27 _ rfl k rfl 27 #[.int .i64 t, .int .i64 z] (0, 0) _ hI.2.1 Try.underlying27 rfl (wi_info _ _) ?_))
  refine (HM.out _).1.mono ?_; rintro e w7 ⟨rfl, hG7⟩
  have hI := hI.quiet hG7
  clear hG7
  have c0 : w7.cell? ⟨k, 0, none⟩ = some (.int .i64 t) := hI.2.1.cell 0
  go_wp2_with (refine wpList_load_row rfl 30 _ rfl g rfl 30 #[.string r, .int .i64 (h 0), .int .i64 (h 1), .int .i64 (h 2), .int .i64 (h 3), .int .i64 (h 4), .int .i64 (h 5), .int .i64 (h 6), .int .i64 (h 7), .int .i64 (h 8), .int .i64 (h 9), .int .i64 (h 10), .int .i64 (h 11), .int .i64 (h 12), .int .i64 (h 13)] (0, 0) _ hI.1 Try.underlying30 rfl (st_info r h) ?_)
  refine (HM.out _).2.1.mono ?_; rintro e w8 ⟨rfl, hG8⟩
  have hI := hI.quiet hG8
  clear hG8 c0
  have c1 : w8.cell? ⟨k, 1, none⟩ = some (.int .i64 z) := hI.2.1.cell 1
  go_wp2_with (refine wpList_load_row rfl 30 _ rfl g rfl 30 #[.string r, .int .i64 (h 0), .int .i64 (h 1), .int .i64 (h 2), .int .i64 (h 3), .int .i64 (h 4), .int .i64 (h 5), .int .i64 (h 6), .int .i64 (h 7), .int .i64 (h 8), .int .i64 (h 9), .int .i64 (h 10), .int .i64 (h 11), .int .i64 (h 12), .int .i64 (h 13)] (0, 0) _ hI.1 Try.underlying30 rfl (st_info r h) ?_)
  refine (HM.out _).2.2.mono ?_; rintro e w9 ⟨rfl, hG9⟩
  have hI := hI.quiet hG9
  clear hG9 c1
  by_cases hE0 : E = 0
  · subst hE0
    obtain ⟨s1, s2, s3, s4, s5⟩ := HSUM.out rfl
    subst s1
    have hw : IntKind.i64.wrap (B + C) = B + C := by rw [IntKind.wrap_i64]; omega
    have hat : atE r h t = 0 := by rw [atE_st (by omega) (by omega)]; exact HE.out
    clear HM HSUM s2 s3 s4 s5
    have hcal : ∀ w : World, Calls Try.prog 8 #[.agg #[.string r, .int .i64 (h 0), .int .i64 (h 1), .int .i64 (h 2), .int .i64 (h 3), .int .i64 (h 4), .int .i64 (h 5), .int .i64 (h 6), .int .i64 (h 7), .int .i64 (h 8), .int .i64 (h 9), .int .i64 (h 10), .int .i64 (h 11), .int .i64 (h 12), .int .i64 (h 13)], .int .i64 t] w fun e w' => e = .returned (.tuple #[.int .i64 (match nextO h t with | some n => n | none => 0), .int .i64 (match nextO h t with | some _ => 0 | none => 8)]) ∧ G w w' none := fun w => by
      have q := nextOpen_c r h t w HRK.out HHB.out
      have e1 : nextR r h t = (match nextO h t with | some n => (n, 0) | none => (0, 8)) := by rw [nextR, if_pos hat]; rfl
      rw [e1] at q
      cases hno : nextO h t with
      | none => rw [hno] at q; exact q
      | some n => rw [hno] at q; exact q
    have HCA := Lib.hid hcal
    clear hcal
    cases hno : nextO h t with
    | none =>
      rw [hno] at HCA
      clear hno hat
      dsimp only at HCA
      go_wp2_with (refine wpList_load_row rfl 30 _ rfl g rfl 30 #[.string r, .int .i64 (h 0), .int .i64 (h 1), .int .i64 (h 2), .int .i64 (h 3), .int .i64 (h 4), .int .i64 (h 5), .int .i64 (h 6), .int .i64 (h 7), .int .i64 (h 8), .int .i64 (h 9), .int .i64 (h 10), .int .i64 (h 11), .int .i64 (h 12), .int .i64 (h 13)] (0, 0) _ hI.1 Try.underlying30 rfl (st_info r h) ?_)
      refine (HCA.out _).mono ?_; rintro e wa ⟨rfl, hGa⟩
      have hI := hI.quiet hGa
      clear hGa
      go_wp2_with fail
      refine (ready_c _).mono ?_; rintro e wz ⟨rfl, hGz⟩
      go_wp2_with fail
      go_ret
      exact ⟨rfl, hI.2.2.trans hGz⟩
    | some n =>
      rw [hno] at HCA
      dsimp only at HCA
      obtain ⟨n0, n1, n2, n3⟩ := nextO_open (okHrs_of HE.out) (show t < 5761440 by omega) hno
      clear hno hat
      have hat2 : atE r h n = 0 := by rw [atE_st (by omega) n1]; exact HE.out
      have HOP : Hid (∀ w : World, Calls Try.prog 9 #[.agg #[.string r, .int .i64 (h 0), .int .i64 (h 1), .int .i64 (h 2), .int .i64 (h 3), .int .i64 (h 4), .int .i64 (h 5), .int .i64 (h 6), .int .i64 (h 7), .int .i64 (h 8), .int .i64 (h 9), .int .i64 (h 10), .int .i64 (h 11), .int .i64 (h 12), .int .i64 (h 13)], .int .i64 n] w fun e w' => e = .returned (.tuple #[.bool true, .int .i64 0]) ∧ G w w' none) := Lib.hid fun w => by
        have q := isOpen_c r h n w HRK.out HHB.out
        rw [isOpenR, if_pos hat2, n2, hat2] at q
        exact q
      have HMN : Hid (∀ w : World, Calls Try.prog 6 #[.agg #[.string r, .int .i64 (h 0), .int .i64 (h 1), .int .i64 (h 2), .int .i64 (h 3), .int .i64 (h 4), .int .i64 (h 5), .int .i64 (h 6), .int .i64 (h 7), .int .i64 (h 8), .int .i64 (h 9), .int .i64 (h 10), .int .i64 (h 11), .int .i64 (h 12), .int .i64 (h 13)], .agg #[.int .i64 t, .int .i64 n]] w fun e w' => e = .returned (.tuple #[.int .i64 0, .int .i64 0]) ∧ G w w' none) := Lib.hid fun w => by
        obtain ⟨n, rfl⟩ := Int.eq_ofNat_of_zero_le (show 0 ≤ n by omega)
        have q := openMinutes_c r h t n w HRK.out HHB.out
        rw [minR_st (by omega) (by omega) HE.out, minE_st (by omega) (by omega) (by omega), HE.out] at q
        rw [show openIn h t n = 0 from n3] at q
        exact q
      clear n2 n3 hat2
      go_wp2_with (refine wpList_load_row rfl 30 _ rfl g rfl 30 #[.string r, .int .i64 (h 0), .int .i64 (h 1), .int .i64 (h 2), .int .i64 (h 3), .int .i64 (h 4), .int .i64 (h 5), .int .i64 (h 6), .int .i64 (h 7), .int .i64 (h 8), .int .i64 (h 9), .int .i64 (h 10), .int .i64 (h 11), .int .i64 (h 12), .int .i64 (h 13)] (0, 0) _ hI.1 Try.underlying30 rfl (st_info r h) ?_)
      refine (HCA.out _).mono ?_; rintro e wa ⟨rfl, hGa⟩
      have hI := hI.quiet hGa
      clear hGa
      go_wp2_with (refine wpList_load_row rfl 30 _ rfl g rfl 30 #[.string r, .int .i64 (h 0), .int .i64 (h 1), .int .i64 (h 2), .int .i64 (h 3), .int .i64 (h 4), .int .i64 (h 5), .int .i64 (h 6), .int .i64 (h 7), .int .i64 (h 8), .int .i64 (h 9), .int .i64 (h 10), .int .i64 (h 11), .int .i64 (h 12), .int .i64 (h 13)] (0, 0) _ hI.1 Try.underlying30 rfl (st_info r h) ?_)
      refine (HOP.out _).mono ?_; rintro e wb ⟨rfl, hGb⟩
      have hI := hI.quiet hGb
      clear hGb
      go_wp2_with (refine wpList_load_row rfl 30 _ rfl g rfl 30 #[.string r, .int .i64 (h 0), .int .i64 (h 1), .int .i64 (h 2), .int .i64 (h 3), .int .i64 (h 4), .int .i64 (h 5), .int .i64 (h 6), .int .i64 (h 7), .int .i64 (h 8), .int .i64 (h 9), .int .i64 (h 10), .int .i64 (h 11), .int .i64 (h 12), .int .i64 (h 13)] (0, 0) _ hI.1 Try.underlying30 rfl (st_info r h) ?_)
      refine (HMN.out _).mono ?_; rintro e wc ⟨rfl, hGc⟩
      have hI := hI.quiet hGc
      clear hGc
      go_wp2_with fail
      refine (ready_c _).mono ?_; rintro e wz ⟨rfl, hGz⟩
      go_wp2_with fail
      go_ret
      exact ⟨rfl, hI.2.2.trans hGz⟩
  · have hE1 : (E != 0) = true := by simpa using hE0
    clear hE0 HM HSUM
    go_wp2_with fail
    refine (ready_c _).mono ?_; rintro e wb ⟨rfl, hGb⟩
    go_wp2_with fail
    go_ret
    exact ⟨rfl, hI.2.2.trans hGb⟩
end Go.Proofs.Ytbieiefbgcgogaa
