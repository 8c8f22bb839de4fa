/- The law BillsSettle. -/
import Derived.Test.YtgddchdpeflmoaaDoorDes
import Derived.Test.YtgddchdpeflmoaaDoorRdl
import Derived.Test.YtgddchdpeflmoaaDoorGenO
import Derived.Test.YtgddchdpeflmoaaDoorRdy
namespace Go.Proofs.YtgddchdpeflmoaaDoor
open Go.RowKit

set_option maxRecDepth 100000 in
set_option maxHeartbeats 8000000 in
theorem billsSettle_c (a : Option Addr) (n c : Nat) (zs : List Int) (W : World) (hr : Rd W 1 (.slice a n c) n (zs.map (Value.int .i64))) (hz : ∀ z ∈ zs, -9223372036854775808 ≤ z ∧ z ≤ 9223372036854775807) :
    Calls Tryd.prog 3 #[.slice a n c] W fun e W' => e = .returned (.bool true) ∧ G W W' none := by
  have hSB : SB (W.alloc (.cells #[.slice a n c, .int .i64 0] 25)) W.heap.size 0 := by
    have hB := Bk.new W 25 #[.slice a n c, .int .i64 0]
    refine ⟨0, a, n, c, zs, Nat.le_refl _, hr.quiet ((G.refl _ _).alloc _), fun b e => ?_, hz, hB.cell 0, hB.cell 1, hB.free 1, hB.lt⟩
    obtain ⟨a', c', e', r1, r2, r3, r4, r5⟩ := hr
    cases e'
    exact (r5 b e).2.1
  have hG0 : G W (W.alloc (.cells #[.slice a n c, .int .i64 0] 25)) (some W.heap.size) := (G.refl _ _).alloc _
  clear hr hz
  go_enter Tryd.func3, Tryd.ntmps3
  go_wp2_with fail
  refine (rightDeal_c _ W.heap.size 0 hSB (by omega)).mono ?_; rintro e w1 ⟨x, rfl, hx, hSB1, hG1⟩
  have hC := Lib.hid (fun w => checkDeal_c x w)
  rw [hx] at hC
  have hSE := Lib.hid (fun v l p w => settle_c x v l p w)
  have hok := deE_ok hx
  have hse : Hid (∀ l p, liE l = 0 → inB p 0 1000000000 = true → seE x l p = 0 ∧ seL x l p = p + x.dep - liS l) := Lib.hid fun l p h1 h2 => by
    have h3 : seE x l p = 0 := by simp [seE, hx, h1, h2]
    exact ⟨h3, by simp [seL, h3]⟩
  clear hx
  obtain ⟨a0, a1, a2, a3, a4, a5, a6⟩ := x
  rw [show deC ⟨a0, a1, a2, a3, a4, a5, a6⟩ = #[.int .i64 a0, .int .i64 a1, .int .i64 a2, .int .i64 a3, .int .i64 a4, .int .i64 a5, .int .i64 a6] from rfl] at *
  have hdep : Hid (0 ≤ a6 ∧ a6 ≤ 1000000) := Lib.hid hok.2.2.2.2.2.2
  have hG01 := hG0.trans hG1
  clear hok hSB hG0 hG1
  go_wp2_with fail
  refine (billLines_c _ _ _ hSB1 (by omega)).mono ?_; rintro e w2 ⟨v, l, rfl, hown, hl, hn, hSB2, hG2⟩
  have hG02 := hG01.trans hG2
  have hs1 := hSB1.lt
  clear hSB1 hG01 hG2
  go_wp2_with fail
  refine (pick_c _ _ _ [0, 100, 99999] _ _ _ (hSB2.alloc _) (by omega) (by decide) (by decide) (Rd.newAt _ rfl rfl (by decide)) (hSB2.newAt _ _ _ (Nat.le_refl _))).mono ?_; rintro e w3 ⟨p, rfl, hp, hSB3, hG3⟩
  have hp0 : 0 ≤ p ∧ p ≤ 99999 := by simp only [List.mem_cons, List.mem_nil_iff, or_false] at hp; omega
  have HP : Hid (inB p 0 1000000000 = true) := Lib.hid (by simp [inB]; omega)
  have hG03 := (hG02.alloc (.cells _ 3)).trans hG3
  have hL4 := Rd.quiet (Rd.of_owns (OwnX.kept (OwnX.alloc hown (.cells _ 3)) hG3 hs1)) ((G.refl _ _).alloc (.cells #[.int .i64 a0, .int .i64 a1, .int .i64 a2, .int .i64 a3, .int .i64 a4, .int .i64 a5, .int .i64 a6] 27))
  have hN4 := Bk.new w3 27 #[.int .i64 a0, .int .i64 a1, .int .i64 a2, .int .i64 a3, .int .i64 a4, .int .i64 a5, .int .i64 a6]
  have hG04 := (hG03.alloc (.cells #[.int .i64 a0, .int .i64 a1, .int .i64 a2, .int .i64 a3, .int .i64 a4, .int .i64 a5, .int .i64 a6] 27)).own (Nat.le_refl _)
  clear hSB2 hSB3 hG02 hG03 hG3 hp hown
  go_wp2_with fail
  generalize w3.alloc (.cells #[.int .i64 a0, .int .i64 a1, .int .i64 a2, .int .i64 a3, .int .i64 a4, .int .i64 a5, .int .i64 a6] 27) = w4 at hL4 hN4 hG04 ⊢
  generalize w3.heap.size = g at hN4 ⊢
  refine (linesFault_c v l _ hL4 hl (by omega)).mono ?_; rintro e w5 ⟨rfl, hG5⟩
  have hL5 := Rd.quiet hL4 hG5
  have hN5 := hN4.quiet hG5
  have hG05 := hG04.trans hG5
  clear hL4 hN4 hG04 hG5
  by_cases h : liE l = 0
  · obtain ⟨q1, q2⟩ := hse.out l p h HP.out
    have hSEp : Hid (∀ w, Rd w 3 v l.length (rowL liC l) → Calls Tryd.prog 10 #[.agg #[.int .i64 a0, .int .i64 a1, .int .i64 a2, .int .i64 a3, .int .i64 a4, .int .i64 a5, .int .i64 a6], v, .int .i64 p] w fun e w' => e = .returned (.tuple #[.int .i64 (max 0 (p + a6 - liS l)), .int .i64 (max 0 (-(p + a6 - liS l))), .int .i64 0]) ∧ G w w' none) := Lib.hid fun w hw => by
      have := hSE.out v l p w hw hl (by omega)
      rw [q1, q2] at this
      exact this
    have hTOp : Hid (∀ w, Rd w 3 v l.length (rowL liC l) → Calls Tryd.prog 11 #[v] w fun e w' => e = .returned (.tuple #[.int .i64 (liS l), .int .i64 0]) ∧ G w w' none) := Lib.hid fun w hw => by
      have := total_c v l w hw hl (by omega)
      rw [toN, if_pos h, h] at this
      exact this
    obtain ⟨hb, hlen⟩ := liE_ok h
    have hbn := liS_bnd l hb l.length (Nat.le_refl _)
    rw [List.take_length] at hbn
    have hbn : -6000000000 ≤ liS l ∧ liS l ≤ 6000000000 := by omega
    rw [h]
    clear h q1 q2 hb hlen hSE hse hC hl
    generalize liS l = S at hSEp hTOp hbn ⊢
    have hdp := hdep.out
    go_wp2_with (refine wpList_load_row rfl 27 _ rfl g rfl 27 #[.int .i64 a0, .int .i64 a1, .int .i64 a2, .int .i64 a3, .int .i64 a4, .int .i64 a5, .int .i64 a6] (0, 0) _ hN5 Tryd.underlying27 rfl (de_info ⟨a0, a1, a2, a3, a4, a5, a6⟩) ?_)
    refine (hSEp.out _ hL5).mono ?_; rintro e w6 ⟨rfl, hG6⟩
    have hL6 := Rd.quiet hL5 hG6
    have hN6 := hN5.quiet hG6
    have hG06 := hG05.trans hG6
    clear hL5 hN5 hG05 hG6 hSEp
    go_wp2_with fail
    refine (hTOp.out _ hL6).mono ?_; rintro e w7 ⟨rfl, hG7⟩
    have hN7 := hN6.quiet hG7
    have hG07 := hG06.trans hG7
    clear hL6 hN6 hG06 hG7 hTOp
    have c6 : w7.cell? ⟨g, 6, none⟩ = some (.int .i64 a6) := hN7.cell 6
    have hw1 : IntKind.i64.wrap (p + a6) = p + a6 := by rw [IntKind.wrap_i64]; omega
    obtain ⟨B, hB⟩ : ∃ B, p + a6 - S = B := ⟨_, rfl⟩
    have hw2 : IntKind.i64.wrap (p + a6 - S) = B := by rw [IntKind.wrap_i64]; omega
    have hBb : -7000000000 ≤ B ∧ B ≤ 7000000000 := by omega
    rw [hB]
    clear hN7 hbn hdp hp0
    rcases (show B = 0 ∨ 0 < B ∨ B < 0 by omega) with h0 | h0 | h0
    · have HB := Lib.hid hB
      subst h0
      have e1 : max (0 : Int) 0 = 0 := rfl
      have e2 : -(0 : Int) = 0 := rfl
      rw [e2, e1]
      clear hB e1 e2
      go_wp2_with fail
      refine (ready_c _).mono ?_; rintro e w8 ⟨rfl, hG8⟩
      go_wp2_with fail
      go_ret
      exact ⟨rfl, hG07.trans hG8⟩
    · have e1 : max 0 B = B := by omega
      have e2 : max 0 (-B) = 0 := by omega
      rw [e1, e2]
      have hw3 : IntKind.i64.wrap (B - 0) = B := by rw [IntKind.wrap_i64]; omega
      have hn0 : (B == 0) = false := by simp; omega
      have hge : 0 ≤ B := by omega
      clear hB e1 e2
      go_wp2_with fail
      refine (ready_c _).mono ?_; rintro e w8 ⟨rfl, hG8⟩
      go_wp2_with fail
      go_ret
      exact ⟨rfl, hG07.trans hG8⟩
    · have e1 : max 0 B = 0 := by omega
      obtain ⟨C, hC⟩ : ∃ C, -B = C := ⟨_, rfl⟩
      have e2 : max 0 C = C := by omega
      rw [hC, e1, e2]
      have hw3 : IntKind.i64.wrap (-C) = B := by rw [IntKind.wrap_i64]; omega
      have hw4 : wrap64 (-C) = B := by unfold wrap64; omega
      have hge : 0 ≤ C := by omega
      have hn0 : (C == 0) = false := by simp; omega
      clear hB hC e1 e2
      go_wp2_with fail
      refine (ready_c _).mono ?_; rintro e w8 ⟨rfl, hG8⟩
      go_wp2_with fail
      go_ret
      exact ⟨rfl, hG07.trans hG8⟩
  · have h' : (liE l != 0) = true := by simpa using h
    clear h hSE hse hL5
    go_wp2_with (refine wpList_load_row rfl 27 _ rfl g rfl 27 #[.int .i64 a0, .int .i64 a1, .int .i64 a2, .int .i64 a3, .int .i64 a4, .int .i64 a5, .int .i64 a6] (0, 0) _ hN5 Tryd.underlying27 rfl (de_info ⟨a0, a1, a2, a3, a4, a5, a6⟩) ?_)
    refine (hC.out _).mono ?_; rintro e w6 ⟨rfl, hG6⟩
    go_wp2_with fail
    refine (ready_c _).mono ?_; rintro e w8 ⟨rfl, hG8⟩
    go_wp2_with fail
    go_ret
    exact ⟨rfl, (hG05.trans hG6).trans hG8⟩
end Go.Proofs.YtgddchdpeflmoaaDoor
