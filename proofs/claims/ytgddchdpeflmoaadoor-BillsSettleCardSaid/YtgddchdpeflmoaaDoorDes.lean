/- Deals: Settle. -/
import Derived.Test.YtgddchdpeflmoaaDoorDea
import Derived.Test.YtgddchdpeflmoaaDoorLin
namespace Go.Proofs.YtgddchdpeflmoaaDoor
open Go.RowKit

def seE (x : De) (l : List Li) (p : Int) : Int := if deE x = 1 then 1 else if liE l ≠ 0 then liE l else if inB p 0 1000000000 = false then 1 else 0
/-- What is left. -/
def seL (x : De) (l : List Li) (p : Int) : Int := if seE x l p = 0 then p + x.dep - liS l else 0
set_option maxRecDepth 100000 in
set_option maxHeartbeats 4000000 in
theorem settle_c (x : De) (v : Value) (l : List Li) (p : Int) (w : World) (hr : RdR w 3 liC v l) (hl : LiOk l) (hn : l.length ≤ 2000) :
    Calls Tryd.prog 10 #[.agg (deC x), v, .int .i64 p] w fun e w' => e = .returned (.tuple #[.int .i64 (max 0 (seL x l p)), .int .i64 (max 0 (-(seL x l p))), .int .i64 (seE x l p)]) ∧ G w w' none := by
  have hE := Lib.hid (show seE x l p = if deE x = 1 then 1 else if liE l ≠ 0 then liE l else if inB p 0 1000000000 = false then 1 else 0 from rfl)
  have hL := Lib.hid (show seL x l p = if seE x l p = 0 then p + x.dep - liS l else 0 from rfl)
  have hC := Lib.hid (fun w => checkDeal_c x w)
  obtain ⟨d, hd⟩ : ∃ d, deE x = d := ⟨_, rfl⟩
  have hd01 := deE_or x
  have hok := Lib.hid (fun h => deE_ok (x := x) h)
  obtain ⟨a0, a1, a2, a3, a4, a5, a6⟩ := x
  have hI := de_info ⟨a0, a1, a2, a3, a4, a5, a6⟩
  have HB := (Bk.new w 27 (deC ⟨a0, a1, a2, a3, a4, a5, a6⟩))
  have hG := (G.refl w none).alloc (.cells (deC ⟨a0, a1, a2, a3, a4, a5, a6⟩) 27)
  rw [hd] at hE hd01
  have hC : Hid (∀ w, Calls Tryd.prog 8 #[.agg (deC ⟨a0, a1, a2, a3, a4, a5, a6⟩)] w fun e w' => e = .returned (.int .i64 d) ∧ G w w' none) := Lib.hid fun w => hd ▸ hC.out w
  have hok := Lib.hid fun h : d = 0 => hok.out (hd.trans h)
  clear hd
  rw [show deC ⟨a0, a1, a2, a3, a4, a5, a6⟩ = #[.int .i64 a0, .int .i64 a1, .int .i64 a2, .int .i64 a3, .int .i64 a4, .int .i64 a5, .int .i64 a6] from rfl] at *
  generalize seE ⟨a0, a1, a2, a3, a4, a5, a6⟩ l p = E at hE hL ⊢
  generalize seL ⟨a0, a1, a2, a3, a4, a5, a6⟩ l p = L at hL ⊢
  go_enter Tryd.func10, Tryd.ntmps10
  go_wp2_with (refine wpList_load_row rfl 27 _ rfl w.heap.size rfl 27 #[.int .i64 a0, .int .i64 a1, .int .i64 a2, .int .i64 a3, .int .i64 a4, .int .i64 a5, .int .i64 a6] (0, 0) _ HB Tryd.underlying27 rfl hI ?_)
  refine (hC.out _).mono ?_; rintro e w1 ⟨rfl, hG1⟩
  have hB1 := HB.quiet hG1
  have hG01 := hG.trans hG1
  clear hG hG1 HB hC
  rcases hd01 with rfl | rfl
  · have hok := hok.out rfl
    go_wp2_with fail
    refine (total_c v l _ (hr.quiet hG01) hl hn).mono ?_; rintro e w2 ⟨rfl, hG2⟩
    have hB2 := hB1.quiet hG2
    have hG02 := hG01.trans hG2
    clear hG01 hG2 hB1
    by_cases h : liE l = 0
    · have hS : toN l = liS l := if_pos h
      obtain ⟨hb, hlen⟩ := liE_ok h
      have hbn := liS_bnd l hb l.length (Nat.le_refl _)
      rw [List.take_length] at hbn
      rw [h] at hE ⊢
      rw [hS]
      generalize liS l = S at hL hbn ⊢
      clear h hS hb hr hl
      go_wp2_with fail
      refine (within_c _ _ _ _).mono ?_; rintro e w' ⟨rfl, rfl⟩
      cases hp : inB p 0 1000000000 with
      | false =>
        have HE : Hid (E = 1) := Lib.hid (by rw [hE.out]; simp [hp])
        have HL : Hid (L = 0) := Lib.hid (by rw [hL.out, HE.out]; rfl)
        clear hE hL
        go_wp2_with fail
        go_ret3
        exact ⟨by rw [HE.out, HL.out]; rfl, hG02⟩
      | true =>
        have HE : Hid (E = 0) := Lib.hid (by rw [hE.out]; simp [hp])
        have HL : Hid (L = p + a6 - S) := Lib.hid (by rw [hL.out, HE.out, if_pos rfl])
        have hpb : 0 ≤ p ∧ p ≤ 1000000000 := by simpa [inB] using hp
        have hw1 : IntKind.i64.wrap (p + a6) = p + a6 := by rw [IntKind.wrap_i64]; omega
        have hw2 : IntKind.i64.wrap (p + a6 - S) = p + a6 - S := by rw [IntKind.wrap_i64]; omega
        have hw3 : IntKind.i64.wrap (-(p + a6 - S)) = -(p + a6 - S) := by rw [IntKind.wrap_i64]; omega
        have c6 : w2.cell? ⟨w.heap.size, 6, none⟩ = some (.int .i64 a6) := hB2.cell 6
        clear hE hL
        go_wp2_with fail
        go_ret3
        exact ⟨by rw [HE.out, HL.out]; rfl, hG02⟩
    · have HE : Hid (E = liE l) := Lib.hid (by rw [hE.out]; simp [h])
      have HL : Hid (L = 0) := Lib.hid (by rw [hL.out, HE.out, if_neg h])
      have h' : (liE l != 0) = true := by simpa using h
      clear hE hL h
      go_wp2_with fail
      go_ret3
      exact ⟨by rw [HE.out, HL.out]; rfl, hG02⟩
  · have HE : Hid (E = 1) := Lib.hid (by rw [hE.out]; rfl)
    have HL : Hid (L = 0) := Lib.hid (by rw [hL.out, HE.out]; rfl)
    clear hE hL
    go_wp2_with fail
    go_ret3
    exact ⟨by rw [HE.out, HL.out]; rfl, hG01⟩
end Go.Proofs.YtgddchdpeflmoaaDoor
