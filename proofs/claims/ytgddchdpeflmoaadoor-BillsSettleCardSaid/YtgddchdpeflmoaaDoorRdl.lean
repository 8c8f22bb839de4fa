/- Generator: RightDeal. -/
import Derived.Test.YtgddchdpeflmoaaDoorGenP
namespace Go.Proofs.YtgddchdpeflmoaaDoor
open Go.RowKit

def RdlPost (s K : Nat) (w : World) (e : Ending) (w' : World) : Prop :=
  ∃ x : De, e = .returned (.agg (deC x)) ∧ deE x = 0 ∧ SB w' s (K + 128) ∧ G w w' (some s)
theorem rdl_fin {w w3 : World} {s K : Nat} {x : De} (hs : s < w.heap.size) (hx : deE x = 0) (hSB : SB w3 s (K + 128)) (hG : G w w3 (some s)) :
    RdlPost s K w (.returned (.agg (deC x))) (w3.setRow w.heap.size (deC x)) :=
  ⟨x, rfl, hx, hSB.setRow hs _, hG.setRow (.inl (Nat.le_refl _)) _⟩
def RdlRel (w : World) (s K : Nat) (i : Value) (wr : World) : Prop :=
  ∃ k : Nat, k ≤ 8 ∧ i = .int .i64 k ∧ Bk wr w.heap.size 27 #[.int .i64 0, .int .i64 0, .int .i64 0, .int .i64 0, .int .i64 0, .int .i64 0, .int .i64 0] ∧ SB wr s (K + 16 * k) ∧ G w wr (some s)
set_option maxRecDepth 100000 in
set_option maxHeartbeats 4000000 in
theorem rightDeal_c (w : World) (s : Nat) (K : Nat) (hs : SB w s K) (hk : K ≤ 800000000000) :
    Calls Tryd.prog 4 #[.pointer (some ⟨s, 0, none⟩)] w (RdlPost s K w) := by
  have hslt := hs.lt
  go_enter Tryd.func4, Tryd.ntmps4
  go_wp2_with fail
  go_loopw [4] (RdlRel w s K) (fun i _ => 8 - (intOf i).toNat)
  case atStart => exact ⟨0, by omega, rfl, Bk.new w _ _, hs.alloc _, (G.refl _ _).alloc _⟩
  case round =>
    obtain ⟨k, hk8, rfl, hB, hSB, hG⟩ := hrel
    clear hs
    by_cases hk2 : k < 8
    · have HK := Lib.hid hk2
      go_wp2_with fail
      refine (deal_c _ s _ hSB (by omega)).mono ?_; rintro e w1 ⟨x, rfl, hSB1, hG1⟩
      have hC := Lib.hid (fun w => dealFault_c x w)
      obtain ⟨d, hd⟩ : ∃ d, deE x = d := ⟨_, rfl⟩
      have hd01 := deE_or x
      obtain ⟨a0, a1, a2, a3, a4, a5, a6⟩ := x
      rw [hd] at hd01
      have hC : Hid (∀ w, Calls Tryd.prog 13 #[.agg #[.int .i64 a0, .int .i64 a1, .int .i64 a2, .int .i64 a3, .int .i64 a4, .int .i64 a5, .int .i64 a6]] w fun e w' => e = .returned (.int .i64 d) ∧ G w w' none) := Lib.hid fun w => hd ▸ hC.out w
      have HD := Lib.hid hd
      have hB1 := hB.grown hG1 (fun e => by have := Option.some.inj e; omega)
      have hl1 := hB1.lt
      have hs1 := hSB1.lt
      have hG01 := hG.trans hG1
      have hN2 := Bk.new w1 27 #[.int .i64 a0, .int .i64 a1, .int .i64 a2, .int .i64 a3, .int .i64 a4, .int .i64 a5, .int .i64 a6]
      have hB2 := hB1.alloc (.cells #[.int .i64 a0, .int .i64 a1, .int .i64 a2, .int .i64 a3, .int .i64 a4, .int .i64 a5, .int .i64 a6] 27)
      have hSB2 := hSB1.alloc (.cells #[.int .i64 a0, .int .i64 a1, .int .i64 a2, .int .i64 a3, .int .i64 a4, .int .i64 a5, .int .i64 a6] 27)
      have hG02 := hG01.alloc (.cells #[.int .i64 a0, .int .i64 a1, .int .i64 a2, .int .i64 a3, .int .i64 a4, .int .i64 a5, .int .i64 a6] 27)
      rw [show deC ⟨a0, a1, a2, a3, a4, a5, a6⟩ = #[.int .i64 a0, .int .i64 a1, .int .i64 a2, .int .i64 a3, .int .i64 a4, .int .i64 a5, .int .i64 a6] from rfl]
      clear hB hSB hG hG1 hB1 hSB1 hG01 hd
      go_upto_region 4 with fail
      generalize w1.alloc (.cells #[.int .i64 a0, .int .i64 a1, .int .i64 a2, .int .i64 a3, .int .i64 a4, .int .i64 a5, .int .i64 a6] 27) = w2 at hN2 hB2 hSB2 hG02 ⊢
      generalize w1.heap.size = g at hN2 hl1 hs1 ⊢
      go_wp2_with (refine wpList_load_row rfl 27 _ rfl g rfl 27 #[.int .i64 a0, .int .i64 a1, .int .i64 a2, .int .i64 a3, .int .i64 a4, .int .i64 a5, .int .i64 a6] (0, 0) _ hN2 Tryd.underlying27 rfl (de_info ⟨a0, a1, a2, a3, a4, a5, a6⟩) ?_)
      refine (hC.out _).mono ?_; rintro e w3 ⟨rfl, hG3⟩
      have hN3 := hN2.quiet hG3
      have hB3 := hB2.quiet hG3
      have hSB3 := hSB2.quiet hG3
      have hG03 := hG02.trans0 hG3
      clear hN2 hB2 hSB2 hG02 hG3 hC
      rcases hd01 with rfl | rfl
      · go_wp2_with (first | (refine wpList_load_row rfl 27 _ rfl g rfl 27 #[.int .i64 a0, .int .i64 a1, .int .i64 a2, .int .i64 a3, .int .i64 a4, .int .i64 a5, .int .i64 a6] (0, 0) _ hN3 Tryd.underlying27 rfl (de_info ⟨a0, a1, a2, a3, a4, a5, a6⟩) ?_) | (refine wpList_store_row rfl 27 _ _ rfl w.heap.size #[.int .i64 a0, .int .i64 a1, .int .i64 a2, .int .i64 a3, .int .i64 a4, .int .i64 a5, .int .i64 a6] rfl rfl 27 _ hB3 (de_info ⟨a0, a1, a2, a3, a4, a5, a6⟩) rfl (de_one ⟨a0, a1, a2, a3, a4, a5, a6⟩) ?_))
        refine bodyPost_ret (results_cell_row rfl _ _ w.heap.size 27 #[.int .i64 a0, .int .i64 a1, .int .i64 a2, .int .i64 a3, .int .i64 a4, .int .i64 a5, .int .i64 a6] (0, 0) _ rfl (hB3.setRow _) Tryd.underlying27 rfl (de_info ⟨a0, a1, a2, a3, a4, a5, a6⟩)) rfl ?_
        exact rdl_fin (x := ⟨a0, a1, a2, a3, a4, a5, a6⟩) hslt HD.out (hSB3.le (by have := HK.out; omega)) hG03
      · go_wp2_with fail
        go_roundw
        case rel => exact ⟨k + 1, by have := HK.out; omega, by go_num, hB3, hSB3.le (by omega), hG03⟩
        case measure => have := HK.out; simp [intOf]; omega
    · obtain rfl : k = 8 := by omega
      go_wp2_with (refine wpList_store_row rfl 27 _ _ rfl w.heap.size #[.int .i64 0, .int .i64 0, .int .i64 0, .int .i64 0, .int .i64 0, .int .i64 0, .int .i64 0] rfl rfl 27 _ hB (de_info ⟨0, 0, 0, 0, 0, 0, 0⟩) rfl (de_one ⟨0, 0, 0, 0, 0, 0, 0⟩) ?_)
      refine bodyPost_ret (results_cell_row rfl _ _ w.heap.size 27 #[.int .i64 0, .int .i64 0, .int .i64 0, .int .i64 0, .int .i64 0, .int .i64 0, .int .i64 0] (0, 0) _ rfl (hB.setRow _) Tryd.underlying27 rfl (de_info ⟨0, 0, 0, 0, 0, 0, 0⟩)) rfl ?_
      exact rdl_fin (x := ⟨0, 0, 0, 0, 0, 0, 0⟩) hslt (by simp [deE, inB]) (hSB.le (by omega)) hG
end Go.Proofs.YtgddchdpeflmoaaDoor
