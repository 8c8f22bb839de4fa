/- The law's own 'priced': what a stay of one rental day tells. -/
import Derived.Test.YtgofeigebldkiaaDoorPrB
import Derived.LaidEqlPtr
namespace Go.Proofs.YtgofeigebldkiaaDoor
open Go.RowKit

theorem run_neq_ptr_same {P : Program} (w : World) {tp te : TypeId} {j : TypeInfo} (a : Addr) (hp : P.underlying tp = some (.pointer te)) (hte : P.info? te = some j) :
    (binOp .neq tp (.pointer (some a)) (.pointer (some a))).run P w = .ok (.bool false) w := by
  have h : ∀ d : Nat, (Op.equalIn (d + 1) tp (.pointer (some a)) (.pointer (some a))).run P w = .ok true w := fun d => by
    simp [Op.equalIn, run_underlying hp, sizeOf, typeInfo, hte, run_sameAddr_same]
  simp only [binOp]
  simp [Op.equal, Op.maxDepth, h 9999]
set_option maxRecDepth 100000 in
theorem stDays1_c (v : Value) (b : Nat) (w : World) (h : Se w v b) : Calls Tryd.prog 99 #[.agg (syC v)] w fun e w' => e = .returned (.int .i64 1) ∧ G w w' none := by
  obtain ⟨g, cap, rfl, q1, q2, q3, q4⟩ := h
  go_enter Tryd.func99, Tryd.ntmps99
  go_wp2_with fail
  go_ret
  exact ⟨rfl, (G.refl _ _).alloc _⟩
set_option maxRecDepth 100000 in
theorem begins0_c (v : Value) (w : World) : Calls Tryd.prog 126 #[.agg (syC v), .int .i64 0] w fun e w' => e = .returned (.int .i64 0) ∧ G w w' none := by
  go_enter Tryd.func126, Tryd.ntmps126
  go_wp2_with fail
  go_ret
  exact ⟨rfl, (G.refl _ _).alloc _⟩
set_option maxRecDepth 100000 in
theorem begins1_c (v : Value) (w : World) : Calls Tryd.prog 126 #[.agg (syC v), .int .i64 1] w fun e w' => e = .returned (.int .i64 1440) ∧ G w w' none := by
  go_enter Tryd.func126, Tryd.ntmps126
  go_wp2_with fail
  go_ret
  exact ⟨rfl, (G.refl _ _).alloc _⟩
set_option maxRecDepth 100000 in
set_option maxHeartbeats 1000000 in
theorem ends1_c (v : Value) (w : World) : Calls Tryd.prog 125 #[.agg (syC v), .int .i64 0] w fun e w' => e = .returned (.int .i64 60) ∧ G w w' none := by
  have hB := Bk.new w 140 (syC v)
  have hG := (G.refl w none).alloc (.cells (syC v) 140)
  have hw1 : IntKind.i64.wrap (0 + 1) = 1 := by rw [IntKind.wrap_i64]; omega
  have hw2 : IntKind.i64.wrap 1 = 1 := by rw [IntKind.wrap_i64]; omega
  go_enter Tryd.func125, Tryd.ntmps125
  go_wp2_with fail
  have hgl := hB.lt
  generalize w.alloc (.cells (syC v) 140) = w3 at hB hG hgl ⊢
  generalize w.heap.size = g at hB hgl ⊢
  have c0 : w3.cell? ⟨g, 0, none⟩ = some (.int .i64 0) := hB.cell 0
  have c1 : w3.cell? ⟨g, 1, none⟩ = some (.int .i64 60) := hB.cell 1
  have c2 : w3.cell? ⟨g, 2, none⟩ = some v := hB.cell 2
  go_region_held3 (fun w' => w'.cell? ⟨g, 0, none⟩ = some (.int .i64 0) ∧ w'.cell? ⟨g, 1, none⟩ = some (.int .i64 60) ∧ w'.cell? ⟨g, 2, none⟩ = some v) (first | exact ⟨c0, c1, c2⟩ | exact hS | go_keep) (first | (go_at_call 126; refine (begins1_c v _).mono ?_; rintro e w4 ⟨rfl, hG4⟩; have hG04 := hG.drew.trans hG4; have hB4 := (hB.quiet ((G.refl w3 none).drew)).quiet hG4; have hS : w4.cell? ⟨g, 0, none⟩ = some (.int .i64 0) ∧ w4.cell? ⟨g, 1, none⟩ = some (.int .i64 60) ∧ w4.cell? ⟨g, 2, none⟩ = some v := ⟨hB4.cell 0, hB4.cell 1, hB4.cell 2⟩))
  go_wp2_with fail
  go_ret
  exact ⟨rfl, hG04⟩
set_option maxRecDepth 100000 in
set_option maxHeartbeats 4000000 in
theorem weekendDays1_c (v : Value) (b : Nat) (w : World) (h : Se w v b) : Calls Tryd.prog 127 #[.agg (syC v), .int .i64 0] w fun e w' => e = .returned (.int .i64 1) ∧ G w w' none := by
  have h' := h
  obtain ⟨gs, cap, rfl, _, _, _, _⟩ := h'
  have hB := Bk.new w 140 (syC (.slice (some ⟨gs, 0, none⟩) 1 cap))
  have hG := (G.refl w none).alloc (.cells (syC (.slice (some ⟨gs, 0, none⟩) 1 cap)) 140)
  have hS := h.quiet hG
  go_enter Tryd.func127, Tryd.ntmps127
  go_wp2_with fail
  refine (begins0_c _ _).mono ?_; rintro e w1 ⟨rfl, hG1⟩
  have hB1 := hB.quiet hG1
  have hS1 := hS.quiet hG1
  have hG01 := hG.trans hG1
  clear hB hS hG hG1
  have d0 : w1.cell? ⟨w.heap.size, 0, none⟩ = some (.int .i64 0) := hB1.cell 0
  have d1 : w1.cell? ⟨w.heap.size, 1, none⟩ = some (.int .i64 60) := hB1.cell 1
  have d2 : w1.cell? ⟨w.heap.size, 2, none⟩ = some (.slice (some ⟨gs, 0, none⟩) 1 cap) := hB1.cell 2
  go_wp2_with fail
  refine (begins0_c _ _).mono ?_; rintro e w2 ⟨rfl, hG2⟩
  have hB2 := hB1.quiet hG2
  have hS2 := hS1.quiet hG2
  have hG02 := hG01.trans hG2
  clear hB1 hS1 hG01 hG2 d0 d1 d2
  have d0 : w2.cell? ⟨w.heap.size, 0, none⟩ = some (.int .i64 0) := hB2.cell 0
  have d1 : w2.cell? ⟨w.heap.size, 1, none⟩ = some (.int .i64 60) := hB2.cell 1
  have d2 : w2.cell? ⟨w.heap.size, 2, none⟩ = some (.slice (some ⟨gs, 0, none⟩) 1 cap) := hB2.cell 2
  go_wp2_with fail
  refine wp_loop_rounds 2 ?_
  rw [rounds_succ]
  go_wp2_with fail
  refine (stDays1_c _ b _ hS2).mono ?_; rintro e w3 ⟨rfl, hG3⟩
  have hB3 := hB2.quiet hG3
  have hS3 := hS2.quiet hG3
  have hG03 := hG02.trans hG3
  clear hB2 hS2 hG02 hG3 d0 d1 d2
  have d0 : w3.cell? ⟨w.heap.size, 0, none⟩ = some (.int .i64 0) := hB3.cell 0
  have d1 : w3.cell? ⟨w.heap.size, 1, none⟩ = some (.int .i64 60) := hB3.cell 1
  have d2 : w3.cell? ⟨w.heap.size, 2, none⟩ = some (.slice (some ⟨gs, 0, none⟩) 1 cap) := hB3.cell 2
  have hS3' := hS3
  obtain ⟨g', cap', e', q1, q2, q3, q4⟩ := hS3'
  obtain ⟨rfl, rfl⟩ : gs = g' ∧ cap = cap' := by cases e'; exact ⟨rfl, rfl⟩
  go_wp2_with fail
  refine (ends1_c _ _).mono ?_; rintro e w4 ⟨rfl, hG4⟩
  have hB4 := hB3.quiet hG4
  have hS4 := hS3.quiet hG4
  have hG04 := hG03.trans hG4
  clear hB3 hS3 hG03 hG4 d0 d1 d2 q3 q4
  have d0 : w4.cell? ⟨w.heap.size, 0, none⟩ = some (.int .i64 0) := hB4.cell 0
  have d1 : w4.cell? ⟨w.heap.size, 1, none⟩ = some (.int .i64 60) := hB4.cell 1
  have d2 : w4.cell? ⟨w.heap.size, 2, none⟩ = some (.slice (some ⟨gs, 0, none⟩) 1 cap) := hB4.cell 2
  go_wp2_with fail
  rw [rounds_succ]
  go_wp2_with fail
  refine (stDays1_c _ b _ hS4).mono ?_; rintro e w5 ⟨rfl, hG5⟩
  go_wp2_with fail
  go_ret
  exact ⟨rfl, hG04.trans hG5⟩
set_option maxRecDepth 100000 in
set_option maxHeartbeats 4000000 in
theorem sameSeason1_c (v : Value) (b : Nat) (w : World) (h : Se w v b) : Calls Tryd.prog 128 #[.agg (syC v), .int .i64 0, .int .i64 1] w fun e w' => e = .returned (.bool true) ∧ G w w' none := by
  obtain ⟨g, cap, rfl, q1, q2, q3, q4⟩ := h
  have hp : (w.alloc (.cells (syC (.slice (some ⟨g, 0, none⟩) 1 cap)) 140)).cell? ⟨g, 0, none⟩ = some (.pointer (some ⟨b, 0, none⟩)) := ((gcell ((G.refl w none).alloc _)).1 g _ q3).trans q4
  have hnp : ∀ w : World, (binOp .neq 89 (.pointer (some ⟨b, 0, none⟩)) (.pointer (some ⟨b, 0, none⟩))).run Tryd.prog w = .ok (.bool false) w := fun w => by
    obtain ⟨j, hj⟩ := Option.isSome_iff_exists.1 (show (Tryd.prog.info? 37).isSome = true by kernel_rfl)
    exact run_neq_ptr_same w _ Tryd.underlying89 hj
  go_enter Tryd.func128, Tryd.ntmps128
  go_wp2_with fail
  refine wp_loop_rounds 2 ?_
  rw [rounds_succ]
  go_wp2_with fail
  rw [rounds_succ]
  go_wp2_with fail
  go_ret
  exact ⟨rfl, (G.refl _ _).alloc _⟩
end Go.Proofs.YtgofeigebldkiaaDoor
