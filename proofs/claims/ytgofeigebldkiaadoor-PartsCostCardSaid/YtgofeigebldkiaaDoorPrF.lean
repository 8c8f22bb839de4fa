/- The law's own 'priced': Divide at one rate and one hour. -/
import Derived.Test.YtgofeigebldkiaaDoorPrE
namespace Go.Proofs.YtgofeigebldkiaaDoor
open Go.RowKit

set_option maxRecDepth 100000 in
set_option maxHeartbeats 2000000 in
theorem pcEqual_c (v u : Value) (w : World) (hv : Pc w v) (hu : Pc w u) : Calls Tryd.prog 67 #[v, u] w fun e w' => e = .returned (.bool true) ∧ G w w' none := by
  have hnq : ∀ w : World, (binOp .neq 104 (.agg pcC) (.agg pcC)).run Tryd.prog w = .ok (.bool false) w := fun _ => by kernel_rfl
  obtain ⟨g, cap, rfl, q1, q2, q3, q4, q5, q6⟩ := hv
  obtain ⟨k, cap', rfl, r1, r2, r3, r4, r5, r6⟩ := hu
  go_enter Tryd.func67, Tryd.ntmps67
  go_wp2_with fail
  refine wp_loop_rounds 2 ?_
  rw [rounds_succ]
  go_wp2_with fail
  go_quiet (fail)
  have hG := (G.refl w none).drewN nq
  go_wp2_with fail
  rw [rounds_succ]
  go_wp2_with fail
  go_ret
  exact ⟨rfl, hG⟩
set_option maxRecDepth 100000 in
set_option maxHeartbeats 8000000 in
theorem divide1_c (b : Nat) (w : World) (hR : Rt w b) : Calls Tryd.prog 66 #[.slice (some ⟨b, 0, none⟩) 1 1, .string ⟨#[99]⟩, .agg #[.int .i64 0, .int .i64 60]] w fun e w' => ∃ p, e = .returned (.tuple #[p, .int .i64 0]) ∧ Pc w' p ∧ G w w' none := by
  have hT := Bk.new w 29 #[.int .i64 0, .int .i64 60]
  have hG := (G.refl w none).alloc (.cells #[.int .i64 0, .int .i64 60] 29)
  have hR0 := hR.quiet hG
  go_enter Tryd.func66, Tryd.ntmps66
  go_wp2_with fail
  refine (checkStay1_c _ b hR0).mono ?_; rintro e w1 ⟨rfl, hG1⟩
  have hT := hT.quiet hG1
  have hR1 := hR0.quiet hG1
  have hG := hG.trans hG1
  clear hG1 hR hR0
  have c0 : w1.cell? ⟨w.heap.size, 0, none⟩ = some (.int .i64 0) := hT.cell 0
  have c1 : w1.cell? ⟨w.heap.size, 1, none⟩ = some (.int .i64 60) := hT.cell 1
  go_wp2_with fail
  refine (stayOf1_c _ b hR1).mono ?_; rintro e w2 ⟨v, rfl, hS2, hG2⟩
  have hR2 := hR1.quiet hG2
  have hG := hG.trans hG2
  clear hG2 hR1 hT c0 c1
  have hS2' := hS2
  obtain ⟨gs, cap, rfl, _, _, _, _⟩ := hS2'
  have hB := Bk.new w2 140 #[.int .i64 0, .int .i64 60, .slice (some ⟨gs, 0, none⟩) 1 cap]
  have hA := (G.refl w2 none).alloc (.cells #[.int .i64 0, .int .i64 60, .slice (some ⟨gs, 0, none⟩) 1 cap] 140)
  have hS3 := hS2.quiet hA
  have hR3 := hR2.quiet hA
  have hG := hG.trans hA
  clear hS2 hR2
  go_wp2_with fail
  refine (plans1_c _ b _ hS3 hR3).mono ?_; rintro e w4 ⟨gp, rfl, hP, hG4⟩
  have hB := hB.quiet hG4
  have hS4 := hS3.quiet hG4
  have hG := hG.trans hG4
  clear hG4 hS3 hR3 hA
  have p0 : w4.cell? ⟨gp, 0, none⟩ = some (.bool true) := hP.cell 0
  have d0 : w4.cell? ⟨w2.heap.size, 0, none⟩ = some (.int .i64 0) := hB.cell 0
  have d1 : w4.cell? ⟨w2.heap.size, 1, none⟩ = some (.int .i64 60) := hB.cell 1
  have d2 : w4.cell? ⟨w2.heap.size, 2, none⟩ = some (.slice (some ⟨gs, 0, none⟩) 1 cap) := hB.cell 2
  go_wp2_with fail
  refine wp_loop_rounds 2 ?_
  rw [rounds_succ]
  go_wp2_with fail
  refine (stDays1_c _ b _ hS4).mono ?_; rintro e w5 ⟨rfl, hG5⟩
  have hB := hB.quiet hG5
  have hS5 := hS4.quiet hG5
  have hP := hP.quiet hG5
  have hG := hG.trans hG5
  clear hG5 hS4 p0 d0 d1 d2
  have p3 : w5.cell? ⟨gp, 3, none⟩ = some (.int .i64 2) := hP.cell 3
  have p4 : w5.cell? ⟨gp, 4, none⟩ = some (.int .i64 1) := hP.cell 4
  have p5 : w5.cell? ⟨gp, 5, none⟩ = some (.int .i64 7) := hP.cell 5
  have hPl := hP.lt
  go_wp2_with (at_builtin; refine wpList_plain rfl fun K' hK' => wp_append_pc _ _ rfl rfl w5.heap.size rfl (Bk.newAt rfl _ _) fun p w7 hpc hvne hG7 => ?_; refine hK' _ _ ?_; clear hK'; have hP7 := (hP.alloc _).quiet hG7; have hB7 := (hB.alloc _).quiet hG7; have hS7 := (hS5.quiet ((G.refl _ none).alloc _)).quiet hG7; have hG07 := (hG.alloc _).trans hG7; have p4' : w7.cell? ⟨gp, 4, none⟩ = some (.int .i64 1) := hP7.cell 4)
  rw [rounds_succ]
  have d0 : w7.cell? ⟨w2.heap.size, 0, none⟩ = some (.int .i64 0) := hB7.cell 0
  have d1 : w7.cell? ⟨w2.heap.size, 1, none⟩ = some (.int .i64 60) := hB7.cell 1
  have d2 : w7.cell? ⟨w2.heap.size, 2, none⟩ = some (.slice (some ⟨gs, 0, none⟩) 1 cap) := hB7.cell 2
  go_wp2_with fail
  refine (stDays1_c _ b _ hS7).mono ?_; rintro e w8 ⟨rfl, hG8⟩
  go_wp2_with fail
  go_ret2
  exact ⟨p, rfl, hpc.quiet hG8, hG07.trans hG8⟩
set_option maxRecDepth 100000 in
set_option maxHeartbeats 4000000 in
theorem priced_c (w : World) : Calls Tryd.prog 21 #[] w fun e w' => e = .returned (.bool true) ∧ G w w' none := by
  have hR := Bk.new w 37 rtC
  go_enter Tryd.func21, Tryd.ntmps21
  go_wp2_with fail
  refine (divide1_c w.heap.size _ hR).mono ?_; rintro e w1 ⟨p, rfl, hp, hG1⟩
  have hG := ((G.refl w none).alloc (.cells rtC 37)).trans hG1
  clear hG1 hR
  have hA := (G.refl w1 none).alloc (.cells #[.int .i64 2, .int .i64 1, .int .i64 7] 104)
  have hp1 := hp.quiet hA
  have hn := Bk.new w1 104 #[.int .i64 2, .int .i64 1, .int .i64 7]
  have hp2 : Pc (w1.alloc (.cells #[.int .i64 2, .int .i64 1, .int .i64 7] 104)) (.slice (some ⟨w1.heap.size, 0, none⟩) 1 1) := ⟨_, 1, rfl, by omega, by decide, hn.lt, hn.cell 0, hn.cell 1, hn.cell 2⟩
  go_wp2_with fail
  refine (pcEqual_c _ _ _ hp1 hp2).mono ?_; rintro e w2 ⟨rfl, hG2⟩
  go_wp2_with fail
  go_ret
  exact ⟨rfl, (hG.trans hA).trans hG2⟩
end Go.Proofs.YtgofeigebldkiaaDoor
