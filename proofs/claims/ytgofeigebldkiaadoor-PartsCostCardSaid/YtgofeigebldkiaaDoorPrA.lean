/- The law's own 'priced', its parts: one rate, one hour. -/
import Derived.Test.YtgofeigebldkiaaDoorExt
import Derived.Test.YtgofeigebldkiaaDoorTmb
import Derived.Test.YtgofeigebldkiaaDoorKey
import Derived.Test.YtgofeigebldkiaaDoorReg
import Derived.Deep.RegionHeld3
namespace Go.Proofs.YtgofeigebldkiaaDoor
open Go.RowKit

/-- The one rate: class c, days 0 to 8, no price but 7 for a day. -/
def rtC : Array Value := #[.string ⟨#[99]⟩, .int .i64 0, .int .i64 9, .int .i64 (-1), .int .i64 7, .int .i64 (-1), .int .i64 (-1)]
abbrev Rt (w : World) (b : Nat) : Prop := Bk w b 37 rtC
theorem rt_info : (Tryd.prog.info? 37).map (·.size) = some rtC.size := (by kernel_rfl : (Tryd.prog.info? 37).map (·.size) = some 7)
theorem rt0 : rtC[0]? = some (.string ⟨#[99]⟩) := rfl
theorem rt1 : rtC[1]? = some (.int .i64 0) := rfl
theorem rt2 : rtC[2]? = some (.int .i64 9) := rfl
theorem rt3 : rtC[3]? = some (.int .i64 (-1)) := rfl
theorem rt4 : rtC[4]? = some (.int .i64 7) := rfl
theorem rt5 : rtC[5]? = some (.int .i64 (-1)) := rfl
theorem rt6 : rtC[6]? = some (.int .i64 (-1)) := rfl
theorem key_c1 : keyB ⟨#[99]⟩ = true := by decide
set_option maxRecDepth 100000 in
set_option maxHeartbeats 2000000 in
theorem checkRate1_c (w : World) : Calls Tryd.prog 63 #[.agg rtC] w fun e w' => e = .returned (.int .i64 0) ∧ G w w' none := by
  have hB := Bk.new w 37 rtC
  have c0 := hB.cell 0
  rw [rt0] at c0
  have c1 := hB.cell 1
  rw [rt1] at c1
  have c2 := hB.cell 2
  rw [rt2] at c2
  have c3 := hB.cell 3
  rw [rt3] at c3
  have c4 := hB.cell 4
  rw [rt4] at c4
  have c5 := hB.cell 5
  rw [rt5] at c5
  have c6 := hB.cell 6
  rw [rt6] at c6
  clear hB
  have i0 : ∀ w : World, (Instr.index 135 (.agg #[.int .i64 (-1), .int .i64 7, .int .i64 (-1), .int .i64 (-1)]) (.int .i64 0)).run Tryd.prog w = .ok (.int .i64 (-1)) w := fun _ => by kernel_rfl
  have i1 : ∀ w : World, (Instr.index 135 (.agg #[.int .i64 (-1), .int .i64 7, .int .i64 (-1), .int .i64 (-1)]) (.int .i64 1)).run Tryd.prog w = .ok (.int .i64 (7)) w := fun _ => by kernel_rfl
  have i2 : ∀ w : World, (Instr.index 135 (.agg #[.int .i64 (-1), .int .i64 7, .int .i64 (-1), .int .i64 (-1)]) (.int .i64 2)).run Tryd.prog w = .ok (.int .i64 (-1)) w := fun _ => by kernel_rfl
  have i3 : ∀ w : World, (Instr.index 135 (.agg #[.int .i64 (-1), .int .i64 7, .int .i64 (-1), .int .i64 (-1)]) (.int .i64 3)).run Tryd.prog w = .ok (.int .i64 (-1)) w := fun _ => by kernel_rfl
  go_enter Tryd.func63, Tryd.ntmps63
  go_wp2_with fail
  refine (isKey_c ⟨#[99]⟩ _ (by decide)).mono ?_; rintro e w' ⟨rfl, rfl⟩
  rw [key_c1]
  go_wp2_with fail
  refine wp_loop_rounds 5 ?_
  rw [rounds_succ]
  go_wp2_with fail
  refine (within_c _ _ _ _).mono ?_; rintro e w' ⟨rfl, rfl⟩
  rw [show inB (-1) (-1) 1000000 = true by decide]
  go_wp2_with fail
  rw [rounds_succ]
  go_wp2_with fail
  refine (within_c _ _ _ _).mono ?_; rintro e w' ⟨rfl, rfl⟩
  rw [show inB 7 (-1) 1000000 = true by decide]
  go_wp2_with fail
  rw [rounds_succ]
  go_wp2_with fail
  refine (within_c _ _ _ _).mono ?_; rintro e w' ⟨rfl, rfl⟩
  rw [show inB (-1) (-1) 1000000 = true by decide]
  go_wp2_with fail
  rw [rounds_succ]
  go_wp2_with fail
  refine (within_c _ _ _ _).mono ?_; rintro e w' ⟨rfl, rfl⟩
  rw [show inB (-1) (-1) 1000000 = true by decide]
  go_wp2_with fail
  rw [rounds_succ]
  go_wp2_with fail
  go_ret
  exact ⟨rfl, (G.refl _ _).alloc _⟩
set_option maxRecDepth 100000 in
set_option maxHeartbeats 2000000 in
theorem checkRates1_c (w : World) (b : Nat) (h : Rt w b) : Calls Tryd.prog 14 #[.slice (some ⟨b, 0, none⟩) 1 1] w fun e w' => e = .returned (.int .i64 0) ∧ G w w' none := by
  have HA := Lib.hid h.at_
  have hB := Bk.new w 37 rtC
  go_enter Tryd.func14, Tryd.ntmps14
  go_wp2_with fail
  refine wp_loop_rounds 2 ?_
  rw [rounds_succ]
  go_wp2_with (first | (refine wpList_load_at rfl 37 _ rfl ⟨b, 0, none⟩ rfl #[.string ⟨#[99]⟩, .int .i64 0, .int .i64 9, .int .i64 (-1), .int .i64 7, .int .i64 (-1), .int .i64 (-1)] _ HA.out Tryd.underlying37 rfl rt_info ?_) | (refine wpList_load_row rfl 37 _ rfl w.heap.size rfl 37 rtC (0, 0) _ hB Tryd.underlying37 rfl rt_info ?_))
  refine (checkRate1_c _).mono ?_; rintro e w1 ⟨rfl, hG1⟩
  go_wp2_with fail
  rw [rounds_succ]
  go_wp2_with fail
  go_ret
  exact ⟨rfl, ((G.refl w none).alloc _).trans hG1⟩
def tmC : Array Value := #[.int .i64 0, .int .i64 60]
set_option maxRecDepth 100000 in
theorem begun1_c (m p : Int) (w : World) (h0 : 0 ≤ m) (h1 : m ≤ 1000000000) (h2 : 1 ≤ p) (h3 : p ≤ 1000000000) : Calls Tryd.prog 58 #[.int .i64 m, .int .i64 p] w fun e w' => e = .returned (.int .i64 ((m + p - 1) / p)) ∧ w = w' := by
  go_enter Tryd.func58, Tryd.ntmps58
  go_wp2_with fail
  go_ret
  exact ⟨rfl, rfl⟩
set_option maxRecDepth 100000 in
set_option maxHeartbeats 1000000 in
theorem days1_c (w : World) : Calls Tryd.prog 11 #[.agg #[.int .i64 0, .int .i64 60]] w fun e w' => e = .returned (.tuple #[.int .i64 1, .int .i64 0]) ∧ G w w' none := by
  have hB := Bk.new w 29 #[.int .i64 0, .int .i64 60]
  go_enter Tryd.func11, Tryd.ntmps11
  go_wp2_with (refine wpList_load_row rfl 29 _ rfl w.heap.size rfl 29 #[.int .i64 0, .int .i64 60] (0, 0) _ hB Tryd.underlying29 rfl (wi_info 0 60) ?_)
  refine (isTime_c 0 60 _).mono ?_; rintro e w1 ⟨rfl, hG1⟩
  rw [show timB 0 60 = true by decide]
  have hB1 := hB.quiet hG1
  have c0 : w1.cell? ⟨w.heap.size, 0, none⟩ = some (.int .i64 0) := hB1.cell 0
  have c1 : w1.cell? ⟨w.heap.size, 1, none⟩ = some (.int .i64 60) := hB1.cell 1
  have hG01 := ((G.refl w none).alloc (.cells #[.int .i64 0, .int .i64 60] 29)).trans hG1
  clear hB hB1 hG1
  go_wp2_with fail
  refine (begun1_c _ _ _ (by omega) (by omega) (by omega) (by omega)).mono ?_; rintro e w' ⟨rfl, rfl⟩
  rw [show ((60 : Int) + 1440 - 1) / 1440 = 1 by decide]
  go_wp2_with fail
  go_ret2
  exact ⟨rfl, hG01⟩
set_option maxRecDepth 100000 in
theorem checkTime1_c (w : World) : Calls Tryd.prog 105 #[.agg #[.int .i64 0, .int .i64 60]] w fun e w' => e = .returned (.int .i64 0) ∧ G w w' none := by
  go_enter Tryd.func105, Tryd.ntmps105
  go_wp2_with fail
  refine (days1_c _).mono ?_; rintro e w1 ⟨rfl, hG1⟩
  go_wp2_with fail
  go_ret
  exact ⟨rfl, ((G.refl w none).alloc _).trans hG1⟩
set_option maxRecDepth 100000 in
set_option maxHeartbeats 1000000 in
theorem checkStay1_c (w : World) (b : Nat) (h : Rt w b) : Calls Tryd.prog 96 #[.slice (some ⟨b, 0, none⟩) 1 1, .string ⟨#[99]⟩, .agg #[.int .i64 0, .int .i64 60]] w fun e w' => e = .returned (.int .i64 0) ∧ G w w' none := by
  have hT := Bk.new w 29 #[.int .i64 0, .int .i64 60]
  have hR := h.alloc (.cells #[.int .i64 0, .int .i64 60] 29)
  go_enter Tryd.func96, Tryd.ntmps96
  go_wp2_with fail
  refine (checkRates1_c _ b hR).mono ?_; rintro e w1 ⟨rfl, hG1⟩
  have hT1 := hT.quiet hG1
  have hG01 := ((G.refl w none).alloc (.cells #[.int .i64 0, .int .i64 60] 29)).trans hG1
  clear hT hR hG1
  go_wp2_with fail
  refine (isKey_c ⟨#[99]⟩ _ (by decide)).mono ?_; rintro e w' ⟨rfl, rfl⟩
  rw [key_c1]
  have c0 := hT1.cell 0
  have c1 := hT1.cell 1
  rw [show (#[Value.int .i64 0, .int .i64 60] : Array Value)[0]? = some (.int .i64 0) from rfl] at c0
  rw [show (#[Value.int .i64 0, .int .i64 60] : Array Value)[1]? = some (.int .i64 60) from rfl] at c1
  go_wp2_with fail
  refine (checkTime1_c _).mono ?_; rintro e w2 ⟨rfl, hG2⟩
  go_wp2_with fail
  go_ret
  exact ⟨rfl, hG01.trans hG2⟩
set_option maxRecDepth 100000 in
set_option maxHeartbeats 1000000 in
theorem seasonOn1_c (w : World) (b : Nat) (h : Rt w b) : Calls Tryd.prog 61 #[.slice (some ⟨b, 0, none⟩) 1 1, .string ⟨#[99]⟩, .int .i64 0] w fun e w' => e = .returned (.pointer (some ⟨b, 0, none⟩)) ∧ G w w' none := by
  have c0 := h.cell 0
  have c1 := h.cell 1
  have c2 := h.cell 2
  rw [rt0] at c0
  rw [rt1] at c1
  rw [rt2] at c2
  go_enter Tryd.func61, Tryd.ntmps61
  go_wp2_with fail
  refine wp_loop_rounds 2 ?_
  rw [rounds_succ]
  go_wp2_with fail
  go_ret
  exact ⟨rfl, G.refl _ _⟩
end Go.Proofs.YtgofeigebldkiaaDoor
