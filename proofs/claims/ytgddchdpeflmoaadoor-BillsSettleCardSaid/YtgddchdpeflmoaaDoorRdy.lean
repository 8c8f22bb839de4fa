/- ready: the packages do something. -/
import Derived.Test.YtgddchdpeflmoaaDoorHiu
import Derived.Test.YtgddchdpeflmoaaDoorOpen
import Derived.Test.YtgddchdpeflmoaaDoorOde
namespace Go.Proofs.YtgddchdpeflmoaaDoor
open Go.RowKit

def hS1 : Nat → Int := fun i => if i = 1 then 9 else 0
theorem hS1_B : HB hS1 := fun j => by unfold hS1; split <;> omega
theorem at1 : atE ⟨#[115]⟩ hS1 8 = 0 := by decide +kernel
theorem op1 : isOpenR ⟨#[115]⟩ hS1 8 = true := by decide +kernel
theorem t1441 : tE 0 1441 = 0 ∧ tN 0 1441 = 2 := by decide +kernel
theorem isOpen1_c (w : World) : Calls Tryd.prog 23 #[.agg #[.string ⟨#[115]⟩, .int .i64 0, .int .i64 9, .int .i64 0, .int .i64 0, .int .i64 0, .int .i64 0, .int .i64 0, .int .i64 0, .int .i64 0, .int .i64 0, .int .i64 0, .int .i64 0, .int .i64 0, .int .i64 0], .int .i64 8] w fun e w' => e = .returned (.tuple #[.bool true, .int .i64 0]) ∧ G w w' none := by
  have := isOpen_c ⟨#[115]⟩ hS1 8 w (by decide) hS1_B
  rw [at1, op1] at this
  exact this
theorem days1_c (w : World) : Calls Tryd.prog 22 #[.agg #[.int .i64 0, .int .i64 1441]] w fun e w' => e = .returned (.tuple #[.int .i64 2, .int .i64 0]) ∧ G w w' none := by
  have := days_c 0 1441 w (by unfold bnd; omega) (by unfold bnd; omega)
  rw [t1441.1, t1441.2] at this
  exact this
theorem spread0_c (w : World) : Calls Tryd.prog 24 #[.slice none 0 0] w fun e w' => ∃ a c, e = .returned (.tuple #[.slice a 1 c, .int .i64 0]) ∧ G w w' none := by
  refine (spread_c (.slice none 0 0) [] w (RdR.nil _ _ _) (fun _ h => by cases h) (by simp)).mono ?_
  rintro e w' ⟨u, m, rfl, hr, hm, hG⟩
  have h0 : coE [] = 0 := rfl
  have hm1 : m = [(1, 1)] := by rw [hm, if_pos h0]; decide +kernel
  subst hm1
  obtain ⟨a, c, rfl, -, -⟩ := RdR.form hr
  exact ⟨a, c, by rw [h0]; rfl, hG⟩
set_option maxRecDepth 100000 in
set_option maxHeartbeats 4000000 in
theorem ready_c (w : World) : Calls Tryd.prog 9 #[] w fun e w' => e = .returned (.bool true) ∧ G w w' none := by
  go_enter Tryd.func9, Tryd.ntmps9
  go_wp2_with fail
  refine (days1_c _).mono ?_; rintro e w1 ⟨rfl, hG1⟩
  go_wp2_with fail
  refine (isOpen1_c _).mono ?_; rintro e w2 ⟨rfl, hG2⟩
  have hG02 := hG1.trans hG2
  clear hG1 hG2
  go_wp2_with fail
  refine (spread0_c _).mono ?_; rintro e w3 ⟨a, c, rfl, hG3⟩
  have hG03 := hG02.trans hG3
  clear hG02 hG3
  go_wp2_with fail
  refine (start1_c _).mono ?_; rintro e w4 ⟨a2, c2, rfl, hG4⟩
  have hG04 := hG03.trans hG4
  clear hG03 hG4
  go_wp2_with fail
  go_ret
  exact ⟨rfl, hG04.alloc _⟩
end Go.Proofs.YtgddchdpeflmoaaDoor
