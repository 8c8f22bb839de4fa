/- The law's own 'lots' returns true. -/
import Derived.Test.YtjjgohainbjecaaDoorLotB
namespace Go.Proofs.YtjjgohainbjecaaDoor
open Go.RowKit

theorem fl1_new (w : World) (d e : Obj) : Fl1 (((((w.alloc (.cells #[.string ⟨#[115]⟩, .int .i64 0, .int .i64 0, .int .i64 0, .int .i64 0, .int .i64 0, .int .i64 0, .int .i64 0, .int .i64 0, .int .i64 0, .int .i64 0, .int .i64 0, .int .i64 0, .int .i64 0, .int .i64 0] 66)).alloc
      (.cells #[.string ⟨#[99]⟩, .string ⟨#[]⟩] 48)).alloc (.cells #[.string ⟨#[118]⟩, .string ⟨#[99]⟩] 69)).alloc d).alloc e)
    (.slice (some ⟨w.heap.size, 0, none⟩) 1 1) (.slice (some ⟨w.heap.size + 1, 0, none⟩) 1 1) (.slice (some ⟨w.heap.size + 1 + 1, 0, none⟩) 1 1) := by
  refine ⟨?_, ?_, ?_⟩
  · refine Rd.quiet (w := w.alloc (.cells (stC sS (fun _ => 0)) 66)) ?_ (((((G.refl _ _).alloc _).alloc _).alloc _).alloc _)
    exact Rd.newAt (stC sS (fun _ => 0)) rfl rfl (by decide)
  · refine Rd.quiet (w := (w.alloc (.cells (stC sS (fun _ => 0)) 66)).alloc (.cells (clC (sC, eS)) 48)) ?_ ((((G.refl _ _).alloc _).alloc _).alloc _)
    exact Rd.newAt (clC (sC, eS)) (by simp) rfl (by decide)
  · refine Rd.quiet (w := ((w.alloc (.cells (stC sS (fun _ => 0)) 66)).alloc (.cells (clC (sC, eS)) 48)).alloc (.cells (clC (sV, sC)) 69)) ?_ (((G.refl _ _).alloc _).alloc _)
    exact Rd.newAt (clC (sV, sC)) (by simp) rfl (by decide)
set_option maxRecDepth 100000 in
set_option maxHeartbeats 2000000 in
theorem lots_c (w : World) (hg : Gl w) : Calls Tryd.prog 15 #[] w fun e w' => e = .returned (.bool true) ∧ G w w' none := by
  have heq : ∀ w : World, (binOp .eql 75 (.agg #[.int .i64 1, .string ⟨#[115]⟩, .int .i64 5]) (.agg #[.int .i64 1, .string ⟨#[115]⟩, .int .i64 5])).run Tryd.prog w = .ok (.bool true) w := fun _ => by kernel_rfl
  go_enter Tryd.func15, Tryd.ntmps15
  go_wp2_with fail
  refine (stateOf1_c _ _ _ _ _ (fl1_new w _ _) (Bk.newAt (by simp) _ _) (hg.quiet (((((G.refl _ _).alloc _).alloc _).alloc _).alloc _ |>.alloc _))).mono ?_; rintro e w1 ⟨rfl, hG1⟩
  have hG : G w w1 none := (((((G.refl w none).alloc _).alloc _).alloc _).alloc _ |>.alloc _).trans hG1
  clear hG1
  have hBn := Bk.new w1 75 #[.int .i64 1, .string ⟨#[115]⟩, .int .i64 5]
  have HA := Lib.hid (hBn.at_)
  go_wp2_with (refine wpList_load_at_g rfl 75 _ rfl ⟨w1.heap.size, 0, none⟩ rfl #[.int .i64 1, .string ⟨#[115]⟩, .int .i64 5] _ HA.out Tryd.underlying75 rfl (ss_info _ _ _) ?_)
  go_ret
  exact ⟨rfl, hG.alloc _⟩
end Go.Proofs.YtjjgohainbjecaaDoor
