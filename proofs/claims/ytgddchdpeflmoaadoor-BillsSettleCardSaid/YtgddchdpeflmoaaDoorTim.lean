/- The time of a hire: Days, begun, TimeFault, DaysOf. -/
import Derived.Test.YtgddchdpeflmoaaDoorExt
import Derived.Test.YtgddchdpeflmoaaDoorTmb
namespace Go.Proofs.YtgddchdpeflmoaaDoor
open Go.RowKit

def tE (a z : Int) : Int := if 0 ≤ a ∧ a < z ∧ z ≤ 5761439 then (if 172800 < z - a then 2 else 0) else 1
def tN (a z : Int) : Int := if tE a z = 0 then (z - a + 1439) / 1440 else 0
set_option maxRecDepth 100000 in
theorem begun_c (m : Int) (w : World) (h0 : 0 ≤ m) (h1 : m ≤ 5761439) : Calls Tryd.prog 31 #[.int .i64 m, .int .i64 1440] w fun e w' => e = .returned (.int .i64 ((m + 1439) / 1440)) ∧ w = w' := by
  have HF : Hid ((m + 1440 - 1) / 1440 = (m + 1439) / 1440) := Lib.hid (by omega)
  go_enter Tryd.func31, Tryd.ntmps31
  go_wp2_with fail
  go_ret
  exact ⟨ret_int HF.out, rfl⟩
set_option maxRecDepth 100000 in
set_option maxHeartbeats 2000000 in
theorem days_c (a z : Int) (w : World) (ha : bnd a) (hz : bnd z) : Calls Tryd.prog 22 #[.agg #[.int .i64 a, .int .i64 z]] w fun e w' => e = .returned (.tuple #[.int .i64 (tN a z), .int .i64 (tE a z)]) ∧ G w w' none := by
  unfold bnd at ha hz
  have hG : G w (w.alloc (.cells #[.int .i64 a, .int .i64 z] 54)) none := (G.refl w none).alloc _
  have hB := Bk.new w 54 #[.int .i64 a, .int .i64 z]
  by_cases h0 : 0 ≤ a ∧ a < z ∧ z < 5761440
  · obtain ⟨h1, h2, h3⟩ := h0
    have HI := Lib.hid (timB_yes ⟨h1, h2, h3⟩)
    have HT : Hid (tE a z = if 172800 < z - a then 2 else 0) := Lib.hid (by rw [tE, if_pos ⟨h1, h2, by omega⟩])
    have HD : Hid (tE a z = 0 → tN a z = (z - a + 1439) / 1440) := Lib.hid fun h => by rw [tN, if_pos h]
    have HD2 : Hid (tE a z ≠ 0 → tN a z = 0) := Lib.hid fun h => by rw [tN, if_neg h]
    go_enter Tryd.func22, Tryd.ntmps22
    go_wp2_with (refine wpList_load_row rfl 54 _ rfl w.heap.size rfl 54 #[.int .i64 a, .int .i64 z] (0, 0) _ hB Tryd.underlying54 rfl (wi_info a z) ?_)
    refine (isTime_c a z _).mono ?_; rintro e w1 ⟨rfl, hG1⟩
    rw [HI.out]
    have hB1 := hB.quiet hG1
    have hG01 := hG.trans hG1
    have c0 : w1.cell? ⟨w.heap.size, 0, none⟩ = some (.int .i64 a) := hB1.cell 0
    have c1 : w1.cell? ⟨w.heap.size, 1, none⟩ = some (.int .i64 z) := hB1.cell 1
    clear hB hG hG1
    rcases (show 172800 < z - a ∨ z - a ≤ 172800 by omega) with h4 | h4
    · have HE : Hid (tE a z = 2) := Lib.hid (by rw [HT.out, if_pos h4])
      have HN : Hid (tN a z = 0) := Lib.hid (HD2.out (by rw [HE.out]; decide))
      have h5 : 120 < (z - a + 1439) / 1440 := by omega
      go_wp2_with fail
      refine (begun_c _ _ (by omega) (by omega)).mono ?_; rintro e w' ⟨rfl, rfl⟩
      generalize (z - a + 1439) / 1440 = N at h5 ⊢
      go_wp2_with fail
      go_ret2
      exact ⟨by rw [HE.out, HN.out]; rfl, hG01⟩
    · have HE : Hid (tE a z = 0) := Lib.hid (by rw [HT.out, if_neg (by omega)])
      have HN : Hid (tN a z = (z - a + 1439) / 1440) := Lib.hid (HD.out HE.out)
      have h5 : (z - a + 1439) / 1440 ≤ 120 := by omega
      go_wp2_with fail
      refine (begun_c _ _ (by omega) (by omega)).mono ?_; rintro e w' ⟨rfl, rfl⟩
      generalize (z - a + 1439) / 1440 = N at h5 HN ⊢
      go_wp2_with fail
      go_ret2
      exact ⟨by rw [HE.out, HN.out]; rfl, hG01⟩
  · have HE : Hid (tE a z = 1) := Lib.hid (by rw [tE, if_neg (by omega)])
    have HN : Hid (tN a z = 0) := Lib.hid (by rw [tN, if_neg (by rw [HE.out]; decide)])
    have HI := Lib.hid (timB_no h0)
    clear h0
    go_enter Tryd.func22, Tryd.ntmps22
    go_wp2_with (refine wpList_load_row rfl 54 _ rfl w.heap.size rfl 54 #[.int .i64 a, .int .i64 z] (0, 0) _ hB Tryd.underlying54 rfl (wi_info a z) ?_)
    refine (isTime_c a z _).mono ?_; rintro e w1 ⟨rfl, hG1⟩
    rw [HI.out]
    go_wp2_with fail
    go_ret2
    exact ⟨by rw [HE.out, HN.out]; rfl, hG.trans hG1⟩
theorem tE_zero {a z : Int} (h : tE a z = 0) : 0 ≤ a ∧ a < z ∧ z ≤ 5761439 ∧ z - a ≤ 172800 := by
  unfold tE at h
  split at h
  · split at h
    · omega
    · omega
  · omega
def DofRel (w : World) (a z : Int) (s3 s4 : Value) (wr : World) : Prop :=
  ∃ j : Nat, s3 = .int .i64 j ∧ s4 = .int .i64 (a + 1440 * j) ∧ (j : Int) ≤ (z - a + 1439) / 1440 ∧ Bk wr w.heap.size 54 #[.int .i64 a, .int .i64 z] ∧ G w wr none
end Go.Proofs.YtgddchdpeflmoaaDoor
