/- Codes: counts, checkBestCode, BestCode. -/
import Derived.Test.YtgofeigebldkiaaDoorCdk
import Derived.Test.YtgofeigebldkiaaDoorTim
namespace Go.Proofs.YtgofeigebldkiaaDoor
open Go.RowKit

/-- That a code counts for a class, on a day, for so many days. -/
def cdCnt (x : Cd) (k : ByteArray) (day n : Int) : Bool := (x.2.1.toList.isEmpty || eqB x.2.1 k) && (decide (x.2.2.1 ≤ day) && (decide (day < x.2.2.2.1) && decide (x.2.2.2.2.1 ≤ n)))
theorem cdWin {w : World} {g : Nat} {a z : Int} (h : Bk w g 29 #[.int .i64 a, .int .i64 z]) : w.cell? ⟨g, 0, none⟩ = some (.int .i64 a) ∧ w.cell? ⟨g, 1, none⟩ = some (.int .i64 z) := ⟨h.cell 0, h.cell 1⟩
set_option maxRecDepth 100000 in
set_option maxHeartbeats 4000000 in
theorem counts_c (x : Cd) (k : ByteArray) (a z : Int) (w : World) (ha : bnd a) (hz : bnd z) (h0 : tE a z = 0) :
    Calls Tryd.prog 74 #[.agg (cdC x), .string k, .agg #[.int .i64 a, .int .i64 z]] w fun e w' => e = .returned (.bool (cdCnt x k (a / 1440) (tN a z))) ∧ G w w' none := by
  obtain ⟨b0, b1, b2, b3⟩ := tE_zero h0
  have hBx := (Bk.new w 116 (cdC x)).alloc (.cells #[.int .i64 a, .int .i64 z] 29)
  have hBw := Bk.newAt (w := w.alloc (.cells (cdC x) 116)) (b := w.heap.size + 1) (by simp) 29 #[.int .i64 a, .int .i64 z]
  have hG := ((G.refl w none).alloc (.cells (cdC x) 116)).alloc (.cells #[.int .i64 a, .int .i64 z] 29)
  clear h0
  go_enter Tryd.func74, Tryd.ntmps74
  go_wp2_with (refine wpList_load_row rfl 29 _ rfl (w.heap.size + 1) rfl 29 #[.int .i64 a, .int .i64 z] (0, 0) _ hBw Tryd.underlying29 rfl (wi_info a z) ?_)
  refine (days_c a z _ ha hz).mono ?_; rintro e w1 ⟨rfl, hG1⟩
  have hB := hBx.quiet hG1
  have hG01 := hG.trans hG1
  clear hBx hBw hG hG1
  have c1 : w1.cell? ⟨w.heap.size, 1, none⟩ = some (.string x.2.1) := hB.cell 1
  have c2 : w1.cell? ⟨w.heap.size, 2, none⟩ = some (.int .i64 x.2.2.1) := hB.cell 2
  have c3 : w1.cell? ⟨w.heap.size, 3, none⟩ = some (.int .i64 x.2.2.2.1) := hB.cell 3
  have c4 : w1.cell? ⟨w.heap.size, 4, none⟩ = some (.int .i64 x.2.2.2.2.1) := hB.cell 4
  obtain ⟨D, hD⟩ : ∃ D, a / 1440 = D := ⟨_, rfl⟩
  obtain ⟨N, hN⟩ : ∃ N, tN a z = N := ⟨_, rfl⟩
  have FIN : Hid (∀ b : Bool, (x.2.1.toList.isEmpty || eqB x.2.1 k) = b → Hid (cdCnt x k (a / 1440) (tN a z) = (b && (decide (x.2.2.1 ≤ D) && (decide (D < x.2.2.2.1) && decide (x.2.2.2.2.1 ≤ N)))))) := Lib.hid fun b hb => Lib.hid (by rw [← hD, ← hN, ← hb]; rfl)
  rw [hD, hN]
  generalize tE a z = E
  clear hB b0 b1 b2 b3 ha hz hD hN
  cases hem : x.2.1.toList.isEmpty with
  | true =>
    have HC := FIN.out true (by rw [hem]; rfl)
    clear FIN
    rcases (show D < x.2.2.1 ∨ (x.2.2.1 ≤ D ∧ x.2.2.2.1 ≤ D) ∨ (x.2.2.1 ≤ D ∧ D < x.2.2.2.1) by omega) with t1 | ⟨t1, t2⟩ | ⟨t1, t2⟩
    · have HF : Hid (cdCnt x k (a / 1440) (tN a z) = false) := Lib.hid (by rw [HC.out, decide_eq_false (show ¬ x.2.2.1 ≤ D by omega)]; rfl)
      have t3 : ¬ x.2.2.1 ≤ D := by omega
      go_wp2_with fail
      go_ret
      exact ⟨ret_bool (by rw [HF.out]), hG01⟩
    · have HF : Hid (cdCnt x k (a / 1440) (tN a z) = false) := Lib.hid (by rw [HC.out, decide_eq_false (show ¬ D < x.2.2.2.1 by omega)]; simp)
      have t3 : ¬ D < x.2.2.2.1 := by omega
      go_wp2_with fail
      go_ret
      exact ⟨ret_bool (by rw [HF.out]), hG01⟩
    · have HF : Hid (cdCnt x k (a / 1440) (tN a z) = decide (x.2.2.2.2.1 ≤ N)) := Lib.hid (by rw [HC.out, decide_eq_true t1, decide_eq_true t2]; rfl)
      go_wp2_with fail
      go_ret
      exact ⟨ret_bool (by rw [HF.out]), hG01⟩
  | false =>
    have HEM := Lib.hid hem
    cases heq : eqB x.2.1 k with
    | true =>
      have HC := FIN.out true (by rw [HEM.out, heq]; rfl)
      unfold eqB at heq
      clear FIN
      rcases (show D < x.2.2.1 ∨ (x.2.2.1 ≤ D ∧ x.2.2.2.1 ≤ D) ∨ (x.2.2.1 ≤ D ∧ D < x.2.2.2.1) by omega) with t1 | ⟨t1, t2⟩ | ⟨t1, t2⟩
      · have HF : Hid (cdCnt x k (a / 1440) (tN a z) = false) := Lib.hid (by rw [HC.out, decide_eq_false (show ¬ x.2.2.1 ≤ D by omega)]; rfl)
        have t3 : ¬ x.2.2.1 ≤ D := by omega
        go_wp2_with fail
        go_ret
        exact ⟨ret_bool (by rw [HF.out]), hG01⟩
      · have HF : Hid (cdCnt x k (a / 1440) (tN a z) = false) := Lib.hid (by rw [HC.out, decide_eq_false (show ¬ D < x.2.2.2.1 by omega)]; simp)
        have t3 : ¬ D < x.2.2.2.1 := by omega
        go_wp2_with fail
        go_ret
        exact ⟨ret_bool (by rw [HF.out]), hG01⟩
      · have HF : Hid (cdCnt x k (a / 1440) (tN a z) = decide (x.2.2.2.2.1 ≤ N)) := Lib.hid (by rw [HC.out, decide_eq_true t1, decide_eq_true t2]; rfl)
        go_wp2_with fail
        go_ret
        exact ⟨ret_bool (by rw [HF.out]), hG01⟩
    | false =>
      have HC := FIN.out false (by rw [HEM.out, heq]; rfl)
      unfold eqB at heq
      clear FIN
      go_wp2_with fail
      go_ret
      exact ⟨ret_bool (by rw [HC.out]; rfl), hG01⟩
end Go.Proofs.YtgofeigebldkiaaDoor
