/- checkStationAt, IsOpen, NextOpen; OpenAt, NextOpenOf. -/
import Derived.Test.YtgddchdpeflmoaaDoorHrs
namespace Go.Proofs.YtgddchdpeflmoaaDoor
open Go.RowKit

/-- The error of one station and a moment. -/
def atE (r : ByteArray) (h : Nat → Int) (t : Int) : Int := if stErr [(r, h)] = 0 then momE t else stErr [(r, h)]
theorem rd_one {w : World} {b : Nat} (r : ByteArray) (h : Nat → Int) (hb : w.heap.size = b) : Rd (w.alloc (.cells (stC r h) 59)) 15 (.slice (some ⟨b, 0, none⟩) 1 1) [(r, h)].length (stL [(r, h)]) := by
  have := Rd.newAt (w := w) (z := 15) (n := 1) (T := 59) (stC r h) hb rfl (by decide)
  rw [show stL [(r, h)] = (stC r h).toList from by simp [stL]]
  exact this
theorem staErr_le (b : ByteArray) (l : List Sta) : 0 ≤ staErr b l ∧ staErr b l ≤ 10 := by
  induction l generalizing b with
  | nil => simp [staErr]
  | cons p r ih =>
    unfold staErr
    split
    · omega
    · split
      · omega
      · split
        · omega
        · exact ih _
set_option maxRecDepth 100000 in
set_option maxHeartbeats 1000000 in
theorem checkStationAt_c (r : ByteArray) (h : Nat → Int) (t : Int) (w : World) (hr : r.size ≤ 9223372036854775807) (hb : HB h) :
    Calls Tryd.prog 32 #[.agg (stC r h), .int .i64 t] w fun e w' => e = .returned (.int .i64 (atE r h t)) ∧ G w w' none := by
  have hk : KeysOk [(r, h)] := by intro p hp; obtain rfl := List.mem_singleton.1 hp; exact ⟨hr, hb⟩
  have HB1 := Lib.hid ((Bk.new w 59 (stC r h)).at_)
  go_enter Tryd.func32, Tryd.ntmps32
  go_wp2_with (refine wpList_load_at rfl 59 _ rfl ⟨w.heap.size, 0, none⟩ rfl #[.string r, .int .i64 (h 0), .int .i64 (h 1), .int .i64 (h 2), .int .i64 (h 3), .int .i64 (h 4), .int .i64 (h 5), .int .i64 (h 6), .int .i64 (h 7), .int .i64 (h 8), .int .i64 (h 9), .int .i64 (h 10), .int .i64 (h 11), .int .i64 (h 12), .int .i64 (h 13)] _ HB1.out Tryd.underlying59 rfl (st_info _ _) ?_)
  refine (checkStations_c _ [(r, h)] _ (rd_one r h (by simp)) hk (by simp)).mono ?_; rintro e w1 ⟨rfl, hG1⟩
  have hG : G w w1 none := (((G.refl w none).alloc _).alloc _).trans hG1
  clear hG1
  by_cases h0 : stErr [(r, h)] = 0
  · have H : Hid (atE r h t = momE t) := Lib.hid (by simp [atE, h0])
    rw [h0]
    clear h0
    go_wp2_with fail
    refine (checkMoment_c _ _).mono ?_; rintro e w' ⟨rfl, rfl⟩
    go_wp2_with fail
    go_ret
    exact ⟨ret_int H.out.symm, hG⟩
  · have H : Hid (atE r h t = stErr [(r, h)]) := Lib.hid (by simp [atE, h0])
    have h1 : (stErr [(r, h)] != 0) = true := by rw [bne_iff_ne]; exact h0
    clear h0
    go_wp2_with fail
    go_ret
    exact ⟨ret_int H.out.symm, hG⟩

/-- Whether it is open at a moment. -/
def opB (h : Nat → Int) (t : Nat) : Bool := decide (dFrom h (t / 1440) ≤ (t : Int)) && decide ((t : Int) < dTo h (t / 1440))
theorem atE_mom {r : ByteArray} {h : Nat → Int} {t : Int} (h0 : atE r h t = 0) : 0 ≤ t ∧ t < 5761440 ∧ stErr [(r, h)] = 0 := by
  unfold atE at h0
  split at h0
  · rename_i hs
    unfold momE at h0
    split at h0
    · rename_i hm
      simp only [momB, Bool.and_eq_true, decide_eq_true_eq] at hm
      exact ⟨hm.1, hm.2, hs⟩
    · omega
  · exact absurd h0 (by assumption)
theorem okHrs_of {r : ByteArray} {h : Nat → Int} (h0 : stErr [(r, h)] = 0) : okHrs h = true := by
  simp only [stErr, staErr, List.length_singleton, show ¬ 50 < 1 by omega, if_false] at h0
  split at h0
  · omega
  · split at h0
    · omega
    · split at h0
      · omega
      · rename_i hx
        simpa using hx
theorem okDay_of {h : Nat → Int} (hh : okHrs h = true) (d : Nat) : 0 ≤ h (d % 7 * 2) ∧ h (d % 7 * 2) ≤ h (d % 7 * 2 + 1) ∧ h (d % 7 * 2 + 1) ≤ 1440 := by
  have := List.all_eq_true.1 hh (d % 7) (List.mem_range.2 (Nat.mod_lt _ (by omega)))
  simp only [okDay, inB, Bool.and_eq_true, decide_eq_true_eq] at this
  exact ⟨this.1.1, this.1.2, this.2⟩
def isOpenR (r : ByteArray) (h : Nat → Int) (t : Int) : Bool := if atE r h t = 0 then opB h t.toNat else false
set_option maxRecDepth 100000 in
set_option maxHeartbeats 1000000 in
theorem isOpen_c (r : ByteArray) (h : Nat → Int) (t : Int) (w : World) (hr : r.size ≤ 9223372036854775807) (hb : HB h) :
    Calls Tryd.prog 23 #[.agg (stC r h), .int .i64 t] w fun e w' => e = .returned (.tuple #[.bool (isOpenR r h t), .int .i64 (atE r h t)]) ∧ G w w' none := by
  by_cases h0 : atE r h t = 0
  · obtain ⟨t0, t1, _⟩ := atE_mom h0
    obtain ⟨t, rfl⟩ := Int.eq_ofNat_of_zero_le t0
    have H : Hid (isOpenR r h (t : Int) = opB h t) := Lib.hid (by simp [isOpenR, h0])
    have HZ := Lib.hid h0
    have HO : Hid (opB h t = (decide (dFrom h (t / 1440) ≤ (t : Int)) && decide ((t : Int) < dTo h (t / 1440)))) := Lib.hid rfl
    clear h0
    go_enter Tryd.func23, Tryd.ntmps23
    go_wp2_with (refine wpList_load_row rfl 59 _ rfl w.heap.size rfl 59 (stC r h) (0, 0) _ (Bk.new w _ _) Tryd.underlying59 rfl (st_info _ _) ?_)
    refine (checkStationAt_c r h _ _ hr hb).mono ?_; rintro e w1 ⟨rfl, hG1⟩
    rw [HZ.out]
    have hB1 := (Bk.new w 59 (stC r h)).quiet hG1
    have hG : G w w1 none := ((G.refl w none).alloc _).trans hG1
    clear hG1
    go_wp2_with (refine wpList_load_row rfl 59 _ rfl w.heap.size rfl 59 (stC r h) (0, 0) _ hB1 Tryd.underlying59 rfl (st_info _ _) ?_)
    rw [show ((t : Int) / 1440) = ((t / 1440 : Nat) : Int) by omega]
    refine (hoursOn_c r h (t / 1440) _ hb (by omega)).mono ?_; rintro e w2 ⟨rfl, hG2⟩
    have hG3 := hG.trans hG2
    clear hG hG2 hB1
    have HF : Hid (Ending.returned (.tuple #[.bool (isOpenR r h (t : Int)), .int .i64 (atE r h (t : Int))]) = .returned (.tuple #[.bool (decide (dFrom h (t / 1440) ≤ (t : Int)) && decide ((t : Int) < dTo h (t / 1440))), .int .i64 0])) := Lib.hid (by rw [H.out, HO.out, HZ.out])
    clear HO H HZ
    generalize dFrom h (t / 1440) = x at HF ⊢
    generalize dTo h (t / 1440) = z at HF ⊢
    by_cases g1 : x ≤ (t : Int)
    · go_wp2_with fail
      go_ret2
      exact ⟨by rw [HF.out]; simp [g1], hG3.alloc _⟩
    · have HF2 : Hid (Ending.returned (.tuple #[.bool (isOpenR r h (t : Int)), .int .i64 (atE r h (t : Int))]) = .returned (.tuple #[.bool false, .int .i64 0])) := Lib.hid (by rw [HF.out]; simp [g1])
      clear HF
      have g2 : (decide (x ≤ (t : Int))) = false := by simpa using g1
      clear g1
      go_wp2_with fail
      go_ret2
      exact ⟨HF2.out.symm, hG3.alloc _⟩
  · have H : Hid (isOpenR r h t = false) := Lib.hid (by simp [isOpenR, h0])
    have h1 : (atE r h t != 0) = true := by rw [bne_iff_ne]; exact h0
    clear h0
    go_enter Tryd.func23, Tryd.ntmps23
    go_wp2_with (refine wpList_load_row rfl 59 _ rfl w.heap.size rfl 59 (stC r h) (0, 0) _ (Bk.new w _ _) Tryd.underlying59 rfl (st_info _ _) ?_)
    refine (checkStationAt_c r h _ _ hr hb).mono ?_; rintro e w1 ⟨rfl, hG1⟩
    go_wp2_with fail
    go_ret2
    exact ⟨by rw [H.out]; rfl, ((G.refl w none).alloc _).trans hG1⟩
end Go.Proofs.YtgddchdpeflmoaaDoor
