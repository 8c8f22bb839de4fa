/- The law's own 'lots': the functions of package lot at one small fleet and one event. -/
import Derived.Test.YtjjgohainbjecaaDoorVeh
import Derived.Handy
import Derived.BigQuiet
namespace Go.Proofs.YtjjgohainbjecaaDoor
open Go.RowKit

set_option maxRecDepth 100000 in
set_option maxHeartbeats 2000000 in
/-- No plates. -/
theorem checkPlates0_c (v0 v1 v2 : Value) (w : World) : Calls Tryd.prog 64 #[.agg #[v0, v1, v2, .slice none 0 0]] w fun e w' => e = .returned (.int .i64 0) ∧ G w w' none := by
  have hmm := @run_makeMap Tryd.prog
  have hf3 := (Bk.new w 73 #[v0, v1, v2, .slice none 0 0]).cell 3
  rw [show (#[v0, v1, v2, .slice none 0 0] : Array Value)[3]? = some (.slice none 0 0) from rfl] at hf3
  go_enter Tryd.func64, Tryd.ntmps64
  go_wp2_with fail
  refine wp_loop_rounds 1 ?_
  rw [rounds_succ]
  go_wp2_with fail
  go_ret
  exact ⟨rfl, (((G.refl _ _).alloc _).alloc _).alloc _⟩

def sS : ByteArray := ⟨#[115]⟩
def sC : ByteArray := ⟨#[99]⟩
def sV : ByteArray := ⟨#[118]⟩
def ls1 : List Sta := [(sS, fun _ => 0)]
def lc1 : List Cla := [(sC, eS)]
def lv1 : List Veh := [(sV, sC)]
theorem st1 : stErr ls1 = 0 := by decide +kernel
theorem ck1 : ckErr ⟨#[]⟩ lc1 = 0 := by decide +kernel
theorem vh1 : vhE (lc1.map (·.1)) lv1 = 0 := by decide +kernel
theorem cl1 : clErr lc1 = 0 := by
  unfold clErr
  rw [if_neg (by decide), if_pos ck1]
  unfold clTail
  rw [if_neg (by decide +kernel), if_neg (by
    have h : upC 0 eF lc1 = 1 := by rfl
    rw [h]
    decide +kernel)]
theorem small_of {s : ByteArray} (h : s.size ≤ 100) : Small s := by unfold Small; omega
theorem lc1_ok : ClsOk lc1 := by intro p hp; obtain rfl := List.mem_singleton.1 hp; exact ⟨small_of (by decide), small_of (by decide)⟩
theorem lv1_ok : ClsOk lv1 := by intro p hp; obtain rfl := List.mem_singleton.1 hp; exact ⟨small_of (by decide), small_of (by decide)⟩
theorem ls1_ok : KeysOk ls1 := by intro p hp; obtain rfl := List.mem_singleton.1 hp; exact ⟨by show (1 : Nat) ≤ _; omega, HB.zero⟩
/-- The one small fleet. -/
def Fl1 (w : World) (v0 v1 v2 : Value) : Prop := Rd w 15 v0 1 (stL ls1) ∧ Rd w 2 v1 1 (clL lc1) ∧ Rd w 2 v2 1 (clL lv1)
theorem Fl1.quiet {w w' : World} {v0 v1 v2 : Value} (h : Fl1 w v0 v1 v2) (hg : G w w' none) : Fl1 w' v0 v1 v2 := ⟨h.1.quiet hg, h.2.1.quiet hg, h.2.2.quiet hg⟩
theorem checkFleet1_c (v0 v1 v2 : Value) (w : World) (h : Fl1 w v0 v1 v2) : Calls Tryd.prog 52 #[.agg #[v0, v1, v2, .slice none 0 0]] w fun e w' => e = .returned (.int .i64 0) ∧ G w w' none := by
  have he : flE ls1 lc1 lv1 0 = 0 := by unfold flE; rw [if_pos st1, if_pos cl1, if_pos vh1]
  have := checkFleet_c v0 v1 v2 (.slice none 0 0) ls1 lc1 lv1 0 w h.1 ls1_ok (by decide) h.2.1 lc1_ok (by decide) h.2.2 lv1_ok (by decide) (fun _ _ _ w1 _ => checkPlates0_c v0 v1 v2 w1)
  rw [he] at this
  exact this
theorem hasV1_c (v0 v1 v2 v3 : Value) (w : World) (h : Fl1 w v0 v1 v2) : Calls Tryd.prog 42 #[.agg #[v0, v1, v2, v3], .string ⟨#[118]⟩] w fun e w' => e = .returned (.bool true) ∧ G w w' none :=
  by
  have hk : hasK (lv1.map (·.1)) sV = true := by decide +kernel
  have := hasVehicle_c v0 v1 v2 v3 lv1 sV w h.2.2 (by decide) (by simp [lv1, Rise])
  rw [hk] at this
  exact this
theorem hasS1_c (v0 v1 v2 v3 : Value) (w : World) (h : Fl1 w v0 v1 v2) : Calls Tryd.prog 65 #[.agg #[v0, v1, v2, v3], .string ⟨#[115]⟩] w fun e w' => e = .returned (.bool true) ∧ G w w' none :=
  by
  have hk : hasK (ls1.map (·.1)) sS = true := by decide +kernel
  have := hasStation_c v0 v1 v2 v3 ls1 sS w h.1 (by decide) (by simp [ls1, Rise])
  rw [hk] at this
  exact this

/-- The one event. -/
def ev1 : Array Value := #[.int .i64 5, .string ⟨#[118]⟩, .string ⟨#[115]⟩, .int .i64 1, .string ⟨#[]⟩]
theorem ev_info : (Tryd.prog.info? 79).map (·.size) = some (#[.int .i64 5, .string ⟨#[118]⟩, .string ⟨#[115]⟩, .int .i64 1, .string ⟨#[]⟩] : Array Value).size := by kernel_rfl
set_option maxRecDepth 100000 in
set_option maxHeartbeats 2000000 in
theorem checkEvent1_c (v0 v1 v2 : Value) (w : World) (h : Fl1 w v0 v1 v2) : Calls Tryd.prog 53 #[.agg #[v0, v1, v2, .slice none 0 0], .agg #[.int .i64 5, .string ⟨#[118]⟩, .string ⟨#[115]⟩, .int .i64 1, .string ⟨#[]⟩]] w fun e w' => e = .returned (.int .i64 0) ∧ G w w' none := by
  have H := Lib.hid (fun w' hg => hasV1_c v0 v1 v2 (.slice none 0 0) w' (h.quiet hg))
  have H2 := Lib.hid (fun w' hg => hasS1_c v0 v1 v2 (.slice none 0 0) w' (h.quiet hg))
  clear h
  have hF0 := (Bk.new w 73 #[v0, v1, v2, .slice none 0 0]).alloc (.cells #[.int .i64 5, .string ⟨#[118]⟩, .string ⟨#[115]⟩, .int .i64 1, .string ⟨#[]⟩] 79)
  have hE0 := Bk.newAt (w := w.alloc (.cells #[v0, v1, v2, .slice none 0 0] 73)) (b := w.heap.size + 1) (by simp) 79 #[.int .i64 5, .string ⟨#[118]⟩, .string ⟨#[115]⟩, .int .i64 1, .string ⟨#[]⟩]
  have hG0 : G w ((w.alloc (.cells #[v0, v1, v2, .slice none 0 0] 73)).alloc (.cells #[.int .i64 5, .string ⟨#[118]⟩, .string ⟨#[115]⟩, .int .i64 1, .string ⟨#[]⟩] 79)) none := ((G.refl _ _).alloc _).alloc _
  have hmo : Hid (momB 5 = true) := Lib.hid (by decide)
  go_enter Tryd.func53, Tryd.ntmps53
  go_wp2_with fail
  refine (isMoment_c _ _).mono ?_; rintro e w' ⟨rfl, rfl⟩
  rw [hmo.out]
  go_wp2_with (refine wpList_load_row rfl 73 _ rfl w.heap.size rfl 73 #[v0, v1, v2, .slice none 0 0] (0, 0) _ hF0 Tryd.underlying73 rfl (fl_info _ _ _ _) ?_)
  refine (H.out _ hG0).mono ?_; rintro e w1 ⟨rfl, hG1⟩
  have hF1 := hF0.quiet hG1
  have hE1 := hE0.quiet hG1
  have hG01 := hG0.trans hG1
  clear hG0 hG1 hF0 hE0
  have c2 : w1.cell? ⟨w.heap.size + 1, 2, none⟩ = some (.string ⟨#[115]⟩) := hE1.cell 2
  have HA := Lib.hid (hF1.at_)
  go_wp2_with (refine wpList_load_at_g rfl 73 _ rfl ⟨w.heap.size, 0, none⟩ rfl #[v0, v1, v2, .slice none 0 0] _ HA.out Tryd.underlying73 rfl (fl_info _ _ _ _) ?_)
  refine (H2.out _ hG01).mono ?_; rintro e w2 ⟨rfl, hG2⟩
  have hE2 := hE1.quiet hG2
  have hG02 := hG01.trans hG2
  clear hG01 hG2 hF1 hE1 c2
  have c2 : w2.cell? ⟨w.heap.size + 1, 2, none⟩ = some (.string ⟨#[115]⟩) := hE2.cell 2
  have c3 : w2.cell? ⟨w.heap.size + 1, 3, none⟩ = some (.int .i64 1) := hE2.cell 3
  have c4 : w2.cell? ⟨w.heap.size + 1, 4, none⟩ = some (.string ⟨#[]⟩) := hE2.cell 4
  go_wp2_with fail
  go_ret
  exact ⟨rfl, hG02⟩

/-! ### Check, checkVehicle at the one event -/
def Ev1 (w : World) (g : Nat) : Prop := Bk w g 79 #[.int .i64 5, .string ⟨#[118]⟩, .string ⟨#[115]⟩, .int .i64 1, .string ⟨#[]⟩]
set_option maxRecDepth 100000 in
set_option maxHeartbeats 2000000 in
theorem check1_c (v0 v1 v2 : Value) (g : Nat) (w : World) (h : Fl1 w v0 v1 v2) (he : Ev1 w g) : Calls Tryd.prog 41 #[.agg #[v0, v1, v2, .slice none 0 0], .slice (some ⟨g, 0, none⟩) 1 1] w fun e w' => e = .returned (.int .i64 0) ∧ G w w' none := by
  have hF0 := (Bk.new w 73 #[v0, v1, v2, .slice none 0 0])
  have hG0 : G w (w.alloc (.cells #[v0, v1, v2, .slice none 0 0] 73)) none := (G.refl _ _).alloc _
  have hgl := Bk.lt he
  go_enter Tryd.func41, Tryd.ntmps41
  go_wp2_with (refine wpList_load_row rfl 73 _ rfl w.heap.size rfl 73 #[v0, v1, v2, .slice none 0 0] (0, 0) _ hF0 Tryd.underlying73 rfl (fl_info _ _ _ _) ?_)
  refine (checkFleet1_c v0 v1 v2 _ (h.quiet hG0)).mono ?_; rintro e w1 ⟨rfl, hG1⟩
  have hF1 := hF0.quiet hG1
  have hG01 := hG0.trans hG1
  have he1 : Ev1 w1 g := Bk.quiet he hG01
  clear hG0 hG1 hF0
  go_wp2_with fail
  refine wp_loop_rounds 2 ?_
  rw [rounds_succ]
  have HA := Lib.hid (Bk.at_ he1)
  have hF1' := hF1.alloc (.cells #[.int .i64 5, .string ⟨#[118]⟩, .string ⟨#[115]⟩, .int .i64 1, .string ⟨#[]⟩] 79)
  have hE1' := Bk.new w1 79 #[.int .i64 5, .string ⟨#[118]⟩, .string ⟨#[115]⟩, .int .i64 1, .string ⟨#[]⟩]
  have hG1' := hG01.alloc (.cells #[.int .i64 5, .string ⟨#[118]⟩, .string ⟨#[115]⟩, .int .i64 1, .string ⟨#[]⟩] 79)
  clear hG01 he1 hF1
  go_wp2_with (first | (refine wpList_load_at rfl 79 _ rfl ⟨g, 0, none⟩ rfl #[.int .i64 5, .string ⟨#[118]⟩, .string ⟨#[115]⟩, .int .i64 1, .string ⟨#[]⟩] _ HA.out Tryd.underlying79 rfl ev_info ?_) | (refine wpList_load_row rfl 73 _ rfl w.heap.size rfl 73 #[v0, v1, v2, .slice none 0 0] (0, 0) _ hF1' Tryd.underlying73 rfl (fl_info _ _ _ _) ?_) | (refine wpList_load_row rfl 79 _ rfl w1.heap.size rfl 79 #[.int .i64 5, .string ⟨#[118]⟩, .string ⟨#[115]⟩, .int .i64 1, .string ⟨#[]⟩] (0, 0) _ hE1' Tryd.underlying79 rfl ev_info ?_))
  refine (checkEvent1_c v0 v1 v2 _ (h.quiet hG1')).mono ?_; rintro e w2 ⟨rfl, hG2⟩
  have hG02 := hG1'.trans hG2
  clear hG1' hG2 hF1' hE1'
  go_wp2_with fail
  go_quiet (fail)
  go_wp2_with fail
  rw [rounds_succ]
  go_wp2_with fail
  go_ret
  exact ⟨rfl, hG02.drewN _⟩
end Go.Proofs.YtjjgohainbjecaaDoor
