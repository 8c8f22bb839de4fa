/- Tim, Hir, Hik, Hif, His, Chg, Kpt, Hxs, Gld, Las, Reg, Mee, Kla, Soi, Spc, Pck, Pla. -/
import Derived.Test.YtndeidcddlmhbaaDoorZw1
import Derived.Laws.StructEq
import Derived.Deep.CutRange
import Derived.Deep.RegionHeld3
import Derived.Deep.MidRow
import Derived.Laws.ResultCell
import Derived.RegionTactic
import Derived.Deep.LoopGhost
import Derived.StillTailTactics
import Derived.LoopN
/- The time of a hire: Days, begun, TimeFault, DaysOf. -/
namespace Go.Proofs.YtndeidcddlmhbaaDoor
open Go.RowKit

def tE (a z : Int) : Int := if 0 ≤ a ∧ a < z ∧ z ≤ 5761439 then (if 172800 < z - a then 2 else 0) else 1
def tN (a z : Int) : Int := if tE a z = 0 then (z - a + 1439) / 1440 else 0
set_option maxRecDepth 100000 in
theorem begun_c (m : Int) (w : World) (h0 : 0 ≤ m) (h1 : m ≤ 5761439) : Calls Tryd.prog 100 #[.int .i64 m, .int .i64 1440] w fun e w' => e = .returned (.int .i64 ((m + 1439) / 1440)) ∧ w = w' := by
  have HF : Hid ((m + 1440 - 1) / 1440 = (m + 1439) / 1440) := Lib.hid (by omega)
  go_enter Tryd.func100, Tryd.ntmps100
  go_wp2_with fail
  go_ret
  exact ⟨ret_int HF.out, rfl⟩
set_option maxRecDepth 100000 in
set_option maxHeartbeats 2000000 in
theorem days_c (a z : Int) (w : World) (ha : bnd a) (hz : bnd z) : Calls Tryd.prog 44 #[.agg #[.int .i64 a, .int .i64 z]] w fun e w' => e = .returned (.tuple #[.int .i64 (tN a z), .int .i64 (tE a z)]) ∧ G w w' none := by
  unfold bnd at ha hz
  have hG : G w (w.alloc (.cells #[.int .i64 a, .int .i64 z] 29)) none := (G.refl w none).alloc _
  have hB := Bk.new w 29 #[.int .i64 a, .int .i64 z]
  by_cases h0 : 0 ≤ a ∧ a < z ∧ z < 5761440
  · obtain ⟨h1, h2, h3⟩ := h0
    have HI := Lib.hid (timB_yes ⟨h1, h2, h3⟩)
    have HT : Hid (tE a z = if 172800 < z - a then 2 else 0) := Lib.hid (by rw [tE, if_pos ⟨h1, h2, by omega⟩])
    have HD : Hid (tE a z = 0 → tN a z = (z - a + 1439) / 1440) := Lib.hid fun h => by rw [tN, if_pos h]
    have HD2 : Hid (tE a z ≠ 0 → tN a z = 0) := Lib.hid fun h => by rw [tN, if_neg h]
    go_enter Tryd.func44, Tryd.ntmps44
    go_wp2_with (refine wpList_load_row rfl 29 _ rfl w.heap.size rfl 29 #[.int .i64 a, .int .i64 z] (0, 0) _ hB Tryd.underlying29 rfl (wi_info a z) ?_)
    refine (isTime_c a z _).mono ?_; rintro e w1 ⟨rfl, hG1⟩
    rw [HI.out]
    have hB1 := hB.quiet hG1
    have hG01 := hG.trans hG1
    have c0 : w1.cell? ⟨w.heap.size, 0, none⟩ = some (.int .i64 a) := hB1.cell 0
    have c1 : w1.cell? ⟨w.heap.size, 1, none⟩ = some (.int .i64 z) := hB1.cell 1
    clear hB hG hG1
    rcases (show 172800 < z - a ∨ z - a ≤ 172800 by omega) with h4 | h4
    · have HE : Hid (tE a z = 2) := Lib.hid (by rw [HT.out, if_pos h4])
      have HN : Hid (tN a z = 0) := Lib.hid (HD2.out (by rw [HE.out]; decide))
      have h5 : 120 < (z - a + 1439) / 1440 := by omega
      go_wp2_with fail
      refine (begun_c _ _ (by omega) (by omega)).mono ?_; rintro e w' ⟨rfl, rfl⟩
      generalize (z - a + 1439) / 1440 = N at h5 ⊢
      go_wp2_with fail
      go_ret2
      exact ⟨by rw [HE.out, HN.out]; rfl, hG01⟩
    · have HE : Hid (tE a z = 0) := Lib.hid (by rw [HT.out, if_neg (by omega)])
      have HN : Hid (tN a z = (z - a + 1439) / 1440) := Lib.hid (HD.out HE.out)
      have h5 : (z - a + 1439) / 1440 ≤ 120 := by omega
      go_wp2_with fail
      refine (begun_c _ _ (by omega) (by omega)).mono ?_; rintro e w' ⟨rfl, rfl⟩
      generalize (z - a + 1439) / 1440 = N at h5 HN ⊢
      go_wp2_with fail
      go_ret2
      exact ⟨by rw [HE.out, HN.out]; rfl, hG01⟩
  · have HE : Hid (tE a z = 1) := Lib.hid (by rw [tE, if_neg (by omega)])
    have HN : Hid (tN a z = 0) := Lib.hid (by rw [tN, if_neg (by rw [HE.out]; decide)])
    have HI := Lib.hid (timB_no h0)
    clear h0
    go_enter Tryd.func44, Tryd.ntmps44
    go_wp2_with (refine wpList_load_row rfl 29 _ rfl w.heap.size rfl 29 #[.int .i64 a, .int .i64 z] (0, 0) _ hB Tryd.underlying29 rfl (wi_info a z) ?_)
    refine (isTime_c a z _).mono ?_; rintro e w1 ⟨rfl, hG1⟩
    rw [HI.out]
    go_wp2_with fail
    go_ret2
    exact ⟨by rw [HE.out, HN.out]; rfl, hG.trans hG1⟩
set_option maxRecDepth 100000 in
set_option maxHeartbeats 2000000 in
theorem timeFault_c (a z : Int) (w : World) (ha : bnd a) (hz : bnd z) : Calls Tryd.prog 41 #[.agg #[.int .i64 a, .int .i64 z]] w fun e w' => e = .returned (.int .i64 (tE a z)) ∧ G w w' none := by
  unfold bnd at ha hz
  have hG : G w (w.alloc (.cells #[.int .i64 a, .int .i64 z] 29)) none := (G.refl w none).alloc _
  rcases (show a < 0 ∨ (0 ≤ a ∧ z ≤ a) ∨ (0 ≤ a ∧ a < z ∧ 5761439 < z) ∨ (0 ≤ a ∧ a < z ∧ z ≤ 5761439) by omega) with h1 | ⟨h1, h2⟩ | ⟨h1, h2, h3⟩ | ⟨h1, h2, h3⟩
  · have HE : Hid (tE a z = 1) := Lib.hid (by rw [tE, if_neg (by omega)])
    go_enter Tryd.func41, Tryd.ntmps41
    go_wp2_with fail
    go_ret
    exact ⟨by rw [HE.out]; rfl, hG⟩
  · have HE : Hid (tE a z = 1) := Lib.hid (by rw [tE, if_neg (by omega)])
    go_enter Tryd.func41, Tryd.ntmps41
    go_wp2_with fail
    go_ret
    exact ⟨by rw [HE.out]; rfl, hG⟩
  · have HE : Hid (tE a z = 1) := Lib.hid (by rw [tE, if_neg (by omega)])
    go_enter Tryd.func41, Tryd.ntmps41
    go_wp2_with fail
    go_ret
    exact ⟨by rw [HE.out]; rfl, hG⟩
  · have HT : Hid (tE a z = if 172800 < z - a then 2 else 0) := Lib.hid (by rw [tE, if_pos ⟨h1, h2, h3⟩])
    rcases (show 172800 < z - a ∨ z - a ≤ 172800 by omega) with h4 | h4
    · have HE : Hid (tE a z = 2) := Lib.hid (by rw [HT.out, if_pos h4])
      go_enter Tryd.func41, Tryd.ntmps41
      go_wp2_with fail
      go_ret
      exact ⟨by rw [HE.out]; rfl, hG⟩
    · have HE : Hid (tE a z = 0) := Lib.hid (by rw [HT.out, if_neg (by omega)])
      go_enter Tryd.func41, Tryd.ntmps41
      go_wp2_with fail
      go_ret
      exact ⟨by rw [HE.out]; rfl, hG⟩
theorem tE_zero {a z : Int} (h : tE a z = 0) : 0 ≤ a ∧ a < z ∧ z ≤ 5761439 ∧ z - a ≤ 172800 := by
  unfold tE at h
  split at h
  · split at h
    · omega
    · omega
  · omega
def DofRel (w : World) (a z : Int) (s3 s4 : Value) (wr : World) : Prop :=
  ∃ j : Nat, s3 = .int .i64 j ∧ s4 = .int .i64 (a + 1440 * j) ∧ (j : Int) ≤ (z - a + 1439) / 1440 ∧ Bk wr w.heap.size 29 #[.int .i64 a, .int .i64 z] ∧ G w wr none
set_option maxRecDepth 100000 in
set_option maxHeartbeats 2000000 in
theorem daysOf_c (a z : Int) (w : World) (h : tE a z = 0) : Calls Tryd.prog 48 #[.agg #[.int .i64 a, .int .i64 z]] w fun e w' => e = .returned (.int .i64 (tN a z)) ∧ G w w' none := by
  have HN : Hid (tN a z = (z - a + 1439) / 1440) := Lib.hid (by rw [tN, if_pos h])
  obtain ⟨h1, h2, h3, h4⟩ := tE_zero h
  clear h
  go_enter Tryd.func48, Tryd.ntmps48
  go_wp2_with fail
  go_loopw [3, 4] (DofRel w a z) (fun s _ _ => ((z - a + 1439) / 1440).toNat - (intOf s).toNat)
  case atStart => exact ⟨0, rfl, by go_num, by omega, Bk.new w _ _, (G.refl _ _).alloc _⟩
  case round =>
    obtain ⟨j, rfl, rfl, hj, hB, hG⟩ := hrel
    have c0 : wr.cell? ⟨w.heap.size, 0, none⟩ = some (.int .i64 a) := hB.cell 0
    have c1 : wr.cell? ⟨w.heap.size, 1, none⟩ = some (.int .i64 z) := hB.cell 1
    by_cases hlt : a + 1440 * (j : Int) < z
    · go_wp2_with fail
      go_roundw
      case rel => exact ⟨j + 1, by go_num, by go_num, by omega, hB, hG⟩
      case measure => simp [intOf]; omega
    · have hjn : (j : Int) = (z - a + 1439) / 1440 := by omega
      go_wp2_with fail
      go_ret
      exact ⟨by rw [HN.out, ← hjn]; rfl, hG⟩
end Go.Proofs.YtndeidcddlmhbaaDoor

/- Hires: readings, legs; checkReading, checkBegin, isOut, checkEnd. -/
namespace Go.Proofs.YtndeidcddlmhbaaDoor
open Go.RowKit

/-- A reading: at, station, meter, fuel. -/
abbrev Rg := Int × ByteArray × Int × Int
def rgC (x : Rg) : Array Value := #[.int .i64 x.1, .string x.2.1, .int .i64 x.2.2.1, .int .i64 x.2.2.2]
theorem rg_info (x : Rg) : (Tryd.prog.info? 51).map (·.size) = some (rgC x).size := (by kernel_rfl : (Tryd.prog.info? 51).map (·.size) = some 4)
def rgE (x : Rg) : Int := if momB x.1 = false then 1 else if keyB x.2.1 = false then 5 else if inB x.2.2.1 0 999999 = false then 1 else if inB x.2.2.2 0 8 = false then 1 else 0
/-- A leg: vehicle, out, in. -/
abbrev Lg := ByteArray × Rg × Rg
def lgC (x : Lg) : Array Value := #[.string x.1, .int .i64 x.2.1.1, .string x.2.1.2.1, .int .i64 x.2.1.2.2.1, .int .i64 x.2.1.2.2.2, .int .i64 x.2.2.1, .string x.2.2.2.1, .int .i64 x.2.2.2.2.1, .int .i64 x.2.2.2.2.2]
theorem lgC_sz (x : Lg) : (lgC x).size = 9 := rfl
theorem lg_info (x : Lg) : (Tryd.prog.info? 137).map (·.size) = some (lgC x).size := (by kernel_rfl : (Tryd.prog.info? 137).map (·.size) = some 9)
def lgB (x : Lg) : Prop := Small x.1 ∧ Small x.2.1.2.1 ∧ Small x.2.2.2.1
def LgOk (l : List Lg) : Prop := ∀ x ∈ l, lgB x
/-- A hire's head: key, driver, from, to; the cells of a hire. -/
abbrev Hh := ByteArray × ByteArray × Int × Int
def hiC (h : Hh) (v : Value) : Array Value := #[.string h.1, .string h.2.1, .int .i64 h.2.2.1, .int .i64 h.2.2.2, v]
theorem hi_info (h : Hh) (v : Value) : (Tryd.prog.info? 55).map (·.size) = some (hiC h v).size := (by kernel_rfl : (Tryd.prog.info? 55).map (·.size) = some 5)
def noIn : Rg := (-1, ⟨#[]⟩, 0, 0)
def beE (f : Int) (b : Option Lg) (x : Lg) : Int := match b with
  | none => if x.2.1.1 = f then 0 else 7
  | some y => if x.2.1.1 = y.2.2.1 then (if x.1 = y.1 then 16 else if x.2.1.2.1 = y.2.2.2.1 then 0 else 8) else 7
def enE (last : Bool) (x : Lg) : Int := if x.2.2.1 = -1 then (if x.2.2 = noIn then (if last = true then 0 else 11) else 3) else if rgE x.2.2 = 0 then (if x.2.2.1 ≤ x.2.1.1 then 7 else 0) else rgE x.2.2
def lgE (f : Int) (b : Option Lg) (last : Bool) (x : Lg) : Int := if keyB x.1 = false then 5 else if rgE x.2.1 = 0 then (if beE f b x = 0 then enE last x else beE f b x) else rgE x.2.1
def lsE (f : Int) : Option Lg → List Lg → Int
  | _, [] => 0
  | b, x :: r => if lgE f b r.isEmpty x = 0 then lsE f (some x) r else lgE f b r.isEmpty x
def hiE (h : Hh) (l : List Lg) : Int := if keyB h.1 = false then 5 else if keyB h.2.1 = false then 5 else if tE h.2.2.1 h.2.2.2 = 0 then (if l.length = 0 then 3 else if 20 < l.length then 2 else lsE h.2.2.1 none l) else tE h.2.2.1 h.2.2.2
theorem Bk.part {w : World} {g : Nat} {T : TypeId} {cs : Array Value} (h : Bk w g T cs) (k : Nat) (ds : Array Value) (hd : ∀ j u, ds.toList[j]? = some u → cs[k + j]? = some u) : ∀ j u, ds.toList[j]? = some u → w.cell? ((⟨g, k, none⟩ : Addr).add j) = some u := fun j u hu => by
  rw [add_at, h.cell]
  exact hd j u hu
theorem lg_out (x : Lg) : ∀ j u, (#[.int .i64 x.2.1.1, .string x.2.1.2.1, .int .i64 x.2.1.2.2.1, .int .i64 x.2.1.2.2.2] : Array Value).toList[j]? = some u → (lgC x)[1 + j]? = some u := fun j u hu => by
  match j, hu with
  | 0, hu => exact hu
  | 1, hu => exact hu
  | 2, hu => exact hu
  | 3, hu => exact hu
  | n + 4, hu => simp at hu
theorem lg_in (x : Lg) : ∀ j u, (#[.int .i64 x.2.2.1, .string x.2.2.2.1, .int .i64 x.2.2.2.2.1, .int .i64 x.2.2.2.2.2] : Array Value).toList[j]? = some u → (lgC x)[5 + j]? = some u := fun j u hu => by
  match j, hu with
  | 0, hu => exact hu
  | 1, hu => exact hu
  | 2, hu => exact hu
  | 3, hu => exact hu
  | n + 4, hu => simp at hu
theorem lgRow {W w : World} {bb bo n cap : Nat} {l : List Lg} (h : RdR W 9 lgC (.slice (some ⟨bb, bo, none⟩) n cap) l) (hG : G W w none) {k : Nat} {p : Lg} (hp : l[k]? = some p) :
    ∀ j v, (lgC p).toList[j]? = some v → w.cell? ((⟨bb, bo + k * 9, none⟩ : Addr).add j) = some v := fun j v hv => by
  rw [add_at]
  exact RdR.cell lgC_sz h hG hp j v hv
theorem drop_empty {α : Type} (l : List α) (k : Nat) : (l.drop k).isEmpty = decide (l.length ≤ k) := by
  by_cases h : l.length ≤ k
  · rw [List.drop_eq_nil_of_le h, decide_eq_true h]; rfl
  · rw [decide_eq_false h]
    cases hd : l.drop k with
    | nil => have := List.drop_eq_nil_iff.1 hd; omega
    | cons _ _ => rfl
theorem toList_ext {a b : ByteArray} (h : a.toList = b.toList) : a = b := by
  rw [ByteArray.toList_eq, ByteArray.toList_eq] at h
  exact ByteArray.ext (Array.toList_inj.1 h)
theorem rg_neq (x y : Rg) (w : World) : (binOp .neq 51 (.agg #[.int .i64 x.1, .string x.2.1, .int .i64 x.2.2.1, .int .i64 x.2.2.2]) (.agg #[.int .i64 y.1, .string y.2.1, .int .i64 y.2.2.1, .int .i64 y.2.2.2])).run Tryd.prog w = .ok (.bool (!(decide (x = y)))) w := by
  obtain ⟨a, b, c, d⟩ := x
  obtain ⟨e, f, g, h⟩ := y
  have ht : Tryd.prog.underlying 51 = some (.struct (Tryd.prog.fieldsOf 51)) := by kernel_rfl
  have hp : Tryd.prog.stoodInHeld 51 = false := by kernel_rfl
  rw [run_neq_struct, run_equalIn_agg w 9999 51 _ _ ht hp]
  simp [Tryd.underlying51, Tryd.underlying3, Tryd.underlying9, go_sem]
  by_cases h1 : a = e
  · by_cases h2 : b = f
    · subst h2
      by_cases h3 : c = g <;> by_cases h4 : d = h <;> simp [h1, h3, h4]
    · have h2' : ¬ b.toList = f.toList := fun e => h2 (toList_ext e)
      simp [h1, h2, h2']
  · simp [h1]
set_option maxRecDepth 100000 in
set_option maxHeartbeats 2000000 in
theorem checkReading_c (x : Rg) (w : World) (hs : Small x.2.1) :
    Calls Tryd.prog 186 #[.agg (rgC x)] w fun e w' => e = .returned (.int .i64 (rgE x)) ∧ G w w' none := by
  have hG1 := (G.refl w none).alloc (.cells (rgC x) 51)
  unfold Small at hs
  obtain ⟨t, s, m, f⟩ := x
  simp only [rgC] at hG1 hs ⊢
  have HE : Hid (rgE (t, s, m, f) = if momB t = false then 1 else if keyB s = false then 5 else if inB m 0 999999 = false then 1 else if inB f 0 8 = false then 1 else 0) := Lib.hid rfl
  generalize rgE (t, s, m, f) = R at HE ⊢
  go_enter Tryd.func186, Tryd.ntmps186
  go_wp2_with fail
  refine (isMoment_c t _).mono ?_; rintro e w1 ⟨rfl, rfl⟩
  cases k1 : momB t with
  | false =>
    have HF : Hid (R = 1) := Lib.hid (by rw [HE.out, if_pos k1])
    clear k1
    go_wp2_with fail
    go_ret
    exact ⟨ret_int HF.out.symm, hG1⟩
  | true =>
    have HE : Hid (R = if keyB s = false then 5 else if inB m 0 999999 = false then 1 else if inB f 0 8 = false then 1 else 0) := Lib.hid (by rw [HE.out, if_neg (by simp [k1])])
    clear k1
    go_wp2_with fail
    refine (isKey_c s _ hs).mono ?_; rintro e w1 ⟨rfl, rfl⟩
    cases k2 : keyB s with
    | false =>
      have HF : Hid (R = 5) := Lib.hid (by rw [HE.out, if_pos k2])
      clear k2
      go_wp2_with fail
      go_ret
      exact ⟨ret_int HF.out.symm, hG1⟩
    | true =>
      have HE : Hid (R = if inB m 0 999999 = false then 1 else if inB f 0 8 = false then 1 else 0) := Lib.hid (by rw [HE.out, if_neg (by simp [k2])])
      clear k2
      go_wp2_with fail
      refine (within_c m 0 999999 _).mono ?_; rintro e w1 ⟨rfl, rfl⟩
      cases k3 : inB m 0 999999 with
      | false =>
        have HF : Hid (R = 1) := Lib.hid (by rw [HE.out, if_pos k3])
        clear k3
        go_wp2_with fail
        go_ret
        exact ⟨ret_int HF.out.symm, hG1⟩
      | true =>
        have HE : Hid (R = if inB f 0 8 = false then 1 else 0) := Lib.hid (by rw [HE.out, if_neg (by simp [k3])])
        clear k3
        go_wp2_with fail
        refine (within_c f 0 8 _).mono ?_; rintro e w1 ⟨rfl, rfl⟩
        cases k4 : inB f 0 8 with
        | false =>
          have HF : Hid (R = 1) := Lib.hid (by rw [HE.out, if_pos k4])
          clear k4
          go_wp2_with fail
          go_ret
          exact ⟨ret_int HF.out.symm, hG1⟩
        | true =>
          have HF : Hid (R = 0) := Lib.hid (by rw [HE.out, if_neg (by simp [k4])])
          clear k4
          go_wp2_with fail
          go_ret
          exact ⟨ret_int HF.out.symm, hG1⟩
set_option maxRecDepth 100000 in
theorem isOut_c (p : Lg) (w : World) : Calls Tryd.prog 208 #[.agg (lgC p)] w fun e w' => e = .returned (.bool (p.2.2.1 == -1)) ∧ G w w' none := by
  have hG1 := (G.refl w none).alloc (.cells (lgC p) 137)
  obtain ⟨p1, ⟨o1, o2, o3, o4⟩, i1, i2, i3, i4⟩ := p
  simp only [lgC] at hG1 ⊢
  go_enter Tryd.func208, Tryd.ntmps208
  go_wp2_with fail
  go_ret
  exact ⟨rfl, hG1⟩
set_option maxRecDepth 100000 in
set_option maxHeartbeats 4000000 in
theorem checkBegin_c (h : Hh) (v : Value) (l : List Lg) (k : Nat) (p : Lg) (w : World) (hr : RdR w 9 lgC v l) (hp : l[k]? = some p) (hn : l.length ≤ 1000) :
    Calls Tryd.prog 187 #[.agg (hiC h v), .int .i64 k] w fun e w' => e = .returned (.int .i64 (beE h.2.2.1 (prevAt l k) p)) ∧ G w w' none := by
  have hH := Bk.new w 55 (hiC h v)
  have hGH := (G.refl w none).alloc (.cells (hiC h v) 55)
  have HR := Lib.hid (hr.quiet hGH)
  obtain ⟨a, cap, rfl, hcap, hm⟩ := RdR.form hr
  clear hr
  have hk : k < l.length := (List.getElem?_eq_some_iff.1 hp).1
  obtain ⟨bb, bo, rfl, -, -⟩ := RdR.elem lgC_sz HR.out (G.refl _ none) hp
  have HW := Lib.hid (lgRow HR.out (G.refl _ none) hp)
  have HP := Lib.hid hp
  clear hp
  simp only [hiC] at hH hGH HR HW ⊢
  go_enter Tryd.func187, Tryd.ntmps187
  go_upto_if 13 with (refine wpList_load_at rfl 137 _ rfl ⟨bb, bo + k * 9, none⟩ rfl #[.string p.1, .int .i64 p.2.1.1, .string p.2.1.2.1, .int .i64 p.2.1.2.2.1, .int .i64 p.2.1.2.2.2, .int .i64 p.2.2.1, .string p.2.2.2.1, .int .i64 p.2.2.2.2.1, .int .i64 p.2.2.2.2.2] _ HW.out Tryd.underlying137 rfl (lg_info p) ?_)
  have hL : Bk ((w.alloc (.cells #[.string h.1, .string h.2.1, .int .i64 h.2.2.1, .int .i64 h.2.2.2, .slice (some ⟨bb, bo, none⟩) l.length cap] 55)).alloc (.cells #[.string p.1, .int .i64 p.2.1.1, .string p.2.1.2.1, .int .i64 p.2.1.2.2.1, .int .i64 p.2.1.2.2.2, .int .i64 p.2.2.1, .string p.2.2.2.1, .int .i64 p.2.2.2.2.1, .int .i64 p.2.2.2.2.2] 137)) (w.heap.size + 1) 137 (lgC p) := Bk.newAt (by simp) _ _
  have hG := hGH.alloc (.cells #[.string p.1, .int .i64 p.2.1.1, .string p.2.1.2.1, .int .i64 p.2.1.2.2.1, .int .i64 p.2.1.2.2.2, .int .i64 p.2.2.1, .string p.2.2.2.1, .int .i64 p.2.2.2.2.1, .int .i64 p.2.2.2.2.2] 137)
  have hH := hH.alloc (.cells #[.string p.1, .int .i64 p.2.1.1, .string p.2.1.2.1, .int .i64 p.2.1.2.2.1, .int .i64 p.2.1.2.2.2, .int .i64 p.2.2.1, .string p.2.2.2.1, .int .i64 p.2.2.2.2.1, .int .i64 p.2.2.2.2.2] 137)
  have HR := Lib.hid (HR.out.quiet ((G.refl _ none).alloc (.cells #[.string p.1, .int .i64 p.2.1.1, .string p.2.1.2.1, .int .i64 p.2.1.2.2.1, .int .i64 p.2.1.2.2.2, .int .i64 p.2.2.1, .string p.2.2.2.1, .int .i64 p.2.2.2.2.1, .int .i64 p.2.2.2.2.2] 137)))
  clear HW hGH
  generalize (w.alloc (.cells #[.string h.1, .string h.2.1, .int .i64 h.2.2.1, .int .i64 h.2.2.2, .slice (some ⟨bb, bo, none⟩) l.length cap] 55)).alloc (.cells #[.string p.1, .int .i64 p.2.1.1, .string p.2.1.2.1, .int .i64 p.2.1.2.2.1, .int .i64 p.2.1.2.2.2, .int .i64 p.2.2.1, .string p.2.2.2.1, .int .i64 p.2.2.2.2.1, .int .i64 p.2.2.2.2.2] 137) = w2 at hL hG hH HR ⊢
  have c1 : w2.cell? ⟨w.heap.size + 1, 1, none⟩ = some (.int .i64 p.2.1.1) := hL.cell 1
  have d2 : w2.cell? ⟨w.heap.size, 2, none⟩ = some (.int .i64 h.2.2.1) := hH.cell 2
  cases k with
  | zero =>
    by_cases hq : p.2.1.1 = h.2.2.1
    · have HF : Hid (beE h.2.2.1 (prevAt l 0) p = 0) := Lib.hid (if_pos hq)
      go_wp2_with fail
      go_ret
      exact ⟨ret_int HF.out.symm, hG⟩
    · have HF : Hid (beE h.2.2.1 (prevAt l 0) p = 7) := Lib.hid (if_neg hq)
      go_wp2_with fail
      go_ret
      exact ⟨ret_int HF.out.symm, hG⟩
  | succ m =>
    obtain ⟨q, hq2⟩ : ∃ q, l[m]? = some q := ⟨_, List.getElem?_eq_getElem (by omega)⟩
    have HA : Hid (beE h.2.2.1 (prevAt l (m + 1)) p = if p.2.1.1 = q.2.2.1 then (if p.1 = q.1 then 16 else if p.2.1.2.1 = q.2.2.2.1 then 0 else 8) else 7) := Lib.hid (by rw [prevAt_succ l m q hq2]; rfl)
    have hsub : IntKind.i64.wrap (((m + 1 : Nat) : Int) - 1) = (m : Int) := by rw [show ((m + 1 : Nat) : Int) - 1 = (m : Int) by omega]; rw [IntKind.wrap_i64]; omega
    have hsub2 : IntKind.i64.wrap (m : Int) = (m : Int) := by rw [IntKind.wrap_i64]; omega
    have hsub3 : IntKind.i64.wrap ((m : Int) + 1 - 1) = (m : Int) := by rw [IntKind.wrap_i64]; omega
    have hm0 : (0 : Int) ≤ (m : Int) := Int.natCast_nonneg m
    have hml : (m : Int) < (l.length : Int) := by omega
    have hne : (((m + 1 : Nat) : Int) == 0) = false := by simp; omega
    have hne2 : ((m : Int) + 1 == 0) = false := by simp; omega
    have HW := Lib.hid (lgRow HR.out (G.refl _ none) hq2)
    have d4 : w2.cell? ⟨w.heap.size, 4, none⟩ = some (.slice (some ⟨bb, bo, none⟩) l.length cap) := hH.cell 4
    obtain ⟨B, hB⟩ : ∃ B, beE h.2.2.1 (prevAt l (m + 1)) p = B := ⟨_, rfl⟩
    rw [hB] at HA
    have HBB := Lib.hid hB
    clear hB hq2
    go_upto_region 7 with (refine wpList_load_at rfl 137 _ rfl ⟨bb, bo + m * 9, none⟩ rfl #[.string q.1, .int .i64 q.2.1.1, .string q.2.1.2.1, .int .i64 q.2.1.2.2.1, .int .i64 q.2.1.2.2.2, .int .i64 q.2.2.1, .string q.2.2.2.1, .int .i64 q.2.2.2.2.1, .int .i64 q.2.2.2.2.2] _ HW.out Tryd.underlying137 rfl (lg_info q) ?_)
    have hQ := Bk.new w2 137 (lgC q)
    have hG := hG.alloc (.cells (lgC q) 137)
    have hL := hL.alloc (.cells (lgC q) 137)
    rw [show #[.string q.1, .int .i64 q.2.1.1, .string q.2.1.2.1, .int .i64 q.2.1.2.2.1, .int .i64 q.2.1.2.2.2, .int .i64 q.2.2.1, .string q.2.2.2.1, .int .i64 q.2.2.2.2.1, .int .i64 q.2.2.2.2.2] = lgC q from rfl]
    generalize w2.alloc (.cells (lgC q) 137) = w3 at hQ hG hL ⊢
    generalize w2.heap.size = g at hQ ⊢
    have c0 : w3.cell? ⟨w.heap.size + 1, 0, none⟩ = some (.string p.1) := hL.cell 0
    have c1 : w3.cell? ⟨w.heap.size + 1, 1, none⟩ = some (.int .i64 p.2.1.1) := hL.cell 1
    have c2 : w3.cell? ⟨w.heap.size + 1, 2, none⟩ = some (.string p.2.1.2.1) := hL.cell 2
    have q0 : w3.cell? ⟨g, 0, none⟩ = some (.string q.1) := hQ.cell 0
    have q5 : w3.cell? ⟨g, 5, none⟩ = some (.int .i64 q.2.2.1) := hQ.cell 5
    have q6 : w3.cell? ⟨g, 6, none⟩ = some (.string q.2.2.2.1) := hQ.cell 6
    clear hL hQ hH HR d2 d4
    by_cases k1 : p.2.1.1 = q.2.2.1
    · have HA : Hid (B = if p.1 = q.1 then 16 else if p.2.1.2.1 = q.2.2.2.1 then 0 else 8) := Lib.hid (by rw [HA.out, if_pos k1])
      have k1' : (p.2.1.1 != q.2.2.1) = false := by simpa using k1
      clear k1
      by_cases k2 : p.1 = q.1
      · have HF : Hid (B = 16) := Lib.hid (by rw [HA.out, if_pos k2])
        have k2' : (p.1.toList == q.1.toList) = true := by rw [k2]; simp
        clear k2
        go_wp2_with fail
        go_ret
        exact ⟨ret_int (by rw [HBB.out, HF.out]), hG⟩
      · have HA : Hid (B = if p.2.1.2.1 = q.2.2.2.1 then 0 else 8) := Lib.hid (by rw [HA.out, if_neg k2])
        have k2' : (p.1.toList == q.1.toList) = false := by simpa using fun e => k2 (toList_ext e)
        clear k2
        by_cases k3 : p.2.1.2.1 = q.2.2.2.1
        · have HF : Hid (B = 0) := Lib.hid (by rw [HA.out, if_pos k3])
          have k3' : (p.2.1.2.1.toList == q.2.2.2.1.toList) = true := by rw [k3]; simp
          have k3n : (p.2.1.2.1.toList != q.2.2.2.1.toList) = false := by rw [k3]; simp
          clear k3
          go_wp2_with fail
          go_ret
          exact ⟨ret_int (by rw [HBB.out, HF.out]), hG⟩
        · have HF : Hid (B = 8) := Lib.hid (by rw [HA.out, if_neg k3])
          have k3' : (p.2.1.2.1.toList == q.2.2.2.1.toList) = false := by simpa using fun e => k3 (toList_ext e)
          have k3n : (p.2.1.2.1.toList != q.2.2.2.1.toList) = true := by simpa using fun e => k3 (toList_ext e)
          clear k3
          go_wp2_with fail
          go_ret
          exact ⟨ret_int (by rw [HBB.out, HF.out]), hG⟩
    · have HF : Hid (B = 7) := Lib.hid (by rw [HA.out, if_neg k1])
      have k1' : (p.2.1.1 != q.2.2.1) = true := by simpa using k1
      clear k1
      go_wp2_with fail
      go_ret
      exact ⟨ret_int (by rw [HBB.out, HF.out]), hG⟩
set_option maxRecDepth 100000 in
set_option maxHeartbeats 4000000 in
theorem checkEnd_c (h : Hh) (v : Value) (l : List Lg) (k : Nat) (p : Lg) (w : World) (hr : RdR w 9 lgC v l) (hp : l[k]? = some p) (hs : Small p.2.2.2.1) (hn : l.length ≤ 1000) :
    Calls Tryd.prog 188 #[.agg (hiC h v), .int .i64 k] w fun e w' => e = .returned (.int .i64 (enE (l.drop (k + 1)).isEmpty p)) ∧ G w w' none := by
  have hH := Bk.new w 55 (hiC h v)
  have hGH := (G.refl w none).alloc (.cells (hiC h v) 55)
  have HR := Lib.hid (hr.quiet hGH)
  obtain ⟨a, cap, rfl, hcap, hm⟩ := RdR.form hr
  clear hr
  have hk : k < l.length := (List.getElem?_eq_some_iff.1 hp).1
  have hki : (k : Int) < (l.length : Int) := by omega
  obtain ⟨bb, bo, rfl, -, -⟩ := RdR.elem lgC_sz HR.out (G.refl _ none) hp
  have HW := Lib.hid (lgRow HR.out (G.refl _ none) hp)
  clear hp
  have HLA : Hid ((l.drop (k + 1)).isEmpty = decide (l.length ≤ k + 1)) := Lib.hid (drop_empty l (k + 1))
  obtain ⟨E, hE⟩ : ∃ E, enE (l.drop (k + 1)).isEmpty p = E := ⟨_, rfl⟩
  have HE : Hid (E = if p.2.2.1 = -1 then (if p.2.2 = noIn then (if decide (l.length ≤ k + 1) = true then 0 else 11) else 3) else if rgE p.2.2 = 0 then (if p.2.2.1 ≤ p.2.1.1 then 7 else 0) else rgE p.2.2) := Lib.hid (by rw [← hE, HLA.out]; rfl)
  rw [hE]
  clear hE
  simp only [hiC] at hH hGH HR HW ⊢
  go_enter Tryd.func188, Tryd.ntmps188
  go_upto_region 2 with (refine wpList_load_at rfl 137 _ rfl ⟨bb, bo + k * 9, none⟩ rfl #[.string p.1, .int .i64 p.2.1.1, .string p.2.1.2.1, .int .i64 p.2.1.2.2.1, .int .i64 p.2.1.2.2.2, .int .i64 p.2.2.1, .string p.2.2.2.1, .int .i64 p.2.2.2.2.1, .int .i64 p.2.2.2.2.2] _ HW.out Tryd.underlying137 rfl (lg_info p) ?_)
  have hL : Bk ((w.alloc (.cells #[.string h.1, .string h.2.1, .int .i64 h.2.2.1, .int .i64 h.2.2.2, .slice (some ⟨bb, bo, none⟩) l.length cap] 55)).alloc (.cells #[.string p.1, .int .i64 p.2.1.1, .string p.2.1.2.1, .int .i64 p.2.1.2.2.1, .int .i64 p.2.1.2.2.2, .int .i64 p.2.2.1, .string p.2.2.2.1, .int .i64 p.2.2.2.2.1, .int .i64 p.2.2.2.2.2] 137)) (w.heap.size + 1) 137 (lgC p) := Bk.newAt (by simp) _ _
  have hG := hGH.alloc (.cells #[.string p.1, .int .i64 p.2.1.1, .string p.2.1.2.1, .int .i64 p.2.1.2.2.1, .int .i64 p.2.1.2.2.2, .int .i64 p.2.2.1, .string p.2.2.2.1, .int .i64 p.2.2.2.2.1, .int .i64 p.2.2.2.2.2] 137)
  have hH := hH.alloc (.cells #[.string p.1, .int .i64 p.2.1.1, .string p.2.1.2.1, .int .i64 p.2.1.2.2.1, .int .i64 p.2.1.2.2.2, .int .i64 p.2.2.1, .string p.2.2.2.1, .int .i64 p.2.2.2.2.1, .int .i64 p.2.2.2.2.2] 137)
  clear HW hGH HR
  generalize (w.alloc (.cells #[.string h.1, .string h.2.1, .int .i64 h.2.2.1, .int .i64 h.2.2.2, .slice (some ⟨bb, bo, none⟩) l.length cap] 55)).alloc (.cells #[.string p.1, .int .i64 p.2.1.1, .string p.2.1.2.1, .int .i64 p.2.1.2.2.1, .int .i64 p.2.1.2.2.2, .int .i64 p.2.2.1, .string p.2.2.2.1, .int .i64 p.2.2.2.2.1, .int .i64 p.2.2.2.2.2] 137) = w2 at hL hG hH ⊢
  go_wp2_with (refine wpList_load_row rfl 137 _ rfl (w.heap.size + 1) rfl 137 #[.string p.1, .int .i64 p.2.1.1, .string p.2.1.2.1, .int .i64 p.2.1.2.2.1, .int .i64 p.2.1.2.2.2, .int .i64 p.2.2.1, .string p.2.2.2.1, .int .i64 p.2.2.2.2.1, .int .i64 p.2.2.2.2.2] (0, 0) _ hL Tryd.underlying137 rfl (lg_info p) ?_)
  refine (isOut_c p _).mono ?_; rintro e w3 ⟨rfl, hG3⟩
  have hL := hL.quiet hG3
  have hH := hH.quiet hG3
  have hG := hG.trans hG3
  clear hG3
  have HP := Lib.hid (hL.part 5 #[.int .i64 p.2.2.1, .string p.2.2.2.1, .int .i64 p.2.2.2.2.1, .int .i64 p.2.2.2.2.2] (lg_in p))
  have c1 : w3.cell? ⟨w.heap.size + 1, 1, none⟩ = some (.int .i64 p.2.1.1) := hL.cell 1
  have c5 : w3.cell? ⟨w.heap.size + 1, 5, none⟩ = some (.int .i64 p.2.2.1) := hL.cell 5
  have d4 : w3.cell? ⟨w.heap.size, 4, none⟩ = some (.slice (some ⟨bb, bo, none⟩) l.length cap) := hH.cell 4
  clear hH
  by_cases k1 : p.2.2.1 = -1
  · have k1' : (p.2.2.1 == -1) = true := by simpa using k1
    rw [k1']
    have HN := fun w : World => rg_neq p.2.2 noIn w
    by_cases k2 : p.2.2 = noIn
    · have HNN : Hid (∀ w : World, (binOp .neq 51 (.agg #[.int .i64 p.2.2.1, .string p.2.2.2.1, .int .i64 p.2.2.2.2.1, .int .i64 p.2.2.2.2.2]) (.agg #[.int .i64 (-1), .string ⟨#[]⟩, .int .i64 0, .int .i64 0])).run Tryd.prog w = .ok (.bool false) w) := Lib.hid fun w => by
        have := HN w
        rw [decide_eq_true k2] at this
        exact this
      have hnn := HNN.out
      have HE : Hid (E = if decide (l.length ≤ k + 1) = true then 0 else 11) := Lib.hid (by rw [HE.out, if_pos k1, if_pos k2])
      have hl1 : IntKind.i64.wrap ((l.length : Int) - 1) = (l.length : Int) - 1 := by rw [IntKind.wrap_i64]; omega
      clear k1 k1' k2 HN HNN
      by_cases k3 : l.length ≤ k + 1
      · have HF : Hid (E = 0) := Lib.hid (by rw [HE.out, if_pos (decide_eq_true k3)])
        have k3' : ¬ ((k : Int) < (l.length : Int) - 1) := by omega
        clear k3
        go_wp2_with (refine wpList_load_at rfl 51 _ rfl ⟨w.heap.size + 1, 5, none⟩ rfl #[.int .i64 p.2.2.1, .string p.2.2.2.1, .int .i64 p.2.2.2.2.1, .int .i64 p.2.2.2.2.2] _ HP.out Tryd.underlying51 rfl (rg_info p.2.2) ?_)
        go_ret
        exact ⟨ret_int HF.out.symm, hG⟩
      · have HF : Hid (E = 11) := Lib.hid (by rw [HE.out, if_neg (by simpa using k3)])
        have k3' : (k : Int) < (l.length : Int) - 1 := by omega
        clear k3
        go_wp2_with (refine wpList_load_at rfl 51 _ rfl ⟨w.heap.size + 1, 5, none⟩ rfl #[.int .i64 p.2.2.1, .string p.2.2.2.1, .int .i64 p.2.2.2.2.1, .int .i64 p.2.2.2.2.2] _ HP.out Tryd.underlying51 rfl (rg_info p.2.2) ?_)
        go_ret
        exact ⟨ret_int HF.out.symm, hG⟩
    · have HNN : Hid (∀ w : World, (binOp .neq 51 (.agg #[.int .i64 p.2.2.1, .string p.2.2.2.1, .int .i64 p.2.2.2.2.1, .int .i64 p.2.2.2.2.2]) (.agg #[.int .i64 (-1), .string ⟨#[]⟩, .int .i64 0, .int .i64 0])).run Tryd.prog w = .ok (.bool true) w) := Lib.hid fun w => by
        have := HN w
        rw [decide_eq_false k2] at this
        exact this
      have hnn := HNN.out
      have HF : Hid (E = 3) := Lib.hid (by rw [HE.out, if_pos k1, if_neg k2])
      clear HE k1 k1' k2 HN HNN
      go_wp2_with (refine wpList_load_at rfl 51 _ rfl ⟨w.heap.size + 1, 5, none⟩ rfl #[.int .i64 p.2.2.1, .string p.2.2.2.1, .int .i64 p.2.2.2.2.1, .int .i64 p.2.2.2.2.2] _ HP.out Tryd.underlying51 rfl (rg_info p.2.2) ?_)
      go_ret
      exact ⟨ret_int HF.out.symm, hG⟩
  · have k1' : (p.2.2.1 == -1) = false := by simpa using k1
    rw [k1']
    have HE : Hid (E = if rgE p.2.2 = 0 then (if p.2.2.1 ≤ p.2.1.1 then 7 else 0) else rgE p.2.2) := Lib.hid (by rw [HE.out, if_neg k1])
    clear k1 k1'
    go_wp2_with (refine wpList_load_at rfl 51 _ rfl ⟨w.heap.size + 1, 5, none⟩ rfl #[.int .i64 p.2.2.1, .string p.2.2.2.1, .int .i64 p.2.2.2.2.1, .int .i64 p.2.2.2.2.2] _ HP.out Tryd.underlying51 rfl (rg_info p.2.2) ?_)
    refine (checkReading_c p.2.2 _ hs).mono ?_; rintro e w4 ⟨rfl, hG4⟩
    have hL := hL.quiet hG4
    have hG := hG.trans hG4
    clear hG4 c1 c5 d4 HP
    have c1 : w4.cell? ⟨w.heap.size + 1, 1, none⟩ = some (.int .i64 p.2.1.1) := hL.cell 1
    have c5 : w4.cell? ⟨w.heap.size + 1, 5, none⟩ = some (.int .i64 p.2.2.1) := hL.cell 5
    obtain ⟨R, hR⟩ : ∃ R, rgE p.2.2 = R := ⟨_, rfl⟩
    rw [hR] at HE ⊢
    clear hR
    by_cases k2 : R = 0
    · have HE5 : Hid (E = if p.2.2.1 ≤ p.2.1.1 then 7 else 0) := Lib.hid (by rw [HE.out, if_pos k2])
      subst k2
      by_cases k3 : p.2.2.1 ≤ p.2.1.1
      · have HF : Hid (E = 7) := Lib.hid (by rw [HE5.out, if_pos k3])
        go_wp2_with fail
        go_ret
        exact ⟨ret_int HF.out.symm, hG⟩
      · have HF : Hid (E = 0) := Lib.hid (by rw [HE5.out, if_neg k3])
        go_wp2_with fail
        go_ret
        exact ⟨ret_int HF.out.symm, hG⟩
    · have HF : Hid (E = R) := Lib.hid (by rw [HE.out, if_neg k2])
      have k2' : (R != 0) = true := by simpa using k2
      clear k2
      go_wp2_with fail
      go_ret
      exact ⟨ret_int HF.out.symm, hG⟩
end Go.Proofs.YtndeidcddlmhbaaDoor

/- Hires: checkLeg, Check. -/
namespace Go.Proofs.YtndeidcddlmhbaaDoor
open Go.RowKit

theorem hi_time (h : Hh) (v : Value) : ∀ j u, (#[Value.int .i64 h.2.2.1, .int .i64 h.2.2.2] : Array Value).toList[j]? = some u → (hiC h v)[2 + j]? = some u := fun j u hu => by
  match j, hu with
  | 0, hu => exact hu
  | 1, hu => exact hu
  | n + 2, hu => simp at hu
set_option maxRecDepth 100000 in
set_option maxHeartbeats 4000000 in
theorem checkLeg_c (h : Hh) (v : Value) (l : List Lg) (k : Nat) (p : Lg) (w : World) (hr : RdR w 9 lgC v l) (hp : l[k]? = some p) (hs : lgB p) (hn : l.length ≤ 1000) :
    Calls Tryd.prog 167 #[.agg (hiC h v), .int .i64 k] w fun e w' => e = .returned (.int .i64 (lgE h.2.2.1 (prevAt l k) (l.drop (k + 1)).isEmpty p)) ∧ G w w' none := by
  have hH := Bk.new w 55 (hiC h v)
  have hGH := (G.refl w none).alloc (.cells (hiC h v) 55)
  have hR := hr.quiet hGH
  obtain ⟨a, cap, rfl, hcap, hm⟩ := RdR.form hr
  clear hr
  have hk : k < l.length := (List.getElem?_eq_some_iff.1 hp).1
  have hki : (k : Int) < (l.length : Int) := by omega
  obtain ⟨bb, bo, rfl, -, -⟩ := RdR.elem lgC_sz hR (G.refl _ none) hp
  have HW := Lib.hid (lgRow hR (G.refl _ none) hp)
  have HP := Lib.hid hp
  obtain ⟨hs1, hs2, hs3⟩ := hs
  have hs1' := hs1
  unfold Small at hs1'
  clear hp
  obtain ⟨E, hE⟩ : ∃ E, lgE h.2.2.1 (prevAt l k) (l.drop (k + 1)).isEmpty p = E := ⟨_, rfl⟩
  have HE : Hid (E = if keyB p.1 = false then 5 else if rgE p.2.1 = 0 then (if beE h.2.2.1 (prevAt l k) p = 0 then enE (l.drop (k + 1)).isEmpty p else beE h.2.2.1 (prevAt l k) p) else rgE p.2.1) := Lib.hid hE.symm
  rw [hE]
  clear hE
  simp only [hiC] at hH hGH hR HW ⊢
  go_enter Tryd.func167, Tryd.ntmps167
  go_upto_region 2 with (refine wpList_load_at rfl 137 _ rfl ⟨bb, bo + k * 9, none⟩ rfl #[.string p.1, .int .i64 p.2.1.1, .string p.2.1.2.1, .int .i64 p.2.1.2.2.1, .int .i64 p.2.1.2.2.2, .int .i64 p.2.2.1, .string p.2.2.2.1, .int .i64 p.2.2.2.2.1, .int .i64 p.2.2.2.2.2] _ HW.out Tryd.underlying137 rfl (lg_info p) ?_)
  have hL : Bk ((w.alloc (.cells #[.string h.1, .string h.2.1, .int .i64 h.2.2.1, .int .i64 h.2.2.2, .slice (some ⟨bb, bo, none⟩) l.length cap] 55)).alloc (.cells #[.string p.1, .int .i64 p.2.1.1, .string p.2.1.2.1, .int .i64 p.2.1.2.2.1, .int .i64 p.2.1.2.2.2, .int .i64 p.2.2.1, .string p.2.2.2.1, .int .i64 p.2.2.2.2.1, .int .i64 p.2.2.2.2.2] 137)) (w.heap.size + 1) 137 (lgC p) := Bk.newAt (by simp) _ _
  have hG := hGH.alloc (.cells #[.string p.1, .int .i64 p.2.1.1, .string p.2.1.2.1, .int .i64 p.2.1.2.2.1, .int .i64 p.2.1.2.2.2, .int .i64 p.2.2.1, .string p.2.2.2.1, .int .i64 p.2.2.2.2.1, .int .i64 p.2.2.2.2.2] 137)
  have hH := hH.alloc (.cells #[.string p.1, .int .i64 p.2.1.1, .string p.2.1.2.1, .int .i64 p.2.1.2.2.1, .int .i64 p.2.1.2.2.2, .int .i64 p.2.2.1, .string p.2.2.2.1, .int .i64 p.2.2.2.2.1, .int .i64 p.2.2.2.2.2] 137)
  have hR := hR.quiet ((G.refl _ none).alloc (.cells #[.string p.1, .int .i64 p.2.1.1, .string p.2.1.2.1, .int .i64 p.2.1.2.2.1, .int .i64 p.2.1.2.2.2, .int .i64 p.2.2.1, .string p.2.2.2.1, .int .i64 p.2.2.2.2.1, .int .i64 p.2.2.2.2.2] 137))
  clear HW hGH
  generalize (w.alloc (.cells #[.string h.1, .string h.2.1, .int .i64 h.2.2.1, .int .i64 h.2.2.2, .slice (some ⟨bb, bo, none⟩) l.length cap] 55)).alloc (.cells #[.string p.1, .int .i64 p.2.1.1, .string p.2.1.2.1, .int .i64 p.2.1.2.2.1, .int .i64 p.2.1.2.2.2, .int .i64 p.2.2.1, .string p.2.2.2.1, .int .i64 p.2.2.2.2.1, .int .i64 p.2.2.2.2.2] 137) = w2 at hL hG hH hR ⊢
  have c0 : w2.cell? ⟨w.heap.size + 1, 0, none⟩ = some (.string p.1) := hL.cell 0
  have HO := Lib.hid (hL.part 1 #[.int .i64 p.2.1.1, .string p.2.1.2.1, .int .i64 p.2.1.2.2.1, .int .i64 p.2.1.2.2.2] (lg_out p))
  go_wp2_with fail
  refine (isKey_c _ _ hs1').mono ?_; rintro e w' ⟨rfl, rfl⟩
  cases k1 : keyB p.1 with
  | false =>
    have HF : Hid (E = 5) := Lib.hid (by rw [HE.out, if_pos k1])
    clear k1
    go_wp2_with fail
    go_ret
    exact ⟨ret_int HF.out.symm, hG⟩
  | true =>
    have HE1 : Hid (E = if rgE p.2.1 = 0 then (if beE h.2.2.1 (prevAt l k) p = 0 then enE (l.drop (k + 1)).isEmpty p else beE h.2.2.1 (prevAt l k) p) else rgE p.2.1) := Lib.hid (by rw [HE.out, if_neg (by simp [k1])])
    clear k1 HE
    go_wp2_with (refine wpList_load_at rfl 51 _ rfl ⟨w.heap.size + 1, 1, none⟩ rfl #[.int .i64 p.2.1.1, .string p.2.1.2.1, .int .i64 p.2.1.2.2.1, .int .i64 p.2.1.2.2.2] _ HO.out Tryd.underlying51 rfl (rg_info p.2.1) ?_)
    refine (checkReading_c p.2.1 _ hs2).mono ?_; rintro e w4 ⟨rfl, hG4⟩
    have hL := hL.quiet hG4
    have hH := hH.quiet hG4
    have hR := hR.quiet hG4
    have hG := hG.trans hG4
    clear hG4 c0 HO
    obtain ⟨R, hRR⟩ : ∃ R, rgE p.2.1 = R := ⟨_, rfl⟩
    rw [hRR] at HE1 ⊢
    clear hRR
    by_cases k2 : R = 0
    · have HE2 : Hid (E = if beE h.2.2.1 (prevAt l k) p = 0 then enE (l.drop (k + 1)).isEmpty p else beE h.2.2.1 (prevAt l k) p) := Lib.hid (by rw [HE1.out, if_pos k2])
      subst k2
      clear HE1
      go_wp2_with (refine wpList_load_row rfl 55 _ rfl w.heap.size rfl 55 #[.string h.1, .string h.2.1, .int .i64 h.2.2.1, .int .i64 h.2.2.2, .slice (some ⟨bb, bo, none⟩) l.length cap] (0, 0) _ hH Tryd.underlying55 rfl (hi_info h _) ?_)
      refine (checkBegin_c h _ l k p _ hR HP.out hn).mono ?_; rintro e w5 ⟨rfl, hG5⟩
      have hH := hH.quiet hG5
      have hR := hR.quiet hG5
      have hG := hG.trans hG5
      clear hG5
      obtain ⟨B, hB⟩ : ∃ B, beE h.2.2.1 (prevAt l k) p = B := ⟨_, rfl⟩
      rw [hB] at HE2 ⊢
      clear hB
      by_cases k3 : B = 0
      · have HF : Hid (E = enE (l.drop (k + 1)).isEmpty p) := Lib.hid (by rw [HE2.out, if_pos k3])
        subst k3
        clear HE2
        go_wp2_with (refine wpList_load_row rfl 55 _ rfl w.heap.size rfl 55 #[.string h.1, .string h.2.1, .int .i64 h.2.2.1, .int .i64 h.2.2.2, .slice (some ⟨bb, bo, none⟩) l.length cap] (0, 0) _ hH Tryd.underlying55 rfl (hi_info h _) ?_)
        refine (checkEnd_c h _ l k p _ hR HP.out hs3 hn).mono ?_; rintro e w6 ⟨rfl, hG6⟩
        have hG := hG.trans hG6
        rw [← HF.out]
        go_wp2_with fail
        go_ret
        exact ⟨rfl, hG⟩
      · have HF : Hid (E = B) := Lib.hid (by rw [HE2.out, if_neg k3])
        have k3' : (B != 0) = true := by simpa using k3
        clear k3 HE2
        go_wp2_with fail
        go_ret
        exact ⟨ret_int HF.out.symm, hG⟩
    · have HF : Hid (E = R) := Lib.hid (by rw [HE1.out, if_neg k2])
      have k2' : (R != 0) = true := by simpa using k2
      clear k2 HE1
      go_wp2_with fail
      go_ret
      exact ⟨ret_int HF.out.symm, hG⟩
def LsRel (w : World) (f : Int) (l : List Lg) (i : Value) (wr : World) : Prop :=
  ∃ k : Nat, k ≤ l.length ∧ i = .int .i64 k ∧ lsE f none l = lsE f (prevAt l k) (l.drop k) ∧ G w wr none
set_option maxRecDepth 100000 in
set_option maxHeartbeats 4000000 in
theorem check_c (h : Hh) (v : Value) (l : List Lg) (w : World) (hr : RdR w 9 lgC v l) (hl : LgOk l) (hs1 : Small h.1) (hs2 : Small h.2.1) (hb1 : bnd h.2.2.1) (hb2 : bnd h.2.2.2) (hn : l.length ≤ 1000) :
    Calls Tryd.prog 136 #[.agg (hiC h v)] w fun e w' => e = .returned (.int .i64 (hiE h l)) ∧ G w w' none := by
  have hH := Bk.new w 55 (hiC h v)
  have hG := (G.refl w none).alloc (.cells (hiC h v) 55)
  have hR := hr.quiet hG
  obtain ⟨a, cap, rfl, hcap, hm⟩ := RdR.form hr
  clear hr
  unfold Small at hs1 hs2
  obtain ⟨E, hE⟩ : ∃ E, hiE h l = E := ⟨_, rfl⟩
  have HE : Hid (E = if keyB h.1 = false then 5 else if keyB h.2.1 = false then 5 else if tE h.2.2.1 h.2.2.2 = 0 then (if l.length = 0 then 3 else if 20 < l.length then 2 else lsE h.2.2.1 none l) else tE h.2.2.1 h.2.2.2) := Lib.hid hE.symm
  rw [hE]
  clear hE
  simp only [hiC] at hH hG hR ⊢
  go_enter Tryd.func136, Tryd.ntmps136
  go_upto_region 1 with fail
  generalize w.alloc (.cells #[.string h.1, .string h.2.1, .int .i64 h.2.2.1, .int .i64 h.2.2.2, .slice a l.length cap] 55) = w2 at hG hH hR ⊢
  have hg := hH.lt
  generalize w.heap.size = g at hH hg ⊢
  have c0 : w2.cell? ⟨g, 0, none⟩ = some (.string h.1) := hH.cell 0
  have c1 : w2.cell? ⟨g, 1, none⟩ = some (.string h.2.1) := hH.cell 1
  go_wp2_with fail
  refine (isKey_c _ _ hs1).mono ?_; rintro e w' ⟨rfl, rfl⟩
  cases k1 : keyB h.1 with
  | false =>
    have HF : Hid (E = 5) := Lib.hid (by rw [HE.out, if_pos k1])
    clear k1
    go_wp2_with fail
    go_ret
    exact ⟨ret_int HF.out.symm, hG⟩
  | true =>
    have K1 := Lib.hid k1
    clear k1
    go_wp2_with fail
    refine (isKey_c _ _ hs2).mono ?_; rintro e w' ⟨rfl, rfl⟩
    cases k2 : keyB h.2.1 with
    | false =>
      have HF : Hid (E = 5) := Lib.hid (by rw [HE.out, if_neg (by simp [K1.out]), if_pos k2])
      clear k2
      go_wp2_with fail
      go_ret
      exact ⟨ret_int HF.out.symm, hG⟩
    | true =>
      have HE1 : Hid (E = if tE h.2.2.1 h.2.2.2 = 0 then (if l.length = 0 then 3 else if 20 < l.length then 2 else lsE h.2.2.1 none l) else tE h.2.2.1 h.2.2.2) := Lib.hid (by rw [HE.out, if_neg (by simp [K1.out]), if_neg (by simp [k2])])
      clear k2 HE
      have HT := Lib.hid (hH.part 2 #[.int .i64 h.2.2.1, .int .i64 h.2.2.2] (hi_time h _))
      go_wp2_with (refine wpList_load_at rfl 29 _ rfl ⟨g, 2, none⟩ rfl #[.int .i64 h.2.2.1, .int .i64 h.2.2.2] _ HT.out Tryd.underlying29 rfl (wi_info _ _) ?_)
      refine (days_c _ _ _ hb1 hb2).mono ?_; rintro e w3 ⟨rfl, hG3⟩
      have hH := hH.quiet hG3
      have hR := hR.quiet hG3
      have hG := hG.trans hG3
      clear hG3 c0 c1 HT
      obtain ⟨T, hT⟩ : ∃ T, tE h.2.2.1 h.2.2.2 = T := ⟨_, rfl⟩
      rw [hT] at HE1 ⊢
      clear hT
      generalize tN h.2.2.1 h.2.2.2 = N
      by_cases k3 : T = 0
      · have HE2 : Hid (E = if l.length = 0 then 3 else if 20 < l.length then 2 else lsE h.2.2.1 none l) := Lib.hid (by rw [HE1.out, if_pos k3])
        subst k3
        clear HE1
        have c4 : w3.cell? ⟨g, 4, none⟩ = some (.slice a l.length cap) := hH.cell 4
        by_cases k4 : l.length = 0
        · have HF : Hid (E = 3) := Lib.hid (by rw [HE2.out, if_pos k4])
          have k4' : ((l.length : Int) == 0) = true := by rw [k4]; rfl
          clear k4
          go_wp2_with fail
          go_ret
          exact ⟨ret_int HF.out.symm, hG⟩
        · have k4' : ((l.length : Int) == 0) = false := by rw [beq_eq_false_iff_ne]; omega
          by_cases k5 : 20 < l.length
          · have HF : Hid (E = 2) := Lib.hid (by rw [HE2.out, if_neg k4, if_pos k5])
            have k5' : (20 : Int) < (l.length : Int) := by omega
            clear k5 k4
            go_wp2_with fail
            go_ret
            exact ⟨ret_int HF.out.symm, hG⟩
          · have HE3 : Hid (E = lsE h.2.2.1 none l) := Lib.hid (by rw [HE2.out, if_neg k4, if_neg k5])
            have k5' : ¬ (20 : Int) < (l.length : Int) := by omega
            clear k5 k4 HE2
            have HHH := Lib.hid hH
            have HRR := Lib.hid hR
            clear hH hR
            go_wp2_with fail
            go_loopw [37] (LsRel w3 h.2.2.1 l) (fun i _ => l.length - (intOf i).toNat)
            case atStart => exact ⟨0, by omega, rfl, rfl, G.refl _ _⟩
            case round =>
              obtain ⟨k, hkl, rfl, heq, hGr⟩ := hrel
              have HEq := Lib.hid heq
              clear heq c4
              have hH := HHH.out.quiet hGr
              have hR := HRR.out.quiet hGr
              by_cases hk : k < l.length
              · obtain ⟨p, hp⟩ : ∃ p, l[k]? = some p := ⟨_, List.getElem?_eq_getElem hk⟩
                have hdrop : l.drop k = p :: l.drop (k + 1) := by rw [List.drop_eq_getElem_cons hk, ← (List.getElem?_eq_some_iff.1 hp).2]
                have HS : Hid (lsE h.2.2.1 none l = if lgE h.2.2.1 (prevAt l k) (l.drop (k + 1)).isEmpty p = 0 then lsE h.2.2.1 (some p) (l.drop (k + 1)) else lgE h.2.2.1 (prevAt l k) (l.drop (k + 1)).isEmpty p) := Lib.hid (by rw [HEq.out, hdrop]; rfl)
                have hpb := hl p (List.mem_of_getElem? hp)
                have HP := Lib.hid hp
                have HK := Lib.hid hk
                have hki : (k : Int) < (l.length : Int) := by omega
                clear hdrop hp
                go_wp2_with (refine wpList_load_row rfl 55 _ rfl g rfl 55 #[.string h.1, .string h.2.1, .int .i64 h.2.2.1, .int .i64 h.2.2.2, .slice a l.length cap] (0, 0) _ hH Tryd.underlying55 rfl (hi_info h _) ?_)
                refine (checkLeg_c h _ l k p _ hR HP.out hpb hn).mono ?_; rintro e w5 ⟨rfl, hG5⟩
                have hGr5 := hGr.trans hG5
                clear hG5 hGr hH hR hpb
                obtain ⟨L, hL⟩ : ∃ L, lgE h.2.2.1 (prevAt l k) (l.drop (k + 1)).isEmpty p = L := ⟨_, rfl⟩
                rw [hL] at HS ⊢
                clear hL
                by_cases k6 : L = 0
                · have HF : Hid (lsE h.2.2.1 none l = lsE h.2.2.1 (prevAt l (k + 1)) (l.drop (k + 1))) := Lib.hid (by rw [HS.out, if_pos k6, prevAt_succ l k p HP.out])
                  subst k6
                  clear HS
                  go_wp2_with fail
                  go_roundw
                  case rel => exact ⟨k + 1, by omega, by go_num, HF.out, hGr5⟩
                  case measure => have := HK.out; simp [intOf]; omega
                · have HF : Hid (E = L) := Lib.hid (by rw [HE3.out, HS.out, if_neg k6])
                  have k6' : (L != 0) = true := by simpa using k6
                  clear k6 HS
                  go_wp2_with fail
                  go_ret
                  exact ⟨ret_int HF.out.symm, hG.trans hGr5⟩
              · obtain rfl : k = l.length := by omega
                have HF : Hid (E = 0) := Lib.hid (by rw [HE3.out, HEq.out, List.drop_length]; rfl)
                go_wp2_with fail
                go_ret
                exact ⟨ret_int HF.out.symm, hG.trans hGr⟩
      · have HF : Hid (E = T) := Lib.hid (by rw [HE1.out, if_neg k3])
        have k3' : (T != 0) = true := by simpa using k3
        clear k3 HE1
        go_wp2_with fail
        go_ret
        exact ⟨ret_int HF.out.symm, hG⟩
end Go.Proofs.YtndeidcddlmhbaaDoor

/- Hires: the reference's readingFault, legFault, HireFault. -/
namespace Go.Proofs.YtndeidcddlmhbaaDoor
open Go.RowKit

set_option maxRecDepth 100000 in
set_option maxHeartbeats 2000000 in
theorem readingFault_c (x : Rg) (w : World) (hs : Small x.2.1) :
    Calls Tryd.prog 189 #[.agg (rgC x)] w fun e w' => e = .returned (.int .i64 (rgE x)) ∧ G w w' none := by
  have hG1 := (G.refl w none).alloc (.cells (rgC x) 51)
  have hB1 := Bk.new w 51 (rgC x)
  unfold Small at hs
  obtain ⟨t, s, m, f⟩ := x
  simp only [rgC] at hG1 hB1 hs ⊢
  have HE : Hid (rgE (t, s, m, f) = if momB t = false then 1 else if keyB s = false then 5 else if inB m 0 999999 = false then 1 else if inB f 0 8 = false then 1 else 0) := Lib.hid rfl
  generalize rgE (t, s, m, f) = R at HE ⊢
  go_enter Tryd.func189, Tryd.ntmps189
  go_wp2_with fail
  refine (rMoment_c t _).mono ?_; rintro e w1 ⟨rfl, rfl⟩
  cases k1 : momB t with
  | false =>
    have HF : Hid (R = 1) := Lib.hid (by rw [HE.out, if_pos k1])
    clear k1
    go_wp2_with fail
    go_ret
    exact ⟨ret_int HF.out.symm, hG1⟩
  | true =>
    have HE : Hid (R = if keyB s = false then 5 else if inB m 0 999999 = false then 1 else if inB f 0 8 = false then 1 else 0) := Lib.hid (by rw [HE.out, if_neg (by simp [k1])])
    clear k1
    go_wp2_with fail
    refine (rkey_c s _ hs).mono ?_; rintro e w1 ⟨rfl, hGk⟩
    have hB1 := hB1.quiet hGk
    have hG1 := hG1.trans hGk
    clear hGk
    have d2 : w1.cell? ⟨w.heap.size, 2, none⟩ = some (.int .i64 m) := hB1.cell 2
    have d3 : w1.cell? ⟨w.heap.size, 3, none⟩ = some (.int .i64 f) := hB1.cell 3
    cases k2 : keyB s with
    | false =>
      have HF : Hid (R = 5) := Lib.hid (by rw [HE.out, if_pos k2])
      clear k2
      go_wp2_with fail
      go_ret
      exact ⟨ret_int HF.out.symm, hG1⟩
    | true =>
      have HE : Hid (R = if inB m 0 999999 = false then 1 else if inB f 0 8 = false then 1 else 0) := Lib.hid (by rw [HE.out, if_neg (by simp [k2])])
      clear k2
      go_wp2_with fail
      refine (in_c m 0 999999 _).mono ?_; rintro e w1 ⟨rfl, rfl⟩
      cases k3 : inB m 0 999999 with
      | false =>
        have HF : Hid (R = 1) := Lib.hid (by rw [HE.out, if_pos k3])
        clear k3
        go_wp2_with fail
        go_ret
        exact ⟨ret_int HF.out.symm, hG1⟩
      | true =>
        have HE : Hid (R = if inB f 0 8 = false then 1 else 0) := Lib.hid (by rw [HE.out, if_neg (by simp [k3])])
        clear k3
        go_wp2_with fail
        refine (in_c f 0 8 _).mono ?_; rintro e w1 ⟨rfl, rfl⟩
        cases k4 : inB f 0 8 with
        | false =>
          have HF : Hid (R = 1) := Lib.hid (by rw [HE.out, if_pos k4])
          clear k4
          go_wp2_with fail
          go_ret
          exact ⟨ret_int HF.out.symm, hG1⟩
        | true =>
          have HF : Hid (R = 0) := Lib.hid (by rw [HE.out, if_neg (by simp [k4])])
          clear k4
          go_wp2_with fail
          go_ret
          exact ⟨ret_int HF.out.symm, hG1⟩
set_option maxRecDepth 100000 in
set_option maxHeartbeats 8000000 in
theorem legFault_c (h : Hh) (v : Value) (l : List Lg) (k : Nat) (p : Lg) (w : World) (hr : RdR w 9 lgC v l) (hp : l[k]? = some p) (hs : lgB p) (hn : l.length ≤ 1000) :
    Calls Tryd.prog 168 #[.agg (hiC h v), .int .i64 k] w fun e w' => e = .returned (.int .i64 (lgE h.2.2.1 (prevAt l k) (l.drop (k + 1)).isEmpty p)) ∧ G w w' none := by
  have hH := Bk.new w 55 (hiC h v)
  have hGH := (G.refl w none).alloc (.cells (hiC h v) 55)
  have hR := hr.quiet hGH
  obtain ⟨a, cap, rfl, hcap, hm⟩ := RdR.form hr
  clear hr
  have hk : k < l.length := (List.getElem?_eq_some_iff.1 hp).1
  have hki : (k : Int) < (l.length : Int) := by omega
  obtain ⟨bb, bo, rfl, -, -⟩ := RdR.elem lgC_sz hR (G.refl _ none) hp
  have HW := Lib.hid (lgRow hR (G.refl _ none) hp)
  obtain ⟨hs1, hs2, hs3⟩ := hs
  have hs1' := hs1
  unfold Small at hs1'
  clear hp
  obtain ⟨E, hE⟩ : ∃ E, lgE h.2.2.1 (prevAt l k) (l.drop (k + 1)).isEmpty p = E := ⟨_, rfl⟩
  have HE : Hid (E = if keyB p.1 = false then 5 else if rgE p.2.1 = 0 then (if beE h.2.2.1 (prevAt l k) p = 0 then enE (l.drop (k + 1)).isEmpty p else beE h.2.2.1 (prevAt l k) p) else rgE p.2.1) := Lib.hid hE.symm
  rw [hE]
  clear hE
  simp only [hiC] at hH hGH hR HW ⊢
  go_enter Tryd.func168, Tryd.ntmps168
  go_upto_region 2 with (refine wpList_load_at rfl 137 _ rfl ⟨bb, bo + k * 9, none⟩ rfl #[.string p.1, .int .i64 p.2.1.1, .string p.2.1.2.1, .int .i64 p.2.1.2.2.1, .int .i64 p.2.1.2.2.2, .int .i64 p.2.2.1, .string p.2.2.2.1, .int .i64 p.2.2.2.2.1, .int .i64 p.2.2.2.2.2] _ HW.out Tryd.underlying137 rfl (lg_info p) ?_)
  have hL : Bk ((w.alloc (.cells #[.string h.1, .string h.2.1, .int .i64 h.2.2.1, .int .i64 h.2.2.2, .slice (some ⟨bb, bo, none⟩) l.length cap] 55)).alloc (.cells #[.string p.1, .int .i64 p.2.1.1, .string p.2.1.2.1, .int .i64 p.2.1.2.2.1, .int .i64 p.2.1.2.2.2, .int .i64 p.2.2.1, .string p.2.2.2.1, .int .i64 p.2.2.2.2.1, .int .i64 p.2.2.2.2.2] 137)) (w.heap.size + 1) 137 (lgC p) := Bk.newAt (by simp) _ _
  have hG := hGH.alloc (.cells #[.string p.1, .int .i64 p.2.1.1, .string p.2.1.2.1, .int .i64 p.2.1.2.2.1, .int .i64 p.2.1.2.2.2, .int .i64 p.2.2.1, .string p.2.2.2.1, .int .i64 p.2.2.2.2.1, .int .i64 p.2.2.2.2.2] 137)
  have hH := hH.alloc (.cells #[.string p.1, .int .i64 p.2.1.1, .string p.2.1.2.1, .int .i64 p.2.1.2.2.1, .int .i64 p.2.1.2.2.2, .int .i64 p.2.2.1, .string p.2.2.2.1, .int .i64 p.2.2.2.2.1, .int .i64 p.2.2.2.2.2] 137)
  have hR := hR.quiet ((G.refl _ none).alloc (.cells #[.string p.1, .int .i64 p.2.1.1, .string p.2.1.2.1, .int .i64 p.2.1.2.2.1, .int .i64 p.2.1.2.2.2, .int .i64 p.2.2.1, .string p.2.2.2.1, .int .i64 p.2.2.2.2.1, .int .i64 p.2.2.2.2.2] 137))
  clear HW hGH
  generalize (w.alloc (.cells #[.string h.1, .string h.2.1, .int .i64 h.2.2.1, .int .i64 h.2.2.2, .slice (some ⟨bb, bo, none⟩) l.length cap] 55)).alloc (.cells #[.string p.1, .int .i64 p.2.1.1, .string p.2.1.2.1, .int .i64 p.2.1.2.2.1, .int .i64 p.2.1.2.2.2, .int .i64 p.2.2.1, .string p.2.2.2.1, .int .i64 p.2.2.2.2.1, .int .i64 p.2.2.2.2.2] 137) = w2 at hL hG hH hR ⊢
  have c0 : w2.cell? ⟨w.heap.size + 1, 0, none⟩ = some (.string p.1) := hL.cell 0
  go_wp2_with fail
  refine (rkey_c _ _ hs1').mono ?_; rintro e w' ⟨rfl, hGk⟩
  have hL := hL.quiet hGk
  have hH := hH.quiet hGk
  have hR := hR.quiet hGk
  have hG := hG.trans hGk
  clear hGk c0
  have HO := Lib.hid (hL.part 1 #[.int .i64 p.2.1.1, .string p.2.1.2.1, .int .i64 p.2.1.2.2.1, .int .i64 p.2.1.2.2.2] (lg_out p))
  cases k1 : keyB p.1 with
  | false =>
    have HF : Hid (E = 5) := Lib.hid (by rw [HE.out, if_pos k1])
    clear k1
    go_wp2_with fail
    go_ret
    exact ⟨ret_int HF.out.symm, hG⟩
  | true =>
    have HE1 : Hid (E = if rgE p.2.1 = 0 then (if beE h.2.2.1 (prevAt l k) p = 0 then enE (l.drop (k + 1)).isEmpty p else beE h.2.2.1 (prevAt l k) p) else rgE p.2.1) := Lib.hid (by rw [HE.out, if_neg (by simp [k1])])
    clear k1 HE
    go_wp2_with (refine wpList_load_at rfl 51 _ rfl ⟨w.heap.size + 1, 1, none⟩ rfl #[.int .i64 p.2.1.1, .string p.2.1.2.1, .int .i64 p.2.1.2.2.1, .int .i64 p.2.1.2.2.2] _ HO.out Tryd.underlying51 rfl (rg_info p.2.1) ?_)
    refine (readingFault_c p.2.1 _ hs2).mono ?_; rintro e w4 ⟨rfl, hG4⟩
    have hL := hL.quiet hG4
    have hH := hH.quiet hG4
    have hR := hR.quiet hG4
    have hG := hG.trans hG4
    clear hG4 HO
    obtain ⟨R, hRR⟩ : ∃ R, rgE p.2.1 = R := ⟨_, rfl⟩
    rw [hRR] at HE1 ⊢
    clear hRR
    by_cases k2 : R = 0
    · have HE2 : Hid (E = if beE h.2.2.1 (prevAt l k) p = 0 then enE (l.drop (k + 1)).isEmpty p else beE h.2.2.1 (prevAt l k) p) := Lib.hid (by rw [HE1.out, if_pos k2])
      subst k2
      clear HE1
      obtain ⟨B, hB⟩ : ∃ B, beE h.2.2.1 (prevAt l k) p = B := ⟨_, rfl⟩
      rw [hB] at HE2
      have HBB := Lib.hid hB
      clear hB
      -- the beginning: meets again where it is none
      have c0 : w4.cell? ⟨w.heap.size + 1, 0, none⟩ = some (.string p.1) := hL.cell 0
      have c1 : w4.cell? ⟨w.heap.size + 1, 1, none⟩ = some (.int .i64 p.2.1.1) := hL.cell 1
      have c2 : w4.cell? ⟨w.heap.size + 1, 2, none⟩ = some (.string p.2.1.2.1) := hL.cell 2
      have d2 : w4.cell? ⟨w.heap.size, 2, none⟩ = some (.int .i64 h.2.2.1) := hH.cell 2
      have d4 : w4.cell? ⟨w.heap.size, 4, none⟩ = some (.slice (some ⟨bb, bo, none⟩) l.length cap) := hH.cell 4
      go_upto_if 25 with fail
      go_cut [] from 26 (fun w5 => B = 0 ∧ Bk w5 (w.heap.size + 1) 137 (lgC p) ∧ Bk w5 w.heap.size 55 #[.string h.1, .string h.2.1, .int .i64 h.2.2.1, .int .i64 h.2.2.2, .slice (some ⟨bb, bo, none⟩) l.length cap] ∧ G w w5 none)
      case first =>
        cases k with
        | zero =>
          by_cases hq : p.2.1.1 = h.2.2.1
          · have HF : Hid (B = 0) := Lib.hid (by rw [← HBB.out]; exact if_pos hq)
            go_wp2_with fail
            go_meet
            case rel => exact ⟨HF.out, hL, hH, hG⟩
          · have hB : B = 7 := by rw [← HBB.out]; exact if_neg hq
            have HF : Hid (E = 7) := Lib.hid (by rw [HE2.out, hB, if_neg (by decide)])
            clear hB
            go_wp2_with fail
            go_ret
            exact ⟨ret_int HF.out.symm, hG⟩
        | succ m =>
          obtain ⟨q, hq2⟩ : ∃ q, l[m]? = some q := ⟨_, List.getElem?_eq_getElem (by omega)⟩
          have HA : Hid (B = if p.2.1.1 = q.2.2.1 then (if p.1 = q.1 then 16 else if p.2.1.2.1 = q.2.2.2.1 then 0 else 8) else 7) := Lib.hid (by rw [← HBB.out, prevAt_succ l m q hq2]; rfl)
          have hsub : IntKind.i64.wrap (((m + 1 : Nat) : Int) - 1) = (m : Int) := by rw [show ((m + 1 : Nat) : Int) - 1 = (m : Int) by omega]; rw [IntKind.wrap_i64]; omega
          have hsub2 : IntKind.i64.wrap (m : Int) = (m : Int) := by rw [IntKind.wrap_i64]; omega
          have hsub3 : IntKind.i64.wrap ((m : Int) + 1 - 1) = (m : Int) := by rw [IntKind.wrap_i64]; omega
          have hm0 : (0 : Int) ≤ (m : Int) := Int.natCast_nonneg m
          have hml : (m : Int) < (l.length : Int) := by omega
          have hne : (((m + 1 : Nat) : Int) == 0) = false := by simp; omega
          have hne2 : ((m : Int) + 1 == 0) = false := by simp; omega
          have HW := Lib.hid (lgRow hR (G.refl _ none) hq2)
          have hHH := Lib.hid hH
          clear HBB hq2 c0 c1 c2 d2 hH
          go_upto_region 11 with (refine wpList_load_at rfl 137 _ rfl ⟨bb, bo + m * 9, none⟩ rfl #[.string q.1, .int .i64 q.2.1.1, .string q.2.1.2.1, .int .i64 q.2.1.2.2.1, .int .i64 q.2.1.2.2.2, .int .i64 q.2.2.1, .string q.2.2.2.1, .int .i64 q.2.2.2.2.1, .int .i64 q.2.2.2.2.2] _ HW.out Tryd.underlying137 rfl (lg_info q) ?_)
          have hQ := Bk.new w4 137 (lgC q)
          have hG := hG.alloc (.cells (lgC q) 137)
          have hL := hL.alloc (.cells (lgC q) 137)
          have hH := hHH.out.alloc (.cells (lgC q) 137)
          rw [show #[.string q.1, .int .i64 q.2.1.1, .string q.2.1.2.1, .int .i64 q.2.1.2.2.1, .int .i64 q.2.1.2.2.2, .int .i64 q.2.2.1, .string q.2.2.2.1, .int .i64 q.2.2.2.2.1, .int .i64 q.2.2.2.2.2] = lgC q from rfl]
          generalize w4.alloc (.cells (lgC q) 137) = w3 at hQ hG hL hH ⊢
          generalize w4.heap.size = g at hQ ⊢
          have c0 : w3.cell? ⟨w.heap.size + 1, 0, none⟩ = some (.string p.1) := hL.cell 0
          have c1 : w3.cell? ⟨w.heap.size + 1, 1, none⟩ = some (.int .i64 p.2.1.1) := hL.cell 1
          have c2 : w3.cell? ⟨w.heap.size + 1, 2, none⟩ = some (.string p.2.1.2.1) := hL.cell 2
          have q0 : w3.cell? ⟨g, 0, none⟩ = some (.string q.1) := hQ.cell 0
          have q5 : w3.cell? ⟨g, 5, none⟩ = some (.int .i64 q.2.2.1) := hQ.cell 5
          have q6 : w3.cell? ⟨g, 6, none⟩ = some (.string q.2.2.2.1) := hQ.cell 6
          clear hQ d4
          by_cases k1 : p.2.1.1 = q.2.2.1
          · have HA1 : Hid (B = if p.1 = q.1 then 16 else if p.2.1.2.1 = q.2.2.2.1 then 0 else 8) := Lib.hid (by rw [HA.out, if_pos k1])
            have k1' : (p.2.1.1 != q.2.2.1) = false := by simpa using k1
            clear k1 HA
            by_cases k2 : p.1 = q.1
            · have hB : B = 16 := by rw [HA1.out, if_pos k2]
              have k2' : (p.1.toList == q.1.toList) = true := by rw [k2]; simp
              clear k2
              have HF : Hid (E = 16) := Lib.hid (by rw [HE2.out, hB, if_neg (by decide)])
              clear hB
              go_wp2_with fail
              go_ret
              exact ⟨ret_int HF.out.symm, hG⟩
            · have HA2 : Hid (B = if p.2.1.2.1 = q.2.2.2.1 then 0 else 8) := Lib.hid (by rw [HA1.out, if_neg k2])
              have k2' : (p.1.toList == q.1.toList) = false := by simpa using fun e => k2 (toList_ext e)
              clear k2 HA1
              by_cases k3 : p.2.1.2.1 = q.2.2.2.1
              · have HF : Hid (B = 0) := Lib.hid (by rw [HA2.out, if_pos k3])
                have k3' : (p.2.1.2.1.toList == q.2.2.2.1.toList) = true := by rw [k3]; simp
                have k3n : (p.2.1.2.1.toList != q.2.2.2.1.toList) = false := by rw [k3]; simp
                clear k3
                go_wp2_with fail
                go_meet
                case rel => exact ⟨HF.out, hL, hH, hG⟩
              · have hB : B = 8 := by rw [HA2.out, if_neg k3]
                have k3' : (p.2.1.2.1.toList == q.2.2.2.1.toList) = false := by simpa using fun e => k3 (toList_ext e)
                have k3n : (p.2.1.2.1.toList != q.2.2.2.1.toList) = true := by simpa using fun e => k3 (toList_ext e)
                clear k3
                have HF : Hid (E = 8) := Lib.hid (by rw [HE2.out, hB, if_neg (by decide)])
                clear hB
                go_wp2_with fail
                go_ret
                exact ⟨ret_int HF.out.symm, hG⟩
          · have hB : B = 7 := by rw [HA.out, if_neg k1]
            have k1' : (p.2.1.1 != q.2.2.1) = true := by simpa using k1
            clear k1
            have HF : Hid (E = 7) := Lib.hid (by rw [HE2.out, hB, if_neg (by decide)])
            clear hB
            go_wp2_with fail
            go_ret
            exact ⟨ret_int HF.out.symm, hG⟩
      case rest =>
        obtain ⟨hB0, hL, hH, hG⟩ := hcut
        have HE : Hid (E = if p.2.2.1 = -1 then (if p.2.2 = noIn then (if decide (l.length ≤ k + 1) = true then 0 else 11) else 3) else if rgE p.2.2 = 0 then (if p.2.2.1 ≤ p.2.1.1 then 7 else 0) else rgE p.2.2) := Lib.hid (by rw [HE2.out, if_pos hB0, drop_empty]; rfl)
        clear hB0 HE2 HBB c0 c1 c2 d2 d4 hR
        generalize wc = w3 at hL hH hG ⊢
        have HP := Lib.hid (hL.part 5 #[.int .i64 p.2.2.1, .string p.2.2.2.1, .int .i64 p.2.2.2.2.1, .int .i64 p.2.2.2.2.2] (lg_in p))
        have c1 : w3.cell? ⟨w.heap.size + 1, 1, none⟩ = some (.int .i64 p.2.1.1) := hL.cell 1
        have c5 : w3.cell? ⟨w.heap.size + 1, 5, none⟩ = some (.int .i64 p.2.2.1) := hL.cell 5
        have d4 : w3.cell? ⟨w.heap.size, 4, none⟩ = some (.slice (some ⟨bb, bo, none⟩) l.length cap) := hH.cell 4
        clear hH
        by_cases k1 : p.2.2.1 = -1
        · have k1' : (p.2.2.1 == -1) = true := by simpa using k1
          have HN := fun w : World => rg_neq p.2.2 noIn w
          by_cases k2 : p.2.2 = noIn
          · have HNN : Hid (∀ w : World, (binOp .neq 51 (.agg #[.int .i64 p.2.2.1, .string p.2.2.2.1, .int .i64 p.2.2.2.2.1, .int .i64 p.2.2.2.2.2]) (.agg #[.int .i64 (-1), .string ⟨#[]⟩, .int .i64 0, .int .i64 0])).run Tryd.prog w = .ok (.bool false) w) := Lib.hid fun w => by
              have := HN w
              rw [decide_eq_true k2] at this
              exact this
            have hnn := HNN.out
            have HE : Hid (E = if decide (l.length ≤ k + 1) = true then 0 else 11) := Lib.hid (by rw [HE.out, if_pos k1, if_pos k2])
            have hl1 : IntKind.i64.wrap ((l.length : Int) - 1) = (l.length : Int) - 1 := by rw [IntKind.wrap_i64]; omega
            clear k1 k2 HN HNN
            by_cases k3 : l.length ≤ k + 1
            · have HF : Hid (E = 0) := Lib.hid (by rw [HE.out, if_pos (decide_eq_true k3)])
              have k3' : ¬ ((k : Int) < (l.length : Int) - 1) := by omega
              clear k3
              go_wp2_with (refine wpList_load_at rfl 51 _ rfl ⟨w.heap.size + 1, 5, none⟩ rfl #[.int .i64 p.2.2.1, .string p.2.2.2.1, .int .i64 p.2.2.2.2.1, .int .i64 p.2.2.2.2.2] _ HP.out Tryd.underlying51 rfl (rg_info p.2.2) ?_)
              go_ret
              exact ⟨ret_int HF.out.symm, hG⟩
            · have HF : Hid (E = 11) := Lib.hid (by rw [HE.out, if_neg (by simpa using k3)])
              have k3' : (k : Int) < (l.length : Int) - 1 := by omega
              clear k3
              go_wp2_with (refine wpList_load_at rfl 51 _ rfl ⟨w.heap.size + 1, 5, none⟩ rfl #[.int .i64 p.2.2.1, .string p.2.2.2.1, .int .i64 p.2.2.2.2.1, .int .i64 p.2.2.2.2.2] _ HP.out Tryd.underlying51 rfl (rg_info p.2.2) ?_)
              go_ret
              exact ⟨ret_int HF.out.symm, hG⟩
          · have HNN : Hid (∀ w : World, (binOp .neq 51 (.agg #[.int .i64 p.2.2.1, .string p.2.2.2.1, .int .i64 p.2.2.2.2.1, .int .i64 p.2.2.2.2.2]) (.agg #[.int .i64 (-1), .string ⟨#[]⟩, .int .i64 0, .int .i64 0])).run Tryd.prog w = .ok (.bool true) w) := Lib.hid fun w => by
              have := HN w
              rw [decide_eq_false k2] at this
              exact this
            have hnn := HNN.out
            have HF : Hid (E = 3) := Lib.hid (by rw [HE.out, if_pos k1, if_neg k2])
            clear HE k1 k2 HN HNN
            go_wp2_with (refine wpList_load_at rfl 51 _ rfl ⟨w.heap.size + 1, 5, none⟩ rfl #[.int .i64 p.2.2.1, .string p.2.2.2.1, .int .i64 p.2.2.2.2.1, .int .i64 p.2.2.2.2.2] _ HP.out Tryd.underlying51 rfl (rg_info p.2.2) ?_)
            go_ret
            exact ⟨ret_int HF.out.symm, hG⟩
        · have k1' : (p.2.2.1 == -1) = false := by simpa using k1
          have HE : Hid (E = if rgE p.2.2 = 0 then (if p.2.2.1 ≤ p.2.1.1 then 7 else 0) else rgE p.2.2) := Lib.hid (by rw [HE.out, if_neg k1])
          clear k1
          go_wp2_with (refine wpList_load_at rfl 51 _ rfl ⟨w.heap.size + 1, 5, none⟩ rfl #[.int .i64 p.2.2.1, .string p.2.2.2.1, .int .i64 p.2.2.2.2.1, .int .i64 p.2.2.2.2.2] _ HP.out Tryd.underlying51 rfl (rg_info p.2.2) ?_)
          refine (readingFault_c p.2.2 _ hs3).mono ?_; rintro e w4 ⟨rfl, hG4⟩
          have hL := hL.quiet hG4
          have hG := hG.trans hG4
          clear hG4 c1 c5 d4 HP
          have c1 : w4.cell? ⟨w.heap.size + 1, 1, none⟩ = some (.int .i64 p.2.1.1) := hL.cell 1
          have c5 : w4.cell? ⟨w.heap.size + 1, 5, none⟩ = some (.int .i64 p.2.2.1) := hL.cell 5
          obtain ⟨R, hR⟩ : ∃ R, rgE p.2.2 = R := ⟨_, rfl⟩
          rw [hR] at HE ⊢
          clear hR
          by_cases k2 : R = 0
          · have HE5 : Hid (E = if p.2.2.1 ≤ p.2.1.1 then 7 else 0) := Lib.hid (by rw [HE.out, if_pos k2])
            subst k2
            by_cases k3 : p.2.2.1 ≤ p.2.1.1
            · have HF : Hid (E = 7) := Lib.hid (by rw [HE5.out, if_pos k3])
              go_wp2_with fail
              go_ret
              exact ⟨ret_int HF.out.symm, hG⟩
            · have HF : Hid (E = 0) := Lib.hid (by rw [HE5.out, if_neg k3])
              go_wp2_with fail
              go_ret
              exact ⟨ret_int HF.out.symm, hG⟩
          · have HF : Hid (E = R) := Lib.hid (by rw [HE.out, if_neg k2])
            have k2' : (R != 0) = true := by simpa using k2
            clear k2
            go_wp2_with fail
            go_ret
            exact ⟨ret_int HF.out.symm, hG⟩
    · have HF : Hid (E = R) := Lib.hid (by rw [HE1.out, if_neg k2])
      have k2' : (R != 0) = true := by simpa using k2
      clear k2 HE1
      go_wp2_with fail
      go_ret
      exact ⟨ret_int HF.out.symm, hG⟩
set_option maxRecDepth 100000 in
set_option maxHeartbeats 4000000 in
theorem hireFault_c (h : Hh) (v : Value) (l : List Lg) (w : World) (hr : RdR w 9 lgC v l) (hl : LgOk l) (hs1 : Small h.1) (hs2 : Small h.2.1) (hb1 : bnd h.2.2.1) (hb2 : bnd h.2.2.2) (hn : l.length ≤ 1000) :
    Calls Tryd.prog 137 #[.agg (hiC h v)] w fun e w' => e = .returned (.int .i64 (hiE h l)) ∧ G w w' none := by
  have hH := Bk.new w 55 (hiC h v)
  have hG := (G.refl w none).alloc (.cells (hiC h v) 55)
  have hR := hr.quiet hG
  obtain ⟨a, cap, rfl, hcap, hm⟩ := RdR.form hr
  clear hr
  unfold Small at hs1 hs2
  obtain ⟨E, hE⟩ : ∃ E, hiE h l = E := ⟨_, rfl⟩
  have HE : Hid (E = if keyB h.1 = false then 5 else if keyB h.2.1 = false then 5 else if tE h.2.2.1 h.2.2.2 = 0 then (if l.length = 0 then 3 else if 20 < l.length then 2 else lsE h.2.2.1 none l) else tE h.2.2.1 h.2.2.2) := Lib.hid hE.symm
  rw [hE]
  clear hE
  simp only [hiC] at hH hG hR ⊢
  go_enter Tryd.func137, Tryd.ntmps137
  go_upto_region 1 with fail
  generalize w.alloc (.cells #[.string h.1, .string h.2.1, .int .i64 h.2.2.1, .int .i64 h.2.2.2, .slice a l.length cap] 55) = w2 at hG hH hR ⊢
  have hg := hH.lt
  generalize w.heap.size = g at hH hg ⊢
  have c0 : w2.cell? ⟨g, 0, none⟩ = some (.string h.1) := hH.cell 0
  have c1 : w2.cell? ⟨g, 1, none⟩ = some (.string h.2.1) := hH.cell 1
  go_wp2_with fail
  refine (rkey_c _ _ hs1).mono ?_; rintro e w' ⟨rfl, hGk⟩
  have hH := hH.quiet hGk
  have hR := hR.quiet hGk
  have hG := hG.trans hGk
  clear hGk c0 c1
  have c1 : w'.cell? ⟨g, 1, none⟩ = some (.string h.2.1) := hH.cell 1
  cases k1 : keyB h.1 with
  | false =>
    have HF : Hid (E = 5) := Lib.hid (by rw [HE.out, if_pos k1])
    clear k1
    go_wp2_with fail
    go_ret
    exact ⟨ret_int HF.out.symm, hG⟩
  | true =>
    have K1 := Lib.hid k1
    clear k1
    go_wp2_with fail
    refine (rkey_c _ _ hs2).mono ?_; rintro e w4 ⟨rfl, hGk⟩
    have hH := hH.quiet hGk
    have hR := hR.quiet hGk
    have hG := hG.trans hGk
    clear hGk c1
    cases k2 : keyB h.2.1 with
    | false =>
      have HF : Hid (E = 5) := Lib.hid (by rw [HE.out, if_neg (by simp [K1.out]), if_pos k2])
      clear k2
      go_wp2_with fail
      go_ret
      exact ⟨ret_int HF.out.symm, hG⟩
    | true =>
      have HE1 : Hid (E = if tE h.2.2.1 h.2.2.2 = 0 then (if l.length = 0 then 3 else if 20 < l.length then 2 else lsE h.2.2.1 none l) else tE h.2.2.1 h.2.2.2) := Lib.hid (by rw [HE.out, if_neg (by simp [K1.out]), if_neg (by simp [k2])])
      clear k2 HE
      have HT := Lib.hid (hH.part 2 #[.int .i64 h.2.2.1, .int .i64 h.2.2.2] (hi_time h _))
      go_wp2_with (refine wpList_load_at rfl 29 _ rfl ⟨g, 2, none⟩ rfl #[.int .i64 h.2.2.1, .int .i64 h.2.2.2] _ HT.out Tryd.underlying29 rfl (wi_info _ _) ?_)
      refine (timeFault_c _ _ _ hb1 hb2).mono ?_; rintro e w3 ⟨rfl, hG3⟩
      have hH := hH.quiet hG3
      have hR := hR.quiet hG3
      have hG := hG.trans hG3
      clear hG3 HT
      obtain ⟨T, hT⟩ : ∃ T, tE h.2.2.1 h.2.2.2 = T := ⟨_, rfl⟩
      rw [hT] at HE1 ⊢
      clear hT
      by_cases k3 : T = 0
      · have HE2 : Hid (E = if l.length = 0 then 3 else if 20 < l.length then 2 else lsE h.2.2.1 none l) := Lib.hid (by rw [HE1.out, if_pos k3])
        subst k3
        clear HE1
        have c4 : w3.cell? ⟨g, 4, none⟩ = some (.slice a l.length cap) := hH.cell 4
        by_cases k4 : l.length = 0
        · have HF : Hid (E = 3) := Lib.hid (by rw [HE2.out, if_pos k4])
          have k4' : ((l.length : Int) == 0) = true := by rw [k4]; rfl
          clear k4
          go_wp2_with fail
          go_ret
          exact ⟨ret_int HF.out.symm, hG⟩
        · have k4' : ((l.length : Int) == 0) = false := by rw [beq_eq_false_iff_ne]; omega
          by_cases k5 : 20 < l.length
          · have HF : Hid (E = 2) := Lib.hid (by rw [HE2.out, if_neg k4, if_pos k5])
            have k5' : (20 : Int) < (l.length : Int) := by omega
            clear k5 k4
            go_wp2_with fail
            go_ret
            exact ⟨ret_int HF.out.symm, hG⟩
          · have HE3 : Hid (E = lsE h.2.2.1 none l) := Lib.hid (by rw [HE2.out, if_neg k4, if_neg k5])
            have k5' : ¬ (20 : Int) < (l.length : Int) := by omega
            clear k5 k4 HE2
            have HHH := Lib.hid hH
            have HRR := Lib.hid hR
            clear hH hR
            go_wp2_with fail
            go_loopw [35] (LsRel w3 h.2.2.1 l) (fun i _ => l.length - (intOf i).toNat)
            case atStart => exact ⟨0, by omega, rfl, rfl, G.refl _ _⟩
            case round =>
              obtain ⟨k, hkl, rfl, heq, hGr⟩ := hrel
              have HEq := Lib.hid heq
              clear heq c4
              have hH := HHH.out.quiet hGr
              have hR := HRR.out.quiet hGr
              by_cases hk : k < l.length
              · obtain ⟨p, hp⟩ : ∃ p, l[k]? = some p := ⟨_, List.getElem?_eq_getElem hk⟩
                have hdrop : l.drop k = p :: l.drop (k + 1) := by rw [List.drop_eq_getElem_cons hk, ← (List.getElem?_eq_some_iff.1 hp).2]
                have HS : Hid (lsE h.2.2.1 none l = if lgE h.2.2.1 (prevAt l k) (l.drop (k + 1)).isEmpty p = 0 then lsE h.2.2.1 (some p) (l.drop (k + 1)) else lgE h.2.2.1 (prevAt l k) (l.drop (k + 1)).isEmpty p) := Lib.hid (by rw [HEq.out, hdrop]; rfl)
                have hpb := hl p (List.mem_of_getElem? hp)
                have HP := Lib.hid hp
                have HK := Lib.hid hk
                have hki : (k : Int) < (l.length : Int) := by omega
                clear hdrop hp
                go_wp2_with (refine wpList_load_row rfl 55 _ rfl g rfl 55 #[.string h.1, .string h.2.1, .int .i64 h.2.2.1, .int .i64 h.2.2.2, .slice a l.length cap] (0, 0) _ hH Tryd.underlying55 rfl (hi_info h _) ?_)
                refine (legFault_c h _ l k p _ hR HP.out hpb hn).mono ?_; rintro e w5 ⟨rfl, hG5⟩
                have hGr5 := hGr.trans hG5
                clear hG5 hGr hH hR hpb
                obtain ⟨L, hL⟩ : ∃ L, lgE h.2.2.1 (prevAt l k) (l.drop (k + 1)).isEmpty p = L := ⟨_, rfl⟩
                rw [hL] at HS ⊢
                clear hL
                by_cases k6 : L = 0
                · have HF : Hid (lsE h.2.2.1 none l = lsE h.2.2.1 (prevAt l (k + 1)) (l.drop (k + 1))) := Lib.hid (by rw [HS.out, if_pos k6, prevAt_succ l k p HP.out])
                  subst k6
                  clear HS
                  go_wp2_with fail
                  go_roundw
                  case rel => exact ⟨k + 1, by omega, by go_num, HF.out, hGr5⟩
                  case measure => have := HK.out; simp [intOf]; omega
                · have HF : Hid (E = L) := Lib.hid (by rw [HE3.out, HS.out, if_neg k6])
                  have k6' : (L != 0) = true := by simpa using k6
                  clear k6 HS
                  go_wp2_with fail
                  go_ret
                  exact ⟨ret_int HF.out.symm, hG.trans hGr5⟩
              · obtain rfl : k = l.length := by omega
                have HF : Hid (E = 0) := Lib.hid (by rw [HE3.out, HEq.out, List.drop_length]; rfl)
                go_wp2_with fail
                go_ret
                exact ⟨ret_int HF.out.symm, hG.trans hGr⟩
      · have HF : Hid (E = T) := Lib.hid (by rw [HE1.out, if_neg k3])
        have k3' : (T != 0) = true := by simpa using k3
        clear k3 HE1
        go_wp2_with fail
        go_ret
        exact ⟨ret_int HF.out.symm, hG⟩
end Go.Proofs.YtndeidcddlmhbaaDoor

/- Hires: openLeg, right, Start; made, StartOf. -/
namespace Go.Proofs.YtndeidcddlmhbaaDoor
open Go.RowKit

def hiZ : Array Value := hiC (⟨#[]⟩, ⟨#[]⟩, 0, 0) (.slice none 0 0)
/-- What is returned of a hire: itself, or none. -/
def hiH (E : Int) (h : Hh) : Hh := if E = 0 then h else (⟨#[]⟩, ⟨#[]⟩, 0, 0)
def hiL (E : Int) (l : List Lg) : List Lg := if E = 0 then l else []
def MadePost (h : Hh) (l : List Lg) (B : Nat → Prop) (w : World) (e : Ending) (w' : World) : Prop :=
  ∃ (H : Hh) (a : Option Addr) (n c : Nat), e = .returned (.tuple #[.agg #[.string H.1, .string H.2.1, .int .i64 H.2.2.1, .int .i64 H.2.2.2, .slice a n c], .int .i64 (hiE h l)]) ∧ H = hiH (hiE h l) h ∧ (∀ k, (Value.slice a n c).ownBlock = some k → B k) ∧ RdR w' 9 lgC (.slice a n c) (hiL (hiE h l) l) ∧ G w w' none
/-- A row's block is there. -/
theorem Rd.blk {w : World} {z : Nat} {v : Value} {n : Nat} {cs : List Value} (h : Rd w z v n cs) : ∀ k, v.ownBlock = some k → k < w.heap.size := by
  obtain ⟨a, c, rfl, h1, h2, h3, h4, h5⟩ := h
  intro k hk
  cases a with
  | none => cases hk
  | some b =>
    have := (h5 b rfl).2.1
    cases hk
    exact this
theorem hi_one (h : Hh) (a : Option Addr) (n c : Nat) : (hiC h (.slice a n c)).all (·.oneCell') = true := by simp [hiC, Value.oneCell']
theorem lg_one (x : Lg) : (lgC x).all (·.oneCell') = true := by simp [lgC, Value.oneCell']
/-- Two results, the first a struct that lies in memory. -/
theorem results_cell_hi {P : Program} {fn : Func} {p u : Tmp} {ty : TypeId} (h : fn.results = #[.cell p ty, .tmp u]) (tmps : Array Value) (w : World) (g : Nat) (t : TypeId) (cs : Array Value) (fr : Nat × Nat) (d : TypeDesc)
    (hp : tmps.getD p undef = .pointer (some ⟨g, 0, none⟩)) (hg : w.heap[g]? = some (.cells cs t fr))
    (hu : P.underlying ty = some d) (hd : (match d with | .struct _ | .array _ _ => true | _ => false) = true) (hi : (P.info? ty).map (·.size) = some cs.size) :
    (results fn tmps).run P w = .ok (.tuple #[.agg cs, tmps.getD u undef]) w := by
  have hp' : tmps[p]?.getD undef = .pointer (some ⟨g, 0, none⟩) := by simpa using hp
  simp [results, h, hp', asAddr, run_loadVar_row w g t ty cs fr d hg hu hd hi]
set_option maxRecDepth 100000 in
set_option maxHeartbeats 4000000 in
theorem right_c (h : Hh) (v : Value) (l : List Lg) (w : World) (hr : RdR w 9 lgC v l) (hl : LgOk l) (hs1 : Small h.1) (hs2 : Small h.2.1) (hb1 : bnd h.2.2.1) (hb2 : bnd h.2.2.2) (hn : l.length ≤ 1000) :
    Calls Tryd.prog 90 #[.agg (hiC h v)] w (MadePost h l (fun k => v.ownBlock = some k) w) := by
  have hH := (Bk.new w 55 (hiC h v)).alloc (.cells hiZ 55)
  have hG := ((G.refl w none).alloc (.cells (hiC h v) 55)).alloc (.cells hiZ 55)
  have hZ := Bk.newAt (w := w.alloc (.cells (hiC h v) 55)) (b := w.heap.size + 1) (by simp) 55 hiZ
  have hR := hr.quiet hG
  have HLO := Lib.hid hr.blk
  obtain ⟨a, cap, rfl, hcap, hm⟩ := RdR.form hr
  clear hr
  simp only [hiC, hiZ] at hH hG hR hZ ⊢
  go_enter Tryd.func90, Tryd.ntmps90
  go_upto_region 1 with fail
  generalize (w.alloc (.cells #[.string h.1, .string h.2.1, .int .i64 h.2.2.1, .int .i64 h.2.2.2, .slice a l.length cap] 55)).alloc (.cells #[.string ⟨#[]⟩, .string ⟨#[]⟩, .int .i64 0, .int .i64 0, .slice none 0 0] 55) = w2 at hG hH hR hZ ⊢
  go_wp2_with (refine wpList_load_row rfl 55 _ rfl w.heap.size rfl 55 #[.string h.1, .string h.2.1, .int .i64 h.2.2.1, .int .i64 h.2.2.2, .slice a l.length cap] (0, 0) _ hH Tryd.underlying55 rfl (hi_info h _) ?_)
  refine (check_c h _ l _ hR hl hs1 hs2 hb1 hb2 hn).mono ?_; rintro e w3 ⟨rfl, hG3⟩
  have hH := hH.quiet hG3
  have hZ := hZ.quiet hG3
  have hG := hG.trans hG3
  have hR := hR.quiet hG3
  clear hG3
  obtain ⟨E, hE⟩ : ∃ E, hiE h l = E := ⟨_, rfl⟩
  have HFIN : Hid (hiE h l = E) := Lib.hid hE
  rw [hE]
  clear hE
  by_cases k1 : E = 0
  · subst k1
    go_wp2_with (first | (refine wpList_load_row rfl 55 _ rfl w.heap.size rfl 55 #[.string h.1, .string h.2.1, .int .i64 h.2.2.1, .int .i64 h.2.2.2, .slice a l.length cap] (0, 0) _ hH Tryd.underlying55 rfl (hi_info h _) ?_) | (refine wpList_store_row rfl 55 _ _ rfl (w.heap.size + 1) #[.string h.1, .string h.2.1, .int .i64 h.2.2.1, .int .i64 h.2.2.2, .slice a l.length cap] rfl rfl 55 _ hZ (hi_info _ _) rfl (hi_one h _ _ _) ?_))
    refine bodyPost_ret (results_cell_hi rfl _ _ (w.heap.size + 1) 55 #[.string h.1, .string h.2.1, .int .i64 h.2.2.1, .int .i64 h.2.2.2, .slice a l.length cap] (0, 0) _ rfl (hZ.setRow _) Tryd.underlying55 rfl (hi_info h _)) rfl ?_
    exact ⟨h, a, l.length, cap, by rw [HFIN.out]; rfl, by rw [HFIN.out]; rfl, fun _ hk => hk, by rw [HFIN.out]; exact hR.grown ((G.refl w3 (some (w.heap.size + 1))).setRow (.inr rfl) _) (fun k e hk => by cases e; have := HLO.out _ hk; omega), hG.setRow (.inl (by omega)) _⟩
  · have k1' : (E != 0) = true := by simpa using k1
    have K1 := Lib.hid k1
    clear k1
    go_wp2_with (refine wpList_store_row rfl 55 _ _ rfl (w.heap.size + 1) #[.string ⟨#[]⟩, .string ⟨#[]⟩, .int .i64 0, .int .i64 0, .slice none 0 0] rfl rfl 55 _ hZ (hi_info (⟨#[]⟩, ⟨#[]⟩, 0, 0) (.slice none 0 0)) rfl (hi_one (⟨#[]⟩, ⟨#[]⟩, 0, 0) _ _ _) ?_)
    refine bodyPost_ret (results_cell_hi rfl _ _ (w.heap.size + 1) 55 #[.string ⟨#[]⟩, .string ⟨#[]⟩, .int .i64 0, .int .i64 0, .slice none 0 0] (0, 0) _ rfl (hZ.setRow _) Tryd.underlying55 rfl (hi_info (⟨#[]⟩, ⟨#[]⟩, 0, 0) (.slice none 0 0))) rfl ?_
    exact ⟨(⟨#[]⟩, ⟨#[]⟩, 0, 0), none, 0, 0, by rw [HFIN.out]; rfl, by rw [HFIN.out, hiH, if_neg K1.out], fun _ hk => (by cases hk), by rw [HFIN.out, hiL, if_neg K1.out]; exact RdR.nil _ _ _, hG.setRow (.inl (by omega)) _⟩
set_option maxRecDepth 100000 in
set_option maxHeartbeats 4000000 in
theorem made_c (h : Hh) (v : Value) (l : List Lg) (w : World) (hr : RdR w 9 lgC v l) (hl : LgOk l) (hs1 : Small h.1) (hs2 : Small h.2.1) (hb1 : bnd h.2.2.1) (hb2 : bnd h.2.2.2) (hn : l.length ≤ 1000) :
    Calls Tryd.prog 92 #[.agg (hiC h v)] w (MadePost h l (fun k => v.ownBlock = some k) w) := by
  have hH := (Bk.new w 55 (hiC h v)).alloc (.cells hiZ 55)
  have hG := ((G.refl w none).alloc (.cells (hiC h v) 55)).alloc (.cells hiZ 55)
  have hZ := Bk.newAt (w := w.alloc (.cells (hiC h v) 55)) (b := w.heap.size + 1) (by simp) 55 hiZ
  have hR := hr.quiet hG
  have HLO := Lib.hid hr.blk
  obtain ⟨a, cap, rfl, hcap, hm⟩ := RdR.form hr
  clear hr
  simp only [hiC, hiZ] at hH hG hR hZ ⊢
  go_enter Tryd.func92, Tryd.ntmps92
  go_upto_region 1 with fail
  generalize (w.alloc (.cells #[.string h.1, .string h.2.1, .int .i64 h.2.2.1, .int .i64 h.2.2.2, .slice a l.length cap] 55)).alloc (.cells #[.string ⟨#[]⟩, .string ⟨#[]⟩, .int .i64 0, .int .i64 0, .slice none 0 0] 55) = w2 at hG hH hR hZ ⊢
  go_wp2_with (refine wpList_load_row rfl 55 _ rfl w.heap.size rfl 55 #[.string h.1, .string h.2.1, .int .i64 h.2.2.1, .int .i64 h.2.2.2, .slice a l.length cap] (0, 0) _ hH Tryd.underlying55 rfl (hi_info h _) ?_)
  refine (hireFault_c h _ l _ hR hl hs1 hs2 hb1 hb2 hn).mono ?_; rintro e w3 ⟨rfl, hG3⟩
  have hH := hH.quiet hG3
  have hZ := hZ.quiet hG3
  have hG := hG.trans hG3
  have hR := hR.quiet hG3
  clear hG3
  obtain ⟨E, hE⟩ : ∃ E, hiE h l = E := ⟨_, rfl⟩
  have HFIN : Hid (hiE h l = E) := Lib.hid hE
  rw [hE]
  clear hE
  by_cases k1 : E = 0
  · subst k1
    go_wp2_with (first | (refine wpList_load_row rfl 55 _ rfl w.heap.size rfl 55 #[.string h.1, .string h.2.1, .int .i64 h.2.2.1, .int .i64 h.2.2.2, .slice a l.length cap] (0, 0) _ hH Tryd.underlying55 rfl (hi_info h _) ?_) | (refine wpList_store_row rfl 55 _ _ rfl (w.heap.size + 1) #[.string h.1, .string h.2.1, .int .i64 h.2.2.1, .int .i64 h.2.2.2, .slice a l.length cap] rfl rfl 55 _ hZ (hi_info _ _) rfl (hi_one h _ _ _) ?_))
    refine bodyPost_ret (results_cell_hi rfl _ _ (w.heap.size + 1) 55 #[.string h.1, .string h.2.1, .int .i64 h.2.2.1, .int .i64 h.2.2.2, .slice a l.length cap] (0, 0) _ rfl (hZ.setRow _) Tryd.underlying55 rfl (hi_info h _)) rfl ?_
    exact ⟨h, a, l.length, cap, by rw [HFIN.out]; rfl, by rw [HFIN.out]; rfl, fun _ hk => hk, by rw [HFIN.out]; exact hR.grown ((G.refl w3 (some (w.heap.size + 1))).setRow (.inr rfl) _) (fun k e hk => by cases e; have := HLO.out _ hk; omega), hG.setRow (.inl (by omega)) _⟩
  · have k1' : (E != 0) = true := by simpa using k1
    have K1 := Lib.hid k1
    clear k1
    go_wp2_with (refine wpList_store_row rfl 55 _ _ rfl (w.heap.size + 1) #[.string ⟨#[]⟩, .string ⟨#[]⟩, .int .i64 0, .int .i64 0, .slice none 0 0] rfl rfl 55 _ hZ (hi_info (⟨#[]⟩, ⟨#[]⟩, 0, 0) (.slice none 0 0)) rfl (hi_one (⟨#[]⟩, ⟨#[]⟩, 0, 0) _ _ _) ?_)
    refine bodyPost_ret (results_cell_hi rfl _ _ (w.heap.size + 1) 55 #[.string ⟨#[]⟩, .string ⟨#[]⟩, .int .i64 0, .int .i64 0, .slice none 0 0] (0, 0) _ rfl (hZ.setRow _) Tryd.underlying55 rfl (hi_info (⟨#[]⟩, ⟨#[]⟩, 0, 0) (.slice none 0 0))) rfl ?_
    exact ⟨(⟨#[]⟩, ⟨#[]⟩, 0, 0), none, 0, 0, by rw [HFIN.out]; rfl, by rw [HFIN.out, hiH, if_neg K1.out], fun _ hk => (by cases hk), by rw [HFIN.out, hiL, if_neg K1.out]; exact RdR.nil _ _ _, hG.setRow (.inl (by omega)) _⟩
set_option maxRecDepth 100000 in
set_option maxHeartbeats 2000000 in
theorem openLeg_c (s : ByteArray) (r : Rg) (w : World) : Calls Tryd.prog 91 #[.string s, .agg (rgC r)] w fun e w' => e = .returned (.agg (lgC (s, r, noIn))) ∧ G w w' none := by
  have hZ := Bk.newAt (w := w.alloc (.cells (rgC r) 51)) (b := w.heap.size + 1) (by simp) 137 (lgC (⟨#[]⟩, (0, ⟨#[]⟩, 0, 0), (0, ⟨#[]⟩, 0, 0)))
  have hB := (Bk.new w 51 (rgC r)).alloc (.cells (lgC (⟨#[]⟩, (0, ⟨#[]⟩, 0, 0), (0, ⟨#[]⟩, 0, 0))) 137)
  have hG := ((G.refl w none).alloc (.cells (rgC r) 51)).alloc (.cells (lgC (⟨#[]⟩, (0, ⟨#[]⟩, 0, 0), (0, ⟨#[]⟩, 0, 0))) 137)
  obtain ⟨r1, r2, r3, r4⟩ := r
  simp only [rgC, lgC, noIn] at hZ hB hG ⊢
  go_enter Tryd.func91, Tryd.ntmps91
  go_upto_region 1 with fail
  generalize (w.alloc (.cells #[.int .i64 r1, .string r2, .int .i64 r3, .int .i64 r4] 51)).alloc (.cells #[.string ⟨#[]⟩, .int .i64 0, .string ⟨#[]⟩, .int .i64 0, .int .i64 0, .int .i64 0, .string ⟨#[]⟩, .int .i64 0, .int .i64 0] 137) = w2 at hG hB hZ ⊢
  go_wp2_with (first | (refine wpList_load_row rfl 51 _ rfl w.heap.size rfl 51 #[.int .i64 r1, .string r2, .int .i64 r3, .int .i64 r4] (0, 0) _ hB Tryd.underlying51 rfl (rg_info (r1, r2, r3, r4)) ?_) | (refine wpList_store_row rfl 137 _ _ rfl (w.heap.size + 1) #[.string s, .int .i64 r1, .string r2, .int .i64 r3, .int .i64 r4, .int .i64 (-1), .string ⟨#[]⟩, .int .i64 0, .int .i64 0] rfl rfl 137 _ hZ (lg_info (s, (r1, r2, r3, r4), noIn)) rfl (lg_one (s, (r1, r2, r3, r4), noIn)) ?_))
  refine bodyPost_ret (results_cell_row rfl _ _ (w.heap.size + 1) 137 #[.string s, .int .i64 r1, .string r2, .int .i64 r3, .int .i64 r4, .int .i64 (-1), .string ⟨#[]⟩, .int .i64 0, .int .i64 0] (0, 0) _ rfl (hZ.setRow _) Tryd.underlying137 rfl (lg_info (s, (r1, r2, r3, r4), noIn))) rfl ?_
  exact ⟨rfl, hG.setRow (.inl (by omega)) _⟩
end Go.Proofs.YtndeidcddlmhbaaDoor

/- Hires: slices.Clone of legs, the last leg, whether it is open; a change to a copy of an open hire. -/
namespace Go.Proofs.YtndeidcddlmhbaaDoor
open Go.RowKit

/-- Nothing that was there has turned, but the blocks of S. -/
structure GS (S : Nat → Prop) (a b : World) : Prop where
  os : b.os = a.os
  tape : b.tape = a.tape
  output : b.output = a.output
  size : a.heap.size ≤ b.heap.size
  block : ∀ k, k < a.heap.size → ¬ S k → b.heap[k]? = a.heap[k]?
theorem GS.of_G {S : Nat → Prop} {a b : World} (h : G a b none) : GS S a b := ⟨h.os, h.tape, h.output, h.size, fun k hk _ => h.block k hk (by simp)⟩
theorem GS.of_Gs {S : Nat → Prop} {a b : World} {s : Nat} (h : G a b (some s)) (hs : S s) : GS S a b := ⟨h.os, h.tape, h.output, h.size, fun k hk hS => h.block k hk (fun e => by cases e; exact hS hs)⟩
theorem GS.trans {S : Nat → Prop} {a b c : World} (h : GS S a b) (k : GS S b c) : GS S a c :=
  ⟨k.os.trans h.os, k.tape.trans h.tape, k.output.trans h.output, Nat.le_trans h.size k.size, fun j hj hS => (k.block j (Nat.lt_of_lt_of_le hj h.size) hS).trans (h.block j hj hS)⟩
theorem GS.mono {S T : Nat → Prop} {a b : World} (h : GS S a b) (hST : ∀ k, k < a.heap.size → S k → T k) : GS T a b := ⟨h.os, h.tape, h.output, h.size, fun k hk hT => h.block k hk (fun hS => hT (hST k hk hS))⟩
/-- The blocks that were written were made since. -/
theorem GS.own {S : Nat → Prop} {A a b : World} (hG : G A a none) (h : GS S a b) (hS : ∀ k, S k → A.heap.size ≤ k) : G A b none :=
  ⟨h.os.trans hG.os, h.tape.trans hG.tape, h.output.trans hG.output, Nat.le_trans hG.size h.size, fun k hk _ => (h.block k (Nat.lt_of_lt_of_le hk hG.size) (fun hs => by have := hS k hs; omega)).trans (hG.block k hk (by simp))⟩
theorem Bk.gs {S : Nat → Prop} {w w' : World} {g : Nat} {T : TypeId} {cs : Array Value} (h : Bk w g T cs) (hg : GS S w w') (hs : ¬ S g) : Bk w' g T cs := (hg.block g h.lt hs).trans h

theorem lg_oneL (r : Lg) : ∀ u ∈ (lgC r).toList, u.oneCell' = true := by
  intro u hu
  simp [lgC] at hu
  rcases hu with rfl | rfl | rfl | rfl | rfl | rfl | rfl | rfl | rfl <;> rfl
theorem lg_rowOk : RowOk Tryd.prog 137 53 9 96 (.agg (lgC (⟨#[]⟩, (0, ⟨#[]⟩, 0, 0), (0, ⟨#[]⟩, 0, 0)))) lgC := ⟨by kernel_rfl, Tryd.underlying53, lg_oneL, lgC_sz, rfl, by omega, by omega⟩
abbrev OwnLg (w : World) (base : Nat) (v : Value) (l : List Lg) : Prop := OwnX 137 9 lgC w base v l
theorem rowL_one {α : Type} {c : α → Array Value} (h : ∀ r, ∀ u ∈ (c r).toList, u.oneCell' = true) (l : List α) : ∀ u ∈ rowL c l, u.oneCell' = true := by
  intro u hu
  obtain ⟨x, _, hx⟩ := List.mem_flatMap.1 hu
  exact h x u hx

/-- Whether the last leg is still out. -/
def ioB (l : List Lg) : Bool := match l[l.length - 1]? with
  | some x => x.2.2.1 == -1
  | none => false
theorem ioB_pos {l : List Lg} (h : ioB l = true) : 0 < l.length := by
  cases l with
  | nil => cases h
  | cons a r => simp
end Go.Proofs.YtndeidcddlmhbaaDoor

/- Facts that stand while only some blocks are written. No program of its own. -/
namespace Go.Proofs.YtndeidcddlmhbaaDoor
open Go.RowKit

theorem Rd.gs {S : Nat → Prop} {w w' : World} {z : Nat} {v : Value} {n : Nat} {cs : List Value} (h : Rd w z v n cs) (hg : GS S w w') (hs : ∀ k, v.ownBlock = some k → ¬ S k) : Rd w' z v n cs :=
  h.of_eq fun b hb hlt => ⟨Nat.lt_of_lt_of_le hlt hg.size, hg.block b hlt (hs b hb)⟩
/-- A fact that stands while only blocks of S are written. -/
def KS (S : Nat → Prop) (w : World) (P : World → Prop) : Prop := ∀ w', GS S w w' → P w'
theorem GS.refl (S : Nat → Prop) (w : World) : GS S w w := GS.of_G (G.refl _ _)
theorem KS.now {S : Nat → Prop} {w : World} {P : World → Prop} (h : KS S w P) : P w := h w (GS.refl _ _)
theorem KS.step {S : Nat → Prop} {w w' : World} {P : World → Prop} (h : KS S w P) (hG : GS S w w') : KS S w' P := fun _ hg => h _ (hG.trans hg)
theorem KS.and {S : Nat → Prop} {w : World} {P Q : World → Prop} (h : KS S w P) (k : KS S w Q) : KS S w (fun w => P w ∧ Q w) := fun w' hg => ⟨h w' hg, k w' hg⟩
theorem KS.bk {S : Nat → Prop} {w : World} {g : Nat} {T : TypeId} {cs : Array Value} (h : Bk w g T cs) (hg : ¬ S g) : KS S w (fun w => Bk w g T cs) := fun _ hG => h.gs hG hg
theorem KS.rd {S : Nat → Prop} {w : World} {z n : Nat} {v : Value} {cs : List Value} (h : Rd w z v n cs) (hb : ∀ k, v.ownBlock = some k → ¬ S k) : KS S w (fun w => Rd w z v n cs) := fun _ hG => h.gs hG hb
/-- The stream's block, and what was made since. -/
def Snew (s N : Nat) (k : Nat) : Prop := k = s ∨ N ≤ k
theorem GS.stream {s N : Nat} {w w' : World} (h : G w w' (some s)) : GS (Snew s N) w w' := GS.of_Gs h (.inl rfl)
theorem GS.row {s N : Nat} {w : World} {g : Nat} (hg : N ≤ g) (cs : Array Value) : GS (Snew s N) w (w.setRow g cs) := GS.of_Gs ((G.refl w (some g)).setRow (.inr rfl) cs) (.inr hg)
theorem GS.cell {s N : Nat} {w : World} {p : Addr} (hg : N ≤ p.block) (u : Value) : GS (Snew s N) w (w.setCell p u) := GS.of_Gs ((G.refl w (some p.block)).setCell (.inr rfl) u) (.inr hg)
/-- The stream alone was there, of what was written. -/
theorem GS.toG {s N : Nat} {A a b : World} (hA : G A a (some s)) (h : GS (Snew s N) a b) (hN : A.heap.size ≤ N) : G A b (some s) :=
  ⟨h.os.trans hA.os, h.tape.trans hA.tape, h.output.trans hA.output, Nat.le_trans hA.size h.size, fun k hk hne => (h.block k (Nat.lt_of_lt_of_le hk hA.size) (fun e => by
    rcases e with e | e
    · exact hne (by rw [e])
    · omega)).trans (hA.block k hk hne)⟩
theorem SB.gs {s N K : Nat} {w w' : World} (h : SB w s K) (hg : G w w' none) : SB w' s K := h.quiet hg
end Go.Proofs.YtndeidcddlmhbaaDoor

/- Lists of hires: CheckAll, HiresFault. Written by genhxs.py. -/
namespace Go.Proofs.YtndeidcddlmhbaaDoor
open Go.RowKit

/-- A hire and its legs are small. -/
def HSm (H : Hh) (l : List Lg) : Prop := LgOk l ∧ Small H.1 ∧ Small H.2.1 ∧ bnd H.2.2.1 ∧ bnd H.2.2.2 ∧ l.length ≤ 20
/-- A hire of a list: its fields, where its legs lie, its legs. -/
abbrev Hx := Hh × (Option Addr × Nat) × List Lg
def hxV (x : Hx) : Value := .slice x.2.1.1 x.2.2.length x.2.1.2
def hxC (x : Hx) : Array Value := hiC x.1 (hxV x)
theorem hxC_sz (x : Hx) : (hxC x).size = 5 := rfl
def hxE (x : Hx) : Int := hiE x.1 x.2.2
/-- The legs of all hires can be read. -/
def HxL (w : World) (L : List Hx) : Prop := ∀ x ∈ L, RdR w 9 lgC (hxV x) x.2.2
def HxR (w : World) (v : Value) (L : List Hx) : Prop := RdR w 5 hxC v L ∧ HxL w L
def HxOk (L : List Hx) : Prop := ∀ x ∈ L, HSm x.1 x.2.2
theorem HxL.quiet {w w' : World} {L : List Hx} (h : HxL w L) (hG : G w w' none) : HxL w' L := fun x hx => Rd.quiet (h x hx) hG
theorem HxR.quiet {w w' : World} {v : Value} {L : List Hx} (h : HxR w v L) (hG : G w w' none) : HxR w' v L := ⟨Rd.quiet h.1 hG, h.2.quiet hG⟩
/-- All that is read was made since. -/
def HxNew (N : Nat) (v : Value) (L : List Hx) : Prop := (∀ k, v.ownBlock = some k → N ≤ k) ∧ ∀ x ∈ L, ∀ k, (hxV x).ownBlock = some k → N ≤ k
theorem HxR.grown {w w' : World} {v : Value} {L : List Hx} {s N : Nat} (h : HxR w v L) (hn : HxNew N v L) (hs : s < N) (hG : G w w' (some s)) : HxR w' v L :=
  ⟨Rd.grown h.1 hG (fun k e hk => by cases e; have := hn.1 _ hk; omega), fun x hx => Rd.grown (h.2 x hx) hG (fun k e hk => by cases e; have := hn.2 x hx _ hk; omega)⟩
def hsE (b : ByteArray) : List Hx → Int
  | [] => 0
  | x :: r => if hxE x = 0 then (if leB x.1.1 b = true then 7 else hsE x.1.1 r) else hxE x
def haE (L : List Hx) : Int := if 500 < L.length then 2 else hsE ⟨#[]⟩ L
def HaRel (w : World) (L : List Hx) (v i : Value) (wr : World) : Prop :=
  ∃ (k : Nat) (b : ByteArray), k ≤ L.length ∧ i = .int .i64 k ∧ v = .string b ∧ hsE ⟨#[]⟩ L = hsE b (L.drop k) ∧ G w wr none
theorem hxRow {W w : World} {bb bo n cap : Nat} {l : List Hx} (h : RdR W 5 hxC (.slice (some ⟨bb, bo, none⟩) n cap) l) (hG : G W w none) {k : Nat} {p : Hx} (hp : l[k]? = some p) :
    ∀ j v, (hxC p).toList[j]? = some v → w.cell? ((⟨bb, bo + k * 5, none⟩ : Addr).add j) = some v := fun j v hv => by
  rw [add_at]
  exact RdR.cell hxC_sz h hG hp j v hv
end Go.Proofs.YtndeidcddlmhbaaDoor

/- A struct that is loaded behind '&&' or '||'. No program. -/
namespace Go.Proofs.YtndeidcddlmhbaaDoor
open Go.RowKit

theorem wpList_load_gd {P : Program} {ops : Array Oper} {rest : List Oper} {o : Oper} {a : Act} {w : World} {Q : Exit → Act → World → Prop} (hw : Region.wanted o (yielded ops a.tmps) = true) (ty : TypeId) (x : Operand) (ho : o.op = .load ty x)
    (ad : Addr) (hx : a.eval x = .pointer (some ad)) (cs : Array Value) (d : TypeDesc) (hc : ∀ j v, cs.toList[j]? = some v → w.cell? (ad.add j) = some v)
    (hu : P.underlying ty = some d) (hd : (match d with | .struct _ | .array _ _ => true | _ => false) = true) (hi : (P.info? ty).map (·.size) = some cs.size)
    (h : wpList P ops Q rest (a.put o.dst (.agg cs)) w) : wpList P ops Q (o :: rest) a w :=
  wpList_step fun K hK => by
    rw [if_pos hw]
    unfold Oper.wp execOp
    simp only [ho, hx, Instr.loadAt, Instr.sureAddr, Sem.run_bind, Sem.run_pure, Result.andThen_ok, run_loadVar_at w ad ty cs d hc hu hd hi]
    exact hK _ _ h
end Go.Proofs.YtndeidcddlmhbaaDoor

/- When a leg lasts: basic.Lasts, rentref1.Lasts; the function that With hands on; slices.IndexFunc, ContainsFunc at legs. -/
namespace Go.Proofs.YtndeidcddlmhbaaDoor
open Go.RowKit

/-- When a leg ends. -/
def toL (p : Lg) : Int := if p.2.2.1 = -1 then 5761440 else p.2.2.1
/-- Has a leg a vehicle at a moment? -/
def hasL (v : ByteArray) (t : Int) (p : Lg) : Bool := p.1.toList == v.toList && hasB p.2.1.1 (toL p) t
end Go.Proofs.YtndeidcddlmhbaaDoor

/- Steps of a region that draws its order, by hand. No program. -/
namespace Go.Proofs.YtndeidcddlmhbaaDoor
open Go.RowKit
section
variable {P : Program} {ops : Array Oper} {o : Oper} {a : Act} {w : World} {K : Act → World → Prop} {Q : Exit → Act → World → Prop} {E : Prop}
theorem st_val (hg : o.guard = none) {v : Value} {w' : World} (hr : (execOp a.eval o).run P w = .ok (.value v) w') (hK : K (a.put o.dst v) w') : if Region.wanted o (yielded ops a.tmps) = true then Oper.wp P o a w K Q else E := by
  rw [if_pos (by simp [Region.wanted, hg])]
  unfold Oper.wp
  rw [hr]
  exact hK
theorem st_wp (hg : o.guard = none) (h : Oper.wp P o a w K Q) : if Region.wanted o (yielded ops a.tmps) = true then Oper.wp P o a w K Q else E := by
  rw [if_pos (by simp [Region.wanted, hg])]
  exact h
theorem st_call (hg : o.guard = none) {f : FuncId} {args : Array Value} {w1 : World} (hr : (execOp a.eval o).run P w = .ok (.enter f args) w1) (hc : Calls P f args w1 fun e w' => ∃ v, e = .returned v ∧ K (a.put o.dst v) w') : if Region.wanted o (yielded ops a.tmps) = true then Oper.wp P o a w K Q else E := by
  rw [if_pos (by simp [Region.wanted, hg])]
  unfold Oper.wp
  rw [hr]
  refine hc.mono ?_
  rintro e w' ⟨v, rfl, hK⟩
  exact hK
theorem run_load_row {ty : TypeId} {x : Operand} (ho : o.op = .load ty x) (g : Nat) (hx : a.eval x = .pointer (some ⟨g, 0, none⟩)) (t : TypeId) (cs : Array Value) (d : TypeDesc) (hg : Bk w g t cs)
    (hu : P.underlying ty = some d) (hd : (match d with | .struct _ | .array _ _ => true | _ => false) = true) (hi : (P.info? ty).map (·.size) = some cs.size) : (execOp a.eval o).run P w = .ok (.value (.agg cs)) w := by
  unfold execOp
  simp only [ho, hx, Instr.loadAt, Instr.sureAddr, Sem.run_bind, Sem.run_pure, Result.andThen_ok, run_loadVar_row w g t ty cs (0, 0) d hg hu hd hi]
/-- One that may come up, and it alone. -/
theorem ready_one {md : Region.Mode} {fuel : Nat} {listed : Array Bool} {i : Nat} (hr : Region.ready md ops listed = [i]) (ho : ops[i]? = some o)
    (h : ∀ K' : Act → World → Prop, (∀ a w, wpAny P md ops Q fuel (listed.setIfInBounds i true) a w → K' a w) → if Region.wanted o (yielded ops a.tmps) = true then Oper.wp P o a w K' Q else K' (a.put o.dst undef) w) : wpAny P md ops Q (fuel + 1) listed a w :=
  wpAny_ready hr (by simp) (AllReady.cons ho h AllReady.nil)
theorem ready_two {md : Region.Mode} {fuel : Nat} {listed : Array Bool} {i j : Nat} {o2 : Oper} (hr : Region.ready md ops listed = [i, j]) (ho : ops[i]? = some o) (ho2 : ops[j]? = some o2)
    (h : ∀ K' : Act → World → Prop, (∀ a w, wpAny P md ops Q fuel (listed.setIfInBounds i true) a w → K' a w) → if Region.wanted o (yielded ops a.tmps) = true then Oper.wp P o a w K' Q else K' (a.put o.dst undef) w)
    (h2 : ∀ K' : Act → World → Prop, (∀ a w, wpAny P md ops Q fuel (listed.setIfInBounds j true) a w → K' a w) → if Region.wanted o2 (yielded ops a.tmps) = true then Oper.wp P o2 a w K' Q else K' (a.put o2.dst undef) w) : wpAny P md ops Q (fuel + 1) listed a w :=
  wpAny_ready hr (by simp) (AllReady.cons ho h (AllReady.cons ho2 h2 AllReady.nil))
end
end Go.Proofs.YtndeidcddlmhbaaDoor

/- Clashes: where legs of two hires meet (hire.meeting, whatever function says which are alike). Its drawn regions are written by genmee.py. -/
namespace Go.Proofs.YtndeidcddlmhbaaDoor
open Go.RowKit

/-- Two legs meet, and are alike. -/
def ckP (al : Lg → Lg → Bool) (x y : Lg) : Bool := decide (max x.2.1.1 y.2.1.1 < min (toL x) (toL y)) && al x y
def meO (al : Lg → Lg → Bool) : List Lg → List Lg → Option Int
  | [], _ => none
  | _ :: _, [] => none
  | x :: a, y :: b => if ckP al x y = true then some (max x.2.1.1 y.2.1.1) else if toL x ≤ toL y then meO al a (y :: b) else meO al (x :: a) b
termination_by a b => a.length + b.length
theorem RdR.tail {α : Type} {w : World} {z : Nat} {c : α → Array Value} {a : Option Addr} {n cap : Nat} {x : α} {l : List α} (hz : ∀ p, (c p).size = z) (h : RdR w z c (.slice a (n + 1) cap) (x :: l)) :
    RdR w z c (.slice (if cap = 1 then a else a.map (·.add (1 * z))) (n + 1 - 1) (cap - 1)) l := by
  obtain ⟨a', c', e, h1, h2, h3, h4, h5⟩ := h
  simp only [List.length_cons] at e h1
  obtain ⟨rfl, rfl, rfl⟩ : a = a' ∧ n = l.length ∧ cap = c' := by cases e; exact ⟨rfl, rfl, rfl⟩
  refine ⟨_, _, rfl, by omega, by omega, rowL_len hz _, fun e => ?_, fun b hb => ?_⟩
  · split at e
    · have := (h4 e).1; simp at this
    · cases a with
      | none => have := (h4 rfl).1; simp at this
      | some ad => simp at e
  · by_cases hc : cap = 1
    · rw [if_pos hc] at hb
      obtain ⟨q1, q2, q3⟩ := h5 b hb
      have hl0 : l = [] := List.eq_nil_of_length_eq_zero (by omega)
      subst hl0
      exact ⟨q1, q2, fun j u hj => by simp [rowL] at hj⟩
    · rw [if_neg hc] at hb
      cases a with
      | none => simp at hb
      | some ad =>
        obtain ⟨q1, q2, q3⟩ := h5 ad rfl
        obtain ⟨bb, bo, bs⟩ := ad
        dsimp only at q1 q2 q3
        subst q1
        simp only [Option.map_some, Option.some.injEq] at hb
        rw [add_at] at hb
        subst hb
        refine ⟨rfl, q2, fun j u hj => ?_⟩
        have := q3 (z + j) u (by rw [rowL_cons, List.getElem?_append_right (by rw [Array.length_toList, hz]; omega)]; rw [Array.length_toList, hz, show z + j - z = j by omega]; exact hj)
        dsimp only at this ⊢
        rw [show bo + 1 * z + j = bo + (z + j) by omega]
        exact this
def MeRel (w : World) (al : Lg → Lg → Bool) (la lb : List Lg) (gk : Nat) (s0 s1 : Value) (wr : World) : Prop :=
  ∃ (x y : List Lg), gk = x.length + y.length ∧ x.length ≤ 1000 ∧ y.length ≤ 1000 ∧ meO al la lb = meO al x y ∧ RdR w 9 lgC s0 x ∧ RdR w 9 lgC s1 y ∧ G w wr none
def MeW (w0 : World) (p q : Lg) (s8 s9 : Value) (w' : World) : Prop :=
  ∃ g8 g9, s8 = .pointer (some ⟨g8, 0, none⟩) ∧ s9 = .pointer (some ⟨g9, 0, none⟩) ∧ Bk w' g8 29 #[.int .i64 p.2.1.1, .int .i64 (toL p)] ∧ Bk w' g9 29 #[.int .i64 q.2.1.1, .int .i64 (toL q)] ∧ G w0 w' none
end Go.Proofs.YtndeidcddlmhbaaDoor

/- Clashes: what excludes that two hires can both be (hire.clashesOf). -/
namespace Go.Proofs.YtndeidcddlmhbaaDoor
open Go.RowKit

/-- A clash: two keys, a kind, a moment. -/
abbrev Ks := ByteArray × ByteArray × Int × Int
def ksC (x : Ks) : Array Value := #[.string x.1, .string x.2.1, .int .i64 x.2.2.1, .int .i64 x.2.2.2]
theorem ksC_sz (x : Ks) : (ksC x).size = 4 := rfl
theorem ks_oneL (r : Ks) : ∀ u ∈ (ksC r).toList, u.oneCell' = true := by
  intro u hu
  simp [ksC] at hu
  rcases hu with rfl | rfl | rfl | rfl <;> rfl
def ckL (a b : ByteArray) (kind : Int) (o : Option Int) : List Ks := match o with
  | none => []
  | some m => [(a, b, kind, m)]
theorem ckL_len (a b : ByteArray) (kind : Int) (o : Option Int) : (ckL a b kind o).length ≤ 1 := by cases o <;> simp [ckL]
def alV (p q : Lg) : Bool := p.1.toList == q.1.toList
def alD (x y : Hh) (_ _ : Lg) : Bool := x.2.1.toList == y.2.1.toList
theorem GS.grow {S : Nat → Prop} {w w' : World} {o : Option Nat} (h : w.grownBy w' o) (ho : ∀ r, o = some r → S r) : GS S w w' := by
  cases o with
  | none => exact GS.of_G h
  | some r => exact GS.of_Gs h (ho r rfl)
/-- What excludes that two hires can both be. -/
def clOf (x y : Hh) (la lb : List Lg) : List Ks := ckL x.1 y.1 1 (meO alV la lb) ++ ckL x.1 y.1 2 (meO (alD x y) la lb)
theorem clOf_len (x y : Hh) (la lb : List Lg) : (clOf x y la lb).length ≤ 2 := by
  have h1 := ckL_len x.1 y.1 1 (meO alV la lb)
  have h2 := ckL_len x.1 y.1 2 (meO (alD x y) la lb)
  rw [clOf, List.length_append]
  omega
end Go.Proofs.YtndeidcddlmhbaaDoor

/- slices.SortStableFunc at ints, fewer than 20: insertion. Written by gensoi.py. -/
namespace Go.Proofs.YtndeidcddlmhbaaDoor
open Go.RowKit

def inC (n : Int) : Array Value := #[.int .i64 n]
theorem inC_sz (n : Int) : (inC n).size = 1 := rfl
theorem in_rowL (l : List Int) : rowL inC l = l.map (Value.int .i64) := by
  induction l with
  | nil => rfl
  | cons s l ih => rw [rowL_cons, ih]; rfl
theorem in_rowOk : RowOk Tryd.prog 3 22 1 8 (.int .i64 0) inC := ⟨by kernel_rfl, Tryd.underlying22, fun r u hu => by simp [inC] at hu; subst hu; rfl, inC_sz, rfl, by omega, by omega⟩
abbrev OwnIn (w : World) (base : Nat) (v : Value) (l : List Int) : Prop := OwnX 3 1 inC w base v l
theorem OwnX.form0 {α : Type} {T : TypeId} {z : Nat} {c : α → Array Value} {w : World} {base : Nat} {v : Value} {l : List α} (h : OwnX T z c w base v l) (h0 : 0 < l.length) : ∃ g cap cur, v = .slice (some ⟨g, 0, none⟩) l.length cap ∧ Bk w g T cur := by
  rcases h.2 with ⟨rfl, h3⟩ | ⟨g, cap, cur, rfl, hb, hg, _⟩
  · omega
  · exact ⟨g, cap, cur, rfl, hg⟩
/-- One number moves down as far as it is less than the one before it. -/
def insJ {α : Type} (c : α → α → Bool) : Nat → List α → List α
  | 0, l => l
  | j + 1, l => match l[j + 1]?, l[j]? with
    | some x, some y => if c x y = true then insJ c j ((l.set (j + 1) y).set j x) else l
    | _, _ => l
/-- The numbers from a place on move down, one after the other. -/
def isF {α : Type} (c : α → α → Bool) : Nat → Nat → List α → List α
  | 0, _, l => l
  | n + 1, i, l => isF c n (i + 1) (insJ c i l)
def isrt {α : Type} (c : α → α → Bool) (l : List α) : List α := isF c (l.length - 1) 1 l
theorem insJ_len {α : Type} (c : α → α → Bool) : ∀ (j : Nat) (l : List α), (insJ c j l).length = l.length
  | 0, _ => rfl
  | j + 1, l => by
    unfold insJ
    split
    · split
      · rw [insJ_len c j]; simp
      · rfl
    · rfl
theorem isF_len {α : Type} (c : α → α → Bool) : ∀ (n i : Nat) (l : List α), (isF c n i l).length = l.length
  | 0, _, _ => rfl
  | n + 1, i, l => by rw [isF, isF_len c n, insJ_len]
theorem soi_set {w : World} {base g n cap : Nat} {l : List Int} (h : OwnIn w base (.slice (some ⟨g, 0, none⟩) n cap) l) (hl : l.length = n) {j : Nat} {x : Int} (hx : l[j]? = some x) (y : Int) : OwnIn (w.setCell ⟨g, j, none⟩ (.int .i64 y)) base (.slice (some ⟨g, 0, none⟩) n cap) (l.set j y) := by
  subst hl
  have h2 := OwnX.set (c := inC) inC_sz h hx 0 (.int .i64 y) (by omega) (q := y) rfl
  unfold OwnIn OwnX
  rw [List.length_set]
  simpa using h2
theorem soi_free {w : World} {base g n cap : Nat} {l : List Int} (h : OwnIn w base (.slice (some ⟨g, 0, none⟩) n cap) l) (hl : l.length = n) (j : Nat) : w.frozen? ⟨g, j, none⟩ = false := by
  subst hl
  exact ownsRow_free h j
/-- What may be written: the list's own block. -/
def S1 (v : Value) (k : Nat) : Prop := v.ownBlock = some k
def SoRel (w : World) (base : Nat) (v : Value) (c : Int → Int → Bool) (l0 : List Int) (s8 : Value) (wr : World) : Prop :=
  ∃ (i : Nat) (l : List Int), 1 ≤ i ∧ i ≤ max l0.length 1 ∧ s8 = .int .i64 i ∧ isrt c l0 = isF c (l0.length - i) i l ∧ l.length = l0.length ∧ (∀ z ∈ l, z ∈ l0) ∧ OwnIn wr base v l ∧ GS (S1 v) w wr
def SiRel (w : World) (base : Nat) (v : Value) (c : Int → Int → Bool) (l0 : List Int) (i : Nat) (li : List Int) (s9 : Value) (wr : World) : Prop :=
  ∃ (j : Nat) (l : List Int), j ≤ i ∧ s9 = .int .i64 j ∧ insJ c i li = insJ c j l ∧ l.length = l0.length ∧ (∀ z ∈ l, z ∈ l0) ∧ OwnIn wr base v l ∧ GS (S1 v) w wr
end Go.Proofs.YtndeidcddlmhbaaDoor

/- Cents that are divided: mark.checkSplit, rentref2.SplitFault, cmp.Compare of ints. -/
namespace Go.Proofs.YtndeidcddlmhbaaDoor
open Go.RowKit

def spA (ws : List Int) : Bool := ws.all fun n => inB n 0 5761440
def spE (c : Int) (ws : List Int) : Int := if inB c 0 1000000000 = false then 1 else if 50 < ws.length then 2 else if spA ws = false then 1 else if ws.sum = 0 then 8 else 0
def spS (c : Int) (ws : List Int) : Int := if spE c ws = 0 then ws.sum else 0
abbrev RdI (w : World) (v : Value) (l : List Int) : Prop := RdR w 1 inC v l
theorem sum_take_succ (l : List Int) (k : Nat) (p : Int) (hp : l[k]? = some p) : (l.take (k + 1)).sum = (l.take k).sum + p := by
  rw [List.take_add_one, hp, List.sum_append]; simp
theorem spA_bnd {l : List Int} (h : ∀ n ∈ l, inB n 0 5761440 = true) : 0 ≤ l.sum ∧ l.sum ≤ 5761440 * (l.length : Int) := by
  induction l with
  | nil => simp
  | cons a r ih =>
    have h1 := h a List.mem_cons_self
    have h2 := ih (fun n hn => h n (List.mem_cons_of_mem _ hn))
    unfold inB at h1
    simp at h1
    simp only [List.sum_cons, List.length_cons]
    push_cast
    omega
theorem spA_false {l : List Int} {k : Nat} {p : Int} (hp : l[k]? = some p) (h : inB p 0 5761440 = false) : spA l = false := by
  unfold spA
  rw [Bool.eq_false_iff]
  intro q
  have := List.all_eq_true.1 q p (List.mem_of_getElem? hp)
  rw [h] at this
  cases this
def CspRel (w : World) (ws : List Int) (s6 i : Value) (wr : World) : Prop :=
  ∃ k : Nat, k ≤ ws.length ∧ i = .int .i64 k ∧ s6 = .int .i64 (ws.take k).sum ∧ (∀ n ∈ ws.take k, inB n 0 5761440 = true) ∧ G w wr none
theorem take_mem {l : List Int} {k : Nat} {p : Int} (hp : l[k]? = some p) (h : ∀ n ∈ l.take k, inB n 0 5761440 = true) (hb : inB p 0 5761440 = true) : ∀ n ∈ l.take (k + 1), inB n 0 5761440 = true := fun n hn => by
  rw [List.take_add_one, hp] at hn
  rcases List.mem_append.1 hn with hn | hn
  · exact h n hn
  · simp at hn; rw [hn]; exact hb
/-- What cmp.Compare returns. -/
def cpI (a b : Int) : Int := if a < b then -1 else if b < a then 1 else 0
set_option maxRecDepth 100000 in
set_option maxHeartbeats 2000000 in
theorem isNaNi_c (n : Int) (w : World) : Calls Tryd.prog 170 #[.int .i64 n] w fun e w' => e = .returned (.bool false) ∧ w = w' := by
  have h : (n != n) = false := by simp
  go_enter Tryd.func170, Tryd.ntmps170
  go_wp2_with fail
  go_ret
  exact ⟨rfl, rfl⟩
set_option maxRecDepth 100000 in
set_option maxHeartbeats 2000000 in
theorem compareI_c (a b : Int) (w : World) : Calls Tryd.prog 142 #[.int .i64 a, .int .i64 b] w fun e w' => e = .returned (.int .i64 (cpI a b)) ∧ w = w' := by
  obtain ⟨R, hR⟩ : ∃ R, cpI a b = R := ⟨_, rfl⟩
  have HR : Hid (R = if a < b then -1 else if b < a then 1 else 0) := Lib.hid (by rw [← hR]; rfl)
  rw [hR]
  clear hR
  go_enter Tryd.func142, Tryd.ntmps142
  go_wp2_with fail
  refine (isNaNi_c _ _).mono ?_; rintro e w' ⟨rfl, rfl⟩
  go_wp2_with fail
  refine (isNaNi_c _ _).mono ?_; rintro e w' ⟨rfl, rfl⟩
  by_cases h1 : a < b
  · obtain rfl : R = -1 := by rw [HR.out, if_pos h1]
    clear HR
    go_wp2_with fail
    go_ret
    exact ⟨rfl, rfl⟩
  · by_cases h2 : b < a
    · obtain rfl : R = 1 := by rw [HR.out, if_neg h1, if_pos h2]
      clear HR
      go_wp2_with fail
      go_ret
      exact ⟨rfl, rfl⟩
    · obtain rfl : R = 0 := by rw [HR.out, if_neg h1, if_neg h2]
      clear HR
      go_wp2_with fail
      go_ret
      exact ⟨rfl, rfl⟩
end Go.Proofs.YtndeidcddlmhbaaDoor

/- What was picked; a block as a row; 'when' at literals. -/
namespace Go.Proofs.YtndeidcddlmhbaaDoor
open Go.RowKit

theorem small_of {s : ByteArray} (h : s.size ≤ 100) : Small s := by unfold Small; omega
theorem bnd_pick {zs : List Int} {r : Int} (h : r ∈ zs) (hz : zs.all (fun z => decide (-1099511627776 ≤ z ∧ z ≤ 1099511627776)) = true) : bnd r := by
  unfold bnd
  exact of_decide_eq_true (List.all_eq_true.1 hz r h)
theorem small_pick {zs : List ByteArray} {r : ByteArray} (h : r ∈ zs) (hz : zs.all (fun z => decide (z.size ≤ 100)) = true) : Small r := small_of (of_decide_eq_true (List.all_eq_true.1 hz r h))
theorem Bk.rd {w : World} {g : Nat} {T : TypeId} {cs : Array Value} (h : Bk w g T cs) (z n : Nat) (hc : cs.size = n * z) (hn : n ≤ 1000) : Rd w z (.slice (some ⟨g, 0, none⟩) n n) n cs.toList := by
  refine ⟨_, n, rfl, Nat.le_refl _, by unfold maxLen; omega, by simpa using hc, (fun e => by cases e), fun b hb => ?_⟩
  obtain rfl := Option.some.inj hb
  refine ⟨rfl, h.lt, fun j u hj => ?_⟩
  rw [Nat.zero_add, h.cell]
  simpa using hj
theorem when_t (n : Int) (w : World) : Calls Tryd.prog 20 #[.bool true, .int .i64 n] w fun e w' => e = .returned (.int .i64 n) ∧ w = w' := by simpa using when_c true n w
theorem when_f (n : Int) (w : World) : Calls Tryd.prog 20 #[.bool false, .int .i64 n] w fun e w' => e = .returned (.int .i64 0) ∧ w = w' := by simpa using when_c false n w
end Go.Proofs.YtndeidcddlmhbaaDoor

/- shift.Plan at one road, its parts: the step of a trail, the trails. Written by genpla.py. -/
namespace Go.Proofs.YtndeidcddlmhbaaDoor
open Go.RowKit

/-- A lane: from, to, what a car costs. -/
abbrev Ln := Int × Int × Int
def lnC (x : Ln) : Array Value := #[.int .i64 x.1, .int .i64 x.2.1, .int .i64 x.2.2]
theorem lnC_sz (x : Ln) : (lnC x).size = 3 := rfl
theorem ln_info (x : Ln) : (Tryd.prog.info? 235).map (·.size) = some (lnC x).size := (by kernel_rfl : (Tryd.prog.info? 235).map (·.size) = some 3)
/-- A trail: is it there, is it begun, what it costs, its last lane. -/
abbrev Tl := Bool × Bool × Int × Int
def tlC (x : Tl) : Array Value := #[.bool x.1, .bool x.2.1, .int .i64 x.2.2.1, .int .i64 x.2.2.2]
theorem tlC_sz (x : Tl) : (tlC x).size = 4 := rfl
theorem tl_info (x : Tl) : (Tryd.prog.info? 270).map (·.size) = some (tlC x).size := (by kernel_rfl : (Tryd.prog.info? 270).map (·.size) = some 4)

/-- A step over the one lane, the first time. -/
theorem step1_c (pv pa g : Nat) (w w0 : World) (hv : Bk w pv 267 #[.slice (some ⟨g, 0, none⟩) 2 2]) (ha : Bk w pa 4 #[.bool false])
    (hB : Bk w g 270 #[.bool true, .bool true, .int .i64 0, .int .i64 0, .bool false, .bool false, .int .i64 0, .int .i64 0]) (hG : G w0 w none) (h1 : w0.heap.size ≤ g) (h2 : w0.heap.size ≤ pa) (hpg : pv ≠ g) (hpa : pa ≠ g) (hpp : pv ≠ pa) :
    Calls Tryd.prog 211 #[.int .i64 0, .int .i64 1, .int .i64 4, .int .i64 0, .pointer (some ⟨pv, 0, none⟩), .pointer (some ⟨pa, 0, none⟩)] w fun e w' => e = .returned (.tuple #[]) ∧
      Bk w' pv 267 #[.slice (some ⟨g, 0, none⟩) 2 2] ∧ Bk w' pa 4 #[.bool true] ∧ Bk w' g 270 #[.bool true, .bool true, .int .i64 0, .int .i64 0, .bool true, .bool false, .int .i64 4, .int .i64 0] ∧ G w0 w' none := by
  have a0 : w.cell? ⟨pv, 0, none⟩ = some (.slice (some ⟨g, 0, none⟩) 2 2) := hv.cell 0
  have b2 : w.cell? ⟨g, 2, none⟩ = some (.int .i64 0) := hB.cell 2
  go_enter Tryd.func211, Tryd.ntmps211
  go_upto_region 1 with fail
  have hv1 := hv.alloc (.cells #[.bool true, .bool false, .int .i64 4, .int .i64 0] 270)
  have ha1 := ha.alloc (.cells #[.bool true, .bool false, .int .i64 4, .int .i64 0] 270)
  have hB1 := hB.alloc (.cells #[.bool true, .bool false, .int .i64 4, .int .i64 0] 270)
  have hN1 := Bk.new w 270 #[.bool true, .bool false, .int .i64 4, .int .i64 0]
  have hG1 := hG.alloc (.cells #[.bool true, .bool false, .int .i64 4, .int .i64 0] 270)
  clear hv ha hB hG a0 b2
  generalize w.alloc (.cells #[.bool true, .bool false, .int .i64 4, .int .i64 0] 270) = w1 at hv1 ha1 hB1 hN1 hG1 ⊢
  generalize w.heap.size = n at hN1 ⊢
  have a0 : w1.cell? ⟨pv, 0, none⟩ = some (.slice (some ⟨g, 0, none⟩) 2 2) := hv1.cell 0
  have b0 : w1.cell? ⟨g, 0, none⟩ = some (.bool true) := hB1.cell 0
  have b4 : w1.cell? ⟨g, 4, none⟩ = some (.bool false) := hB1.cell 4
  go_quiet (fail)
  replace hv1 := hv1.drewN nq
  replace ha1 := ha1.drewN nq
  replace hB1 := hB1.drewN nq
  replace hN1 := hN1.drewN nq
  replace hG1 := hG1.drewN nq
  clear a0 b0 b4
  generalize w1.drewN nq = w2 at hv1 ha1 hB1 hN1 hG1 ⊢
  have a0 : w2.cell? ⟨pv, 0, none⟩ = some (.slice (some ⟨g, 0, none⟩) 2 2) := hv1.cell 0
  have n0 : w2.cell? ⟨n, 0, none⟩ = some (.bool true) := hN1.cell 0
  have n1 : w2.cell? ⟨n, 1, none⟩ = some (.bool false) := hN1.cell 1
  have n2 : w2.cell? ⟨n, 2, none⟩ = some (.int .i64 4) := hN1.cell 2
  have n3 : w2.cell? ⟨n, 3, none⟩ = some (.int .i64 0) := hN1.cell 3
  have b4 : w2.cell? ⟨g, 4, none⟩ = some (.bool false) := hB1.cell 4
  have f4 : w2.frozen? ⟨g, 4, none⟩ = false := hB1.free 4
  have b5 : w2.cell? ⟨g, 5, none⟩ = some (.bool false) := hB1.cell 5
  have f5 : w2.frozen? ⟨g, 5, none⟩ = false := hB1.free 5
  have b6 : w2.cell? ⟨g, 6, none⟩ = some (.int .i64 0) := hB1.cell 6
  have f6 : w2.frozen? ⟨g, 6, none⟩ = false := hB1.free 6
  have b7 : w2.cell? ⟨g, 7, none⟩ = some (.int .i64 0) := hB1.cell 7
  have f7 : w2.frozen? ⟨g, 7, none⟩ = false := hB1.free 7
  have p0 : w2.cell? ⟨pa, 0, none⟩ = some (.bool false) := ha1.cell 0
  have pf : w2.frozen? ⟨pa, 0, none⟩ = false := ha1.free 0
  have hpga := hpa.symm
  go_wp2_with fail
  go_end0
  exact ⟨rfl, ((((hv1.far (p := ⟨g, 4, none⟩) hpg _).far (p := ⟨g, 5, none⟩) hpg _).far (p := ⟨g, 6, none⟩) hpg _).far (p := ⟨g, 7, none⟩) hpg _).far (p := ⟨pa, 0, none⟩) hpp _, ((((ha1.far (p := ⟨g, 4, none⟩) hpa _).far (p := ⟨g, 5, none⟩) hpa _).far (p := ⟨g, 6, none⟩) hpa _).far (p := ⟨g, 7, none⟩) hpa _).set 0 _, ((((hB1.set 4 _).set 5 _).set 6 _).set 7 _).far (p := ⟨pa, 0, none⟩) hpga _, ((((hG1.setCell (p := ⟨g, 4, none⟩) (.inl h1) _).setCell (p := ⟨g, 5, none⟩) (.inl h1) _).setCell (p := ⟨g, 6, none⟩) (.inl h1) _).setCell (p := ⟨g, 7, none⟩) (.inl h1) _).setCell (p := ⟨pa, 0, none⟩) (.inl h2) _⟩
/-- A step over the one lane, the second time: nothing is cheaper. -/
theorem step2_c (pv pa g : Nat) (w w0 : World) (hv : Bk w pv 267 #[.slice (some ⟨g, 0, none⟩) 2 2]) (ha : Bk w pa 4 #[.bool false])
    (hB : Bk w g 270 #[.bool true, .bool true, .int .i64 0, .int .i64 0, .bool true, .bool false, .int .i64 4, .int .i64 0]) (hG : G w0 w none) (h1 : w0.heap.size ≤ g) (h2 : w0.heap.size ≤ pa) (hpg : pv ≠ g) (hpa : pa ≠ g) (hpp : pv ≠ pa) :
    Calls Tryd.prog 211 #[.int .i64 0, .int .i64 1, .int .i64 4, .int .i64 0, .pointer (some ⟨pv, 0, none⟩), .pointer (some ⟨pa, 0, none⟩)] w fun e w' => e = .returned (.tuple #[]) ∧
      Bk w' pv 267 #[.slice (some ⟨g, 0, none⟩) 2 2] ∧ Bk w' pa 4 #[.bool false] ∧ Bk w' g 270 #[.bool true, .bool true, .int .i64 0, .int .i64 0, .bool true, .bool false, .int .i64 4, .int .i64 0] ∧ G w0 w' none := by
  have a0 : w.cell? ⟨pv, 0, none⟩ = some (.slice (some ⟨g, 0, none⟩) 2 2) := hv.cell 0
  have b2 : w.cell? ⟨g, 2, none⟩ = some (.int .i64 0) := hB.cell 2
  go_enter Tryd.func211, Tryd.ntmps211
  go_upto_region 1 with fail
  have hv1 := hv.alloc (.cells #[.bool true, .bool false, .int .i64 4, .int .i64 0] 270)
  have ha1 := ha.alloc (.cells #[.bool true, .bool false, .int .i64 4, .int .i64 0] 270)
  have hB1 := hB.alloc (.cells #[.bool true, .bool false, .int .i64 4, .int .i64 0] 270)
  have hN1 := Bk.new w 270 #[.bool true, .bool false, .int .i64 4, .int .i64 0]
  have hG1 := hG.alloc (.cells #[.bool true, .bool false, .int .i64 4, .int .i64 0] 270)
  clear hv ha hB hG a0 b2
  generalize w.alloc (.cells #[.bool true, .bool false, .int .i64 4, .int .i64 0] 270) = w1 at hv1 ha1 hB1 hN1 hG1 ⊢
  generalize w.heap.size = n at hN1 ⊢
  have a0 : w1.cell? ⟨pv, 0, none⟩ = some (.slice (some ⟨g, 0, none⟩) 2 2) := hv1.cell 0
  have b0 : w1.cell? ⟨g, 0, none⟩ = some (.bool true) := hB1.cell 0
  have b4 : w1.cell? ⟨g, 4, none⟩ = some (.bool true) := hB1.cell 4
  have b6 : w1.cell? ⟨g, 6, none⟩ = some (.int .i64 4) := hB1.cell 6
  have n2 : w1.cell? ⟨n, 2, none⟩ = some (.int .i64 4) := hN1.cell 2
  go_quiet (fail)
  go_wp2_with fail
  go_end0
  exact ⟨rfl, hv1.drewN nq, ha1.drewN nq, hB1.drewN nq, hG1.drewN nq⟩
set_option maxRecDepth 100000 in
set_option maxHeartbeats 4000000 in
theorem trails_c (vl vn vo : Value) (w : World) (hl : RdI w vl [1, -1]) (hn : RdR w 3 lnC vn [(0, 1, 4)]) (ho : RdI w vo [0]) :
    Calls Tryd.prog 201 #[vl, vn, vo] w fun e w' => ∃ g, e = .returned (.slice (some ⟨g, 0, none⟩) 2 2) ∧ w.heap.size ≤ g ∧ Bk w' g 270 #[.bool true, .bool true, .int .i64 0, .int .i64 0, .bool true, .bool false, .int .i64 4, .int .i64 0] ∧ G w w' none := by
  obtain ⟨al, cl, rfl, -, -⟩ := RdR.form hl
  obtain ⟨an, cn, rfl, -, -⟩ := RdR.form hn
  obtain ⟨ao, co, rfl, -, -⟩ := RdR.form ho
  have hmk : ∀ w : World, (Instr.makeSlice 267 (.int .i64 2) (.int .i64 2)).run Tryd.prog w = .ok (.slice (some ⟨w.heap.size, 0, none⟩) 2 2) (w.alloc (.cells #[.bool false, .bool false, .int .i64 0, .int .i64 0, .bool false, .bool false, .int .i64 0, .int .i64 0] 270)) := fun w => by kernel_rfl
  have hl0 := hl
  have hG0 := G.refl w none
  obtain ⟨bl, ol, rfl, hbl, -⟩ := RdR.elem inC_sz hl hG0 (k := 0) (p := 1) rfl
  obtain ⟨bn, on, rfl, hbn, -⟩ := RdR.elem lnC_sz hn hG0 (k := 0) (p := (0, 1, 4)) rfl
  obtain ⟨bo, oo, rfl, hbo, -⟩ := RdR.elem inC_sz ho hG0 (k := 0) (p := 0) rfl
  have hcell : Hid (∀ w', G w w' none → w'.cell? ⟨bl, ol, none⟩ = some (.int .i64 1) ∧ w'.cell? ⟨bl, ol + 1, none⟩ = some (.int .i64 (-1)) ∧ w'.cell? ⟨bn, on, none⟩ = some (.int .i64 0) ∧ w'.cell? ⟨bn, on + 1, none⟩ = some (.int .i64 1) ∧ w'.cell? ⟨bn, on + 2, none⟩ = some (.int .i64 4) ∧ w'.cell? ⟨bo, oo, none⟩ = some (.int .i64 0)) := Lib.hid (fun w' h => by
    have e0 := RdR.cell inC_sz hl h (k := 0) (p := 1) rfl 0 (.int .i64 1) rfl
    have e1 := RdR.cell inC_sz hl h (k := 1) (p := -1) rfl 0 (.int .i64 (-1)) rfl
    have e2 := RdR.cell lnC_sz hn h (k := 0) (p := (0, 1, 4)) rfl 0 (.int .i64 0) rfl
    have e3 := RdR.cell lnC_sz hn h (k := 0) (p := (0, 1, 4)) rfl 1 (.int .i64 1) rfl
    have e4 := RdR.cell lnC_sz hn h (k := 0) (p := (0, 1, 4)) rfl 2 (.int .i64 4) rfl
    have e5 := RdR.cell inC_sz ho h (k := 0) (p := 0) rfl 0 (.int .i64 0) rfl
    simp only [Nat.zero_mul, Nat.one_mul, Nat.add_zero] at e0 e1 e2 e3 e4 e5
    exact ⟨e0, e1, e2, e3, e4, e5⟩)
  clear hl hl0 hn ho hbl hbn hbo
  go_enter Tryd.func201, Tryd.ntmps201
  go_upto_region 2 with fail
  have hB := (Bk.new w 270 #[.bool false, .bool false, .int .i64 0, .int .i64 0, .bool false, .bool false, .int .i64 0, .int .i64 0]).alloc (.cells #[.slice (some ⟨w.heap.size, 0, none⟩) 2 2] 267)
  have hv : Bk ((w.alloc (.cells #[.bool false, .bool false, .int .i64 0, .int .i64 0, .bool false, .bool false, .int .i64 0, .int .i64 0] 270)).alloc (.cells #[.slice (some ⟨w.heap.size, 0, none⟩) 2 2] 267)) (w.heap.size + 1) 267 #[.slice (some ⟨w.heap.size, 0, none⟩) 2 2] := Bk.newAt (by simp) _ _
  have hG1 := (hG0.alloc (.cells #[.bool false, .bool false, .int .i64 0, .int .i64 0, .bool false, .bool false, .int .i64 0, .int .i64 0] 270)).alloc (.cells #[.slice (some ⟨w.heap.size, 0, none⟩) 2 2] 267)
  generalize (w.alloc (.cells #[.bool false, .bool false, .int .i64 0, .int .i64 0, .bool false, .bool false, .int .i64 0, .int .i64 0] 270)).alloc (.cells #[.slice (some ⟨w.heap.size, 0, none⟩) 2 2] 267) = w1 at hB hv hG1 ⊢
  have hgs : w.heap.size ≤ w.heap.size := Nat.le_refl _
  obtain ⟨g, hg⟩ : ∃ g, w.heap.size = g := ⟨_, rfl⟩
  have hgs : w.heap.size ≤ g := by omega
  rw [hg] at hB hv ⊢
  clear hg
  obtain ⟨l0, l1, -, -, -, -⟩ := hcell.out _ hG1
  have v0 : w1.cell? ⟨g + 1, 0, none⟩ = some (.slice (some ⟨g, 0, none⟩) 2 2) := hv.cell 0
  have b0 : w1.cell? ⟨g, 0, none⟩ = some (.bool false) := hB.cell 0
  have fb0 : w1.frozen? ⟨g, 0, none⟩ = false := hB.free 0
  have b1 : w1.cell? ⟨g, 1, none⟩ = some (.bool false) := hB.cell 1
  have fb1 : w1.frozen? ⟨g, 1, none⟩ = false := hB.free 1
  have b2 : w1.cell? ⟨g, 2, none⟩ = some (.int .i64 0) := hB.cell 2
  have fb2 : w1.frozen? ⟨g, 2, none⟩ = false := hB.free 2
  have b3 : w1.cell? ⟨g, 3, none⟩ = some (.int .i64 0) := hB.cell 3
  have fb3 : w1.frozen? ⟨g, 3, none⟩ = false := hB.free 3
  go_wp2_with fail
  refine wp_loop_rounds 3 ?_
  rw [rounds_succ]
  go_wp2_with fail
  clear l0 l1 v0 b0 fb0 b1 fb1 b2 fb2 b3 fb3
  replace hB := ((((hB).set 0 (.bool true)).set 1 (.bool true)).set 2 (.int .i64 0)).set 3 (.int .i64 0)
  replace hv := ((((hv).far (p := ⟨g, 0, none⟩) (show g + 1 ≠ g by omega) (.bool true)).far (p := ⟨g, 1, none⟩) (show g + 1 ≠ g by omega) (.bool true)).far (p := ⟨g, 2, none⟩) (show g + 1 ≠ g by omega) (.int .i64 0)).far (p := ⟨g, 3, none⟩) (show g + 1 ≠ g by omega) (.int .i64 0)
  replace hG1 := ((((hG1).setCell (p := ⟨g, 0, none⟩) (.inl hgs) (.bool true)).setCell (p := ⟨g, 1, none⟩) (.inl hgs) (.bool true)).setCell (p := ⟨g, 2, none⟩) (.inl hgs) (.int .i64 0)).setCell (p := ⟨g, 3, none⟩) (.inl hgs) (.int .i64 0)
  generalize (((w1.setCell ⟨g, 0, none⟩ (.bool true)).setCell ⟨g, 1, none⟩ (.bool true)).setCell ⟨g, 2, none⟩ (.int .i64 0)).setCell ⟨g, 3, none⟩ (.int .i64 0) = w2 at hB hv hG1 ⊢
  obtain ⟨l0, l1, -, -, -, -⟩ := hcell.out _ hG1
  have v0 : w2.cell? ⟨g + 1, 0, none⟩ = some (.slice (some ⟨g, 0, none⟩) 2 2) := hv.cell 0
  have b4 : w2.cell? ⟨g, 4, none⟩ = some (.bool false) := hB.cell 4
  have fb4 : w2.frozen? ⟨g, 4, none⟩ = false := hB.free 4
  have b5 : w2.cell? ⟨g, 5, none⟩ = some (.bool false) := hB.cell 5
  have fb5 : w2.frozen? ⟨g, 5, none⟩ = false := hB.free 5
  have b6 : w2.cell? ⟨g, 6, none⟩ = some (.int .i64 0) := hB.cell 6
  have fb6 : w2.frozen? ⟨g, 6, none⟩ = false := hB.free 6
  have b7 : w2.cell? ⟨g, 7, none⟩ = some (.int .i64 0) := hB.cell 7
  have fb7 : w2.frozen? ⟨g, 7, none⟩ = false := hB.free 7
  rw [rounds_succ]
  go_wp2_with fail
  clear l0 l1 v0 b4 fb4 b5 fb5 b6 fb6 b7 fb7
  replace hB := ((((hB).set 4 (.bool false)).set 5 (.bool false)).set 6 (.int .i64 0)).set 7 (.int .i64 0)
  replace hv := ((((hv).far (p := ⟨g, 4, none⟩) (show g + 1 ≠ g by omega) (.bool false)).far (p := ⟨g, 5, none⟩) (show g + 1 ≠ g by omega) (.bool false)).far (p := ⟨g, 6, none⟩) (show g + 1 ≠ g by omega) (.int .i64 0)).far (p := ⟨g, 7, none⟩) (show g + 1 ≠ g by omega) (.int .i64 0)
  replace hG1 := ((((hG1).setCell (p := ⟨g, 4, none⟩) (.inl hgs) (.bool false)).setCell (p := ⟨g, 5, none⟩) (.inl hgs) (.bool false)).setCell (p := ⟨g, 6, none⟩) (.inl hgs) (.int .i64 0)).setCell (p := ⟨g, 7, none⟩) (.inl hgs) (.int .i64 0)
  generalize (((w2.setCell ⟨g, 4, none⟩ (.bool false)).setCell ⟨g, 5, none⟩ (.bool false)).setCell ⟨g, 6, none⟩ (.int .i64 0)).setCell ⟨g, 7, none⟩ (.int .i64 0) = w3 at hB hv hG1 ⊢
  rw [rounds_succ]
  go_wp2_with fail
  have ha := Bk.new w3 4 #[.bool true]
  have hga : g < w3.heap.size := hB.lt
  have hva : g + 1 < w3.heap.size := hv.lt
  replace hB := hB.alloc (.cells #[.bool true] 4)
  replace hv := hv.alloc (.cells #[.bool true] 4)
  replace hG1 := hG1.alloc (.cells #[.bool true] 4)
  generalize w3.alloc (.cells #[.bool true] 4) = wa at ha hB hv hG1 ⊢
  generalize w3.heap.size = pa at ha hga hva ⊢
  refine wp_loop_rounds 3 ?_
  rw [rounds_succ]
  have a0 : wa.cell? ⟨pa, 0, none⟩ = some (.bool true) := ha.cell 0
  have fa0 : wa.frozen? ⟨pa, 0, none⟩ = false := ha.free 0
  go_wp2_with fail
  clear a0 fa0
  replace hB := (hB).far (p := ⟨pa, 0, none⟩) (show g ≠ pa by omega) (.bool false)
  replace hv := (hv).far (p := ⟨pa, 0, none⟩) (show g + 1 ≠ pa by omega) (.bool false)
  replace ha := (ha).set 0 (.bool false)
  replace hG1 := (hG1).setCell (p := ⟨pa, 0, none⟩) (.inl (show w.heap.size ≤ pa by omega)) (.bool false)
  generalize wa.setCell ⟨pa, 0, none⟩ (.bool false) = w4 at hB hv ha hG1 ⊢
  obtain ⟨-, -, n0, n1, n2, -⟩ := hcell.out _ hG1
  refine wp_loop_rounds 2 ?_
  rw [rounds_succ]
  go_wp2_with fail
  refine (step1_c (g + 1) pa g _ w (hv.alloc _) (ha.alloc _) (hB.alloc _) (hG1.alloc _) hgs (by omega) (by omega) (by omega) (by omega)).mono ?_; rintro e ws1 ⟨rfl, hv', ha', hB', hG'⟩
  clear hv ha hB hG1 n0 n1 n2
  obtain ⟨-, -, -, -, -, o0⟩ := hcell.out _ hG'
  go_wp2_with fail
  rw [rounds_succ]
  go_wp2_with fail
  have hv := hv'
  have ha := ha'
  have hB := hB'
  have hG1 := hG'
  clear hv' ha' hB' hG' o0
  rw [rounds_succ]
  have a0 : ws1.cell? ⟨pa, 0, none⟩ = some (.bool true) := ha.cell 0
  have fa0 : ws1.frozen? ⟨pa, 0, none⟩ = false := ha.free 0
  go_wp2_with fail
  clear a0 fa0
  replace hB := (hB).far (p := ⟨pa, 0, none⟩) (show g ≠ pa by omega) (.bool false)
  replace hv := (hv).far (p := ⟨pa, 0, none⟩) (show g + 1 ≠ pa by omega) (.bool false)
  replace ha := (ha).set 0 (.bool false)
  replace hG1 := (hG1).setCell (p := ⟨pa, 0, none⟩) (.inl (show w.heap.size ≤ pa by omega)) (.bool false)
  generalize ws1.setCell ⟨pa, 0, none⟩ (.bool false) = w5 at hB hv ha hG1 ⊢
  obtain ⟨-, -, n0, n1, n2, -⟩ := hcell.out _ hG1
  refine wp_loop_rounds 2 ?_
  rw [rounds_succ]
  go_wp2_with fail
  refine (step2_c (g + 1) pa g _ w (hv.alloc _) (ha.alloc _) (hB.alloc _) (hG1.alloc _) hgs (by omega) (by omega) (by omega) (by omega)).mono ?_; rintro e ws2 ⟨rfl, hv', ha', hB', hG'⟩
  clear hv ha hB hG1 n0 n1 n2
  obtain ⟨-, -, -, -, -, o0⟩ := hcell.out _ hG'
  go_wp2_with fail
  rw [rounds_succ]
  go_wp2_with fail
  have hv := hv'
  have ha := ha'
  have hB := hB'
  have hG1 := hG'
  clear hv' ha' hB' hG' o0
  rw [rounds_succ]
  have a0 : ws2.cell? ⟨pa, 0, none⟩ = some (.bool false) := ha.cell 0
  have v0 : ws2.cell? ⟨g + 1, 0, none⟩ = some (.slice (some ⟨g, 0, none⟩) 2 2) := hv.cell 0
  go_wp2_with fail
  go_ret
  exact ⟨g, rfl, hgs, hB, hG1⟩
end Go.Proofs.YtndeidcddlmhbaaDoor
