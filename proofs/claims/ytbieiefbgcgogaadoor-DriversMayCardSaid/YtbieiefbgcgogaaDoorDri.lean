/- Drivers: the index of one (slices.IndexFunc with a closure), ageOf. -/
import Derived.Test.YtbieiefbgcgogaaDoorDrv
namespace Go.Proofs.YtbieiefbgcgogaaDoor
open Go.RowKit

def drAt (l : List Dr) (s : ByteArray) : Int := ixP (fun p => p.1.toList == s.toList) l 0
def IdrRel (w : World) (l : List Dr) (t : ByteArray) (i : Value) (wr : World) : Prop :=
  ∃ k : Nat, k ≤ l.length ∧ i = .int .i64 k ∧ drAt l t = ixP (fun p : Dr => p.1.toList == t.toList) (l.drop k) k ∧ G w wr none
theorem cloM_c (p : Dr) (t : ByteArray) (g : Nat) (w : World) (hB : Bk w g 9 #[.string t]) : Calls Tryd.prog 78 #[.agg (drC p), .pointer (some ⟨g, 0, none⟩)] w fun e w' => e = .returned (.bool (p.1.toList == t.toList)) ∧ G w w' none := by
  have hc := (Bk.new w 75 (drC p)).cell 0
  rw [show (drC p)[0]? = some (.string p.1) from rfl] at hc
  have hc2 := (hB.alloc (.cells (drC p) 75)).cell 0
  rw [show (#[Value.string t] : Array Value)[0]? = some (.string t) from rfl] at hc2
  cases he : (p.1.toList == t.toList) with
  | true =>
    go_enter Tryd.func78, Tryd.ntmps78
    go_wp2_with fail
    go_ret
    exact ⟨rfl, (G.refl _ _).alloc _⟩
  | false =>
    go_enter Tryd.func78, Tryd.ntmps78
    go_wp2_with fail
    go_ret
    exact ⟨rfl, (G.refl _ _).alloc _⟩
set_option maxRecDepth 100000 in
set_option maxHeartbeats 2000000 in
theorem indexM_c (v : Value) (l : List Dr) (t : ByteArray) (g : Nat) (w : World) (hr : RdR w 4 drC v l) (hn : l.length ≤ 1000) (hB : Bk w g 9 #[.string t]) :
    Calls Tryd.prog 36 #[v, .func (.func 78) #[] #[.pointer (some ⟨g, 0, none⟩)]] w fun e w' => e = .returned (.int .i64 (drAt l t)) ∧ G w w' none := by
  have HR := Lib.hid hr
  obtain ⟨a, cap, rfl, hcap, hm⟩ := RdR.form hr
  clear hr
  go_enter Tryd.func36, Tryd.ntmps36
  go_wp2_with fail
  go_loopw [8] (IdrRel w l t) (fun i _ => l.length - (intOf i).toNat)
  case atStart => exact ⟨0, by omega, rfl, rfl, G.refl _ _⟩
  case round =>
    obtain ⟨k, hk, rfl, heq, hG⟩ := hrel
    have HE := Lib.hid heq
    clear heq
    by_cases hlt : k < l.length
    · obtain ⟨p, hp⟩ : ∃ p, l[k]? = some p := ⟨_, List.getElem?_eq_getElem hlt⟩
      have HD : Hid (drAt l t = if (p.1.toList == t.toList) = true then (k : Int) else ixP (fun p : Dr => p.1.toList == t.toList) (l.drop (k + 1)) ((k : Int) + 1)) := Lib.hid (by
        rw [HE.out, List.drop_eq_getElem_cons hlt, (List.getElem?_eq_some_iff.1 hp).2]; rfl)
      obtain ⟨bb, bo, rfl, -, -⟩ := RdR.elem drC_sz HR.out hG hp
      have HW := Lib.hid (drRow HR.out hG hp)
      have HK := Lib.hid hlt
      clear hp
      go_wp2_with (refine wpList_load_at rfl 75 _ rfl ⟨bb, bo + k * 4, none⟩ rfl (drC p) _ HW.out Tryd.underlying75 rfl (dr_info p) ?_)
      refine (cloM_c p t g _ (hB.quiet hG)).mono ?_; rintro e w1 ⟨rfl, hG1⟩
      cases he : (p.1.toList == t.toList) with
      | true =>
        have HF : Hid (drAt l t = k) := Lib.hid (by rw [HD.out, if_pos he])
        clear he
        go_wp2_with fail
        go_ret
        exact ⟨ret_int HF.out.symm, hG.trans hG1⟩
      | false =>
        have HF : Hid (drAt l t = ixP (fun p : Dr => p.1.toList == t.toList) (l.drop (k + 1)) ((k + 1 : Nat) : Int)) := Lib.hid (by rw [HD.out, if_neg (by simp [he])]; rfl)
        clear he
        go_wp2_with fail
        go_roundw
        case rel => exact ⟨k + 1, by omega, by go_num, HF.out, hG.trans hG1⟩
        case measure => have := HK.out; simp [intOf]; omega
    · obtain rfl : k = l.length := by omega
      have HF : Hid (drAt l t = -1) := Lib.hid (by rw [HE.out, List.drop_length]; rfl)
      go_wp2_with fail
      go_ret
      exact ⟨ret_int HF.out.symm, hG⟩
theorem cloL_c (p : Dr) (t : ByteArray) (g : Nat) (w : World) (hB : Bk w g 9 #[.string t]) : Calls Tryd.prog 37 #[.agg (drC p), .pointer (some ⟨g, 0, none⟩)] w fun e w' => e = .returned (.bool (p.1.toList == t.toList)) ∧ G w w' none := by
  have hc := (Bk.new w 75 (drC p)).cell 0
  rw [show (drC p)[0]? = some (.string p.1) from rfl] at hc
  have hc2 := (hB.alloc (.cells (drC p) 75)).cell 0
  rw [show (#[Value.string t] : Array Value)[0]? = some (.string t) from rfl] at hc2
  cases he : (p.1.toList == t.toList) with
  | true =>
    go_enter Tryd.func37, Tryd.ntmps37
    go_wp2_with fail
    go_ret
    exact ⟨rfl, (G.refl _ _).alloc _⟩
  | false =>
    go_enter Tryd.func37, Tryd.ntmps37
    go_wp2_with fail
    go_ret
    exact ⟨rfl, (G.refl _ _).alloc _⟩
set_option maxRecDepth 100000 in
set_option maxHeartbeats 2000000 in
theorem indexL_c (v : Value) (l : List Dr) (t : ByteArray) (g : Nat) (w : World) (hr : RdR w 4 drC v l) (hn : l.length ≤ 1000) (hB : Bk w g 9 #[.string t]) :
    Calls Tryd.prog 36 #[v, .func (.func 37) #[] #[.pointer (some ⟨g, 0, none⟩)]] w fun e w' => e = .returned (.int .i64 (drAt l t)) ∧ G w w' none := by
  have HR := Lib.hid hr
  obtain ⟨a, cap, rfl, hcap, hm⟩ := RdR.form hr
  clear hr
  go_enter Tryd.func36, Tryd.ntmps36
  go_wp2_with fail
  go_loopw [8] (IdrRel w l t) (fun i _ => l.length - (intOf i).toNat)
  case atStart => exact ⟨0, by omega, rfl, rfl, G.refl _ _⟩
  case round =>
    obtain ⟨k, hk, rfl, heq, hG⟩ := hrel
    have HE := Lib.hid heq
    clear heq
    by_cases hlt : k < l.length
    · obtain ⟨p, hp⟩ : ∃ p, l[k]? = some p := ⟨_, List.getElem?_eq_getElem hlt⟩
      have HD : Hid (drAt l t = if (p.1.toList == t.toList) = true then (k : Int) else ixP (fun p : Dr => p.1.toList == t.toList) (l.drop (k + 1)) ((k : Int) + 1)) := Lib.hid (by
        rw [HE.out, List.drop_eq_getElem_cons hlt, (List.getElem?_eq_some_iff.1 hp).2]; rfl)
      obtain ⟨bb, bo, rfl, -, -⟩ := RdR.elem drC_sz HR.out hG hp
      have HW := Lib.hid (drRow HR.out hG hp)
      have HK := Lib.hid hlt
      clear hp
      go_wp2_with (refine wpList_load_at rfl 75 _ rfl ⟨bb, bo + k * 4, none⟩ rfl (drC p) _ HW.out Tryd.underlying75 rfl (dr_info p) ?_)
      refine (cloL_c p t g _ (hB.quiet hG)).mono ?_; rintro e w1 ⟨rfl, hG1⟩
      cases he : (p.1.toList == t.toList) with
      | true =>
        have HF : Hid (drAt l t = k) := Lib.hid (by rw [HD.out, if_pos he])
        clear he
        go_wp2_with fail
        go_ret
        exact ⟨ret_int HF.out.symm, hG.trans hG1⟩
      | false =>
        have HF : Hid (drAt l t = ixP (fun p : Dr => p.1.toList == t.toList) (l.drop (k + 1)) ((k + 1 : Nat) : Int)) := Lib.hid (by rw [HD.out, if_neg (by simp [he])]; rfl)
        clear he
        go_wp2_with fail
        go_roundw
        case rel => exact ⟨k + 1, by omega, by go_num, HF.out, hG.trans hG1⟩
        case measure => have := HK.out; simp [intOf]; omega
    · obtain rfl : k = l.length := by omega
      have HF : Hid (drAt l t = -1) := Lib.hid (by rw [HE.out, List.drop_length]; rfl)
      go_wp2_with fail
      go_ret
      exact ⟨ret_int HF.out.symm, hG⟩
def agOf (s : ByteArray) : List Ag → Int
  | [] => 0
  | x :: r => if x.1.toList == s.toList then x.2 else agOf s r
def AofRel (w : World) (l : List Ag) (s : ByteArray) (i : Value) (wr : World) : Prop :=
  ∃ k : Nat, k ≤ l.length ∧ i = .int .i64 k ∧ agOf s l = agOf s (l.drop k) ∧ G w wr none
set_option maxRecDepth 100000 in
set_option maxHeartbeats 2000000 in
theorem ageOf_c (v : Value) (l : List Ag) (s : ByteArray) (w : World) (hr : RdR w 2 agC v l) (hn : l.length ≤ 1000) :
    Calls Tryd.prog 81 #[v, .string s] w fun e w' => e = .returned (.int .i64 (agOf s l)) ∧ G w w' none := by
  have HR := Lib.hid hr
  obtain ⟨a, cap, rfl, hcap, hm⟩ := RdR.form hr
  clear hr
  go_enter Tryd.func81, Tryd.ntmps81
  go_wp2_with fail
  go_loopw [9] (AofRel w l s) (fun i _ => l.length - (intOf i).toNat)
  case atStart => exact ⟨0, by omega, rfl, rfl, G.refl _ _⟩
  case round =>
    obtain ⟨k, hkl, rfl, heq, hG⟩ := hrel
    have HE := Lib.hid heq
    clear heq
    by_cases hk : k < l.length
    · obtain ⟨p, hp⟩ : ∃ p, l[k]? = some p := ⟨_, List.getElem?_eq_getElem hk⟩
      have HD : Hid (agOf s l = if p.1.toList == s.toList then p.2 else agOf s (l.drop (k + 1))) := Lib.hid (by
        rw [HE.out, List.drop_eq_getElem_cons hk, (List.getElem?_eq_some_iff.1 hp).2]; rfl)
      obtain ⟨bb, bo, rfl, -, -⟩ := RdR.elem agC_sz HR.out hG hp
      have HW := Lib.hid (agRow HR.out hG hp)
      have HK := Lib.hid hk
      have hG5 := hG.alloc (.cells #[.string p.1, .int .i64 p.2] 116)
      clear hp hG
      cases he : (p.1.toList == s.toList) with
      | true =>
        have HF : Hid (agOf s l = p.2) := Lib.hid (by rw [HD.out, if_pos he])
        go_wp2_with (refine wpList_load_at rfl 116 _ rfl ⟨bb, bo + k * 2, none⟩ rfl #[.string p.1, .int .i64 p.2] _ HW.out Tryd.underlying116 rfl (ag_info p) ?_)
        go_ret
        exact ⟨ret_int HF.out.symm, hG5⟩
      | false =>
        have HF : Hid (agOf s l = agOf s (l.drop (k + 1))) := Lib.hid (by rw [HD.out, if_neg (by simp [he])])
        go_wp2_with (refine wpList_load_at rfl 116 _ rfl ⟨bb, bo + k * 2, none⟩ rfl #[.string p.1, .int .i64 p.2] _ HW.out Tryd.underlying116 rfl (ag_info p) ?_)
        go_roundw
        case rel => exact ⟨k + 1, by omega, by go_num, HF.out, hG5⟩
        case measure => have := HK.out; simp [intOf]; omega
    · obtain rfl : k = l.length := by omega
      have HF : Hid (agOf s l = 0) := Lib.hid (by rw [HE.out, List.drop_length]; rfl)
      go_wp2_with fail
      go_ret
      exact ⟨ret_int HF.out.symm, hG⟩
end Go.Proofs.YtbieiefbgcgogaaDoor
