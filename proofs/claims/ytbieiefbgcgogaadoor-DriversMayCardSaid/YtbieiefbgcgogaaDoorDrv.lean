/- Drivers, ages: their checks, hire's and the reference's. Written by gendrv.py. -/
import Derived.Test.YtbieiefbgcgogaaDoorRow
import Derived.Test.YtbieiefbgcgogaaDoorErrs
import Derived.Test.YtbieiefbgcgogaaDoorOrd
import Derived.Test.YtbieiefbgcgogaaDoorRkey
namespace Go.Proofs.YtbieiefbgcgogaaDoor
open Go.RowKit

/-- A driver: key, born, from, to. -/
abbrev Dr := ByteArray × Int × Int × Int
def drC (x : Dr) : Array Value := #[.string x.1, .int .i64 x.2.1, .int .i64 x.2.2.1, .int .i64 x.2.2.2]
theorem drC_sz (x : Dr) : (drC x).size = 4 := rfl
theorem dr_info (x : Dr) : (Tryd.prog.info? 75).map (·.size) = some (drC x).size := (by kernel_rfl : (Tryd.prog.info? 75).map (·.size) = some 4)
def DrOk (l : List Dr) : Prop := ∀ x ∈ l, Small x.1
def drT (x : Dr) : Bool := inB x.2.1 (-50000) 4000 && (inB x.2.2.1 (-50000) x.2.2.2 && decide (x.2.2.2 ≤ 50000))
def drErr (b : ByteArray) : List Dr → Int
  | [] => 0
  | x :: r => if keyB x.1 = false then 5 else if leB x.1 b = true then 7 else if drT x = false then 1 else drErr x.1 r
def drE (l : List Dr) : Int := if 500 < l.length then 2 else drErr ⟨#[]⟩ l
def DrRel (w : World) (l : List Dr) (v i : Value) (wr : World) : Prop :=
  ∃ (k : Nat) (b : ByteArray), k ≤ l.length ∧ i = .int .i64 k ∧ v = .string b ∧ drErr ⟨#[]⟩ l = drErr b (l.drop k) ∧ G w wr none
theorem drRow {W w : World} {bb bo n cap : Nat} {l : List Dr} (h : RdR W 4 drC (.slice (some ⟨bb, bo, none⟩) n cap) l) (hG : G W w none) {k : Nat} {p : Dr} (hp : l[k]? = some p) :
    ∀ j v, (drC p).toList[j]? = some v → w.cell? ((⟨bb, bo + k * 4, none⟩ : Addr).add j) = some v := fun j v hv => by
  rw [add_at]
  exact RdR.cell drC_sz h hG hp j v hv
/-- An age: class, days. -/
abbrev Ag := ByteArray × Int
def agC (x : Ag) : Array Value := #[.string x.1, .int .i64 x.2]
theorem agC_sz (x : Ag) : (agC x).size = 2 := rfl
theorem ag_info (x : Ag) : (Tryd.prog.info? 116).map (·.size) = some (agC x).size := (by kernel_rfl : (Tryd.prog.info? 116).map (·.size) = some 2)
def AgOk (l : List Ag) : Prop := ∀ x ∈ l, Small x.1
def agT (x : Ag) : Bool := inB x.2 0 50000
def agErr (b : ByteArray) : List Ag → Int
  | [] => 0
  | x :: r => if keyB x.1 = false then 5 else if leB x.1 b = true then 7 else if agT x = false then 1 else agErr x.1 r
def agE (l : List Ag) : Int := if 30 < l.length then 2 else agErr ⟨#[]⟩ l
def AgRel (w : World) (l : List Ag) (v i : Value) (wr : World) : Prop :=
  ∃ (k : Nat) (b : ByteArray), k ≤ l.length ∧ i = .int .i64 k ∧ v = .string b ∧ agErr ⟨#[]⟩ l = agErr b (l.drop k) ∧ G w wr none
theorem agRow {W w : World} {bb bo n cap : Nat} {l : List Ag} (h : RdR W 2 agC (.slice (some ⟨bb, bo, none⟩) n cap) l) (hG : G W w none) {k : Nat} {p : Ag} (hp : l[k]? = some p) :
    ∀ j v, (agC p).toList[j]? = some v → w.cell? ((⟨bb, bo + k * 2, none⟩ : Addr).add j) = some v := fun j v hv => by
  rw [add_at]
  exact RdR.cell agC_sz h hG hp j v hv
set_option maxRecDepth 100000 in
set_option maxHeartbeats 4000000 in
theorem checkDrivers_c (v : Value) (l : List Dr) (w : World) (hr : RdR w 4 drC v l) (hl : DrOk l) (hn : l.length ≤ 1000) :
    Calls Tryd.prog 35 #[v] w fun e w' => e = .returned (.int .i64 (drE l)) ∧ G w w' none := by
  have HR := Lib.hid hr
  obtain ⟨a, cap, rfl, hcap, hm⟩ := RdR.form hr
  clear hr
  by_cases h30 : 500 < l.length
  · have H := Lib.hid (show drE l = 2 by simp [drE, h30])
    go_enter Tryd.func35, Tryd.ntmps35
    go_wp2_with fail
    go_ret
    exact ⟨by rw [H.out]; rfl, G.refl _ _⟩
  · have H := Lib.hid (show drE l = drErr ⟨#[]⟩ l by simp [drE, h30])
    go_enter Tryd.func35, Tryd.ntmps35
    go_wp2_with fail
    go_loopw [3, 11] (DrRel w l) (fun _ i _ => l.length - (intOf i).toNat)
    case atStart => exact ⟨0, ⟨#[]⟩, by omega, rfl, rfl, rfl, G.refl _ _⟩
    case round =>
      obtain ⟨k, b, hkl, rfl, rfl, heq, hG⟩ := hrel
      have HE := Lib.hid heq
      clear heq
      by_cases hk : k < l.length
      · obtain ⟨p, hp⟩ : ∃ p, l[k]? = some p := ⟨_, List.getElem?_eq_getElem hk⟩
        have hdrop : l.drop k = p :: l.drop (k + 1) := by rw [List.drop_eq_getElem_cons hk, ← (List.getElem?_eq_some_iff.1 hp).2]
        have hs1 := hl p (List.mem_of_getElem? hp)
        obtain ⟨bb, bo, rfl, -, -⟩ := RdR.elem drC_sz HR.out hG hp
        have HW := Lib.hid (drRow HR.out hG hp)
        unfold Small at hs1
        have HS : Hid (drErr b (l.drop k) = if keyB p.1 = false then 5 else if leB p.1 b = true then 7 else if drT p = false then 1 else drErr p.1 (l.drop (k + 1))) := Lib.hid (by rw [hdrop]; rfl)
        have HK := Lib.hid hk
        have hB5 : Bk (wr.alloc (.cells #[.string p.1, .int .i64 p.2.1, .int .i64 p.2.2.1, .int .i64 p.2.2.2] 75)) wr.heap.size 75 (drC p) := Bk.new _ _ _
        have hG5 := hG.alloc (.cells #[.string p.1, .int .i64 p.2.1, .int .i64 p.2.2.1, .int .i64 p.2.2.2] 75)
        clear hdrop hp hG
        go_wp2_with (refine wpList_load_at rfl 75 _ rfl ⟨bb, bo + k * 4, none⟩ rfl #[.string p.1, .int .i64 p.2.1, .int .i64 p.2.2.1, .int .i64 p.2.2.2] _ HW.out Tryd.underlying75 rfl (dr_info p) ?_)
        generalize wr.alloc (.cells #[.string p.1, .int .i64 p.2.1, .int .i64 p.2.2.1, .int .i64 p.2.2.2] 75) = w5 at hB5 hG5 ⊢
        generalize wr.heap.size = g at hB5 ⊢
        refine (isKey_c _ _ hs1).mono ?_; rintro e w1 ⟨rfl, rfl⟩
        have c0 : w5.cell? ⟨g, 0, none⟩ = some (.string p.1) := hB5.cell 0
        have c1 : w5.cell? ⟨g, 1, none⟩ = some (.int .i64 p.2.1) := hB5.cell 1
        have c2 : w5.cell? ⟨g, 2, none⟩ = some (.int .i64 p.2.2.1) := hB5.cell 2
        have c3 : w5.cell? ⟨g, 3, none⟩ = some (.int .i64 p.2.2.2) := hB5.cell 3
        cases hkb : keyB p.1 with
        | false =>
          have HF : Hid (drE l = 5) := Lib.hid (by rw [H.out, HE.out, HS.out, if_pos hkb])
          clear hkb
          go_wp2_with fail
          go_ret
          exact ⟨by rw [HF.out]; rfl, hG5⟩
        | true =>
          have HKB := Lib.hid hkb
          clear hkb
          cases hle : leB p.1 b with
          | true =>
            have HF : Hid (drE l = 7) := Lib.hid (by rw [H.out, HE.out, HS.out, if_neg (by simp [HKB.out]), if_pos hle])
            unfold leB at hle
            go_wp2_with fail
            go_ret
            exact ⟨by rw [HF.out]; rfl, hG5⟩
          | false =>
            have HS2 : Hid (drErr ⟨#[]⟩ l = if drT p = false then 1 else drErr p.1 (l.drop (k + 1))) := Lib.hid (by rw [HE.out, HS.out, if_neg (by simp [HKB.out]), if_neg (by simp [hle])])
            unfold leB at hle
            clear HS HE
            go_wp2_with fail
            refine (within_c p.2.1 (-50000) 4000 _).mono ?_; rintro e w' ⟨rfl, rfl⟩
            cases k0 : inB p.2.1 (-50000) 4000 with
            | false =>
              have HF : Hid (drE l = 1) := Lib.hid (by rw [H.out, HS2.out, if_pos (by simp [drT, k0])])
              clear k0
              go_wp2_with fail
              go_ret
              exact ⟨by rw [HF.out]; rfl, hG5⟩
            | true =>
              have K0 := Lib.hid k0
              clear k0
              go_wp2_with fail
              refine (within_c p.2.2.1 (-50000) p.2.2.2 _).mono ?_; rintro e w' ⟨rfl, rfl⟩
              cases k1 : inB p.2.2.1 (-50000) p.2.2.2 with
              | false =>
                have HF : Hid (drE l = 1) := Lib.hid (by rw [H.out, HS2.out, if_pos (by simp [drT, k1])])
                clear k1
                go_wp2_with fail
                go_ret
                exact ⟨by rw [HF.out]; rfl, hG5⟩
              | true =>
                have K1 := Lib.hid k1
                clear k1
                by_cases k2 : 50000 < p.2.2.2
                · have HF : Hid (drE l = 1) := Lib.hid (by rw [H.out, HS2.out, if_pos (by simp [drT, show ¬ p.2.2.2 ≤ 50000 by omega])])
                  go_wp2_with fail
                  go_ret
                  exact ⟨by rw [HF.out]; rfl, hG5⟩
                · have K2 : Hid (p.2.2.2 ≤ 50000) := Lib.hid (by omega)
                  have HF : Hid (drErr ⟨#[]⟩ l = drErr p.1 (l.drop (k + 1))) := Lib.hid (by rw [HS2.out, if_neg (by simp [drT, K0.out, K1.out, K2.out])])
                  go_wp2_with fail
                  go_roundw
                  case rel => exact ⟨k + 1, p.1, by omega, by go_num, rfl, HF.out, hG5⟩
                  case measure => have := HK.out; simp [intOf]; omega
      · obtain rfl : k = l.length := by omega
        have HE2 : Hid (drE l = 0) := Lib.hid (by rw [H.out, HE.out, List.drop_length]; rfl)
        go_wp2_with fail
        go_ret
        exact ⟨by rw [HE2.out]; rfl, hG⟩
set_option maxRecDepth 100000 in
set_option maxHeartbeats 4000000 in
theorem checkAges_c (v : Value) (l : List Ag) (w : World) (hr : RdR w 2 agC v l) (hl : AgOk l) (hn : l.length ≤ 1000) :
    Calls Tryd.prog 77 #[v] w fun e w' => e = .returned (.int .i64 (agE l)) ∧ G w w' none := by
  have HR := Lib.hid hr
  obtain ⟨a, cap, rfl, hcap, hm⟩ := RdR.form hr
  clear hr
  by_cases h30 : 30 < l.length
  · have H := Lib.hid (show agE l = 2 by simp [agE, h30])
    go_enter Tryd.func77, Tryd.ntmps77
    go_wp2_with fail
    go_ret
    exact ⟨by rw [H.out]; rfl, G.refl _ _⟩
  · have H := Lib.hid (show agE l = agErr ⟨#[]⟩ l by simp [agE, h30])
    go_enter Tryd.func77, Tryd.ntmps77
    go_wp2_with fail
    go_loopw [3, 11] (AgRel w l) (fun _ i _ => l.length - (intOf i).toNat)
    case atStart => exact ⟨0, ⟨#[]⟩, by omega, rfl, rfl, rfl, G.refl _ _⟩
    case round =>
      obtain ⟨k, b, hkl, rfl, rfl, heq, hG⟩ := hrel
      have HE := Lib.hid heq
      clear heq
      by_cases hk : k < l.length
      · obtain ⟨p, hp⟩ : ∃ p, l[k]? = some p := ⟨_, List.getElem?_eq_getElem hk⟩
        have hdrop : l.drop k = p :: l.drop (k + 1) := by rw [List.drop_eq_getElem_cons hk, ← (List.getElem?_eq_some_iff.1 hp).2]
        have hs1 := hl p (List.mem_of_getElem? hp)
        obtain ⟨bb, bo, rfl, -, -⟩ := RdR.elem agC_sz HR.out hG hp
        have HW := Lib.hid (agRow HR.out hG hp)
        unfold Small at hs1
        have HS : Hid (agErr b (l.drop k) = if keyB p.1 = false then 5 else if leB p.1 b = true then 7 else if agT p = false then 1 else agErr p.1 (l.drop (k + 1))) := Lib.hid (by rw [hdrop]; rfl)
        have HK := Lib.hid hk
        have hB5 : Bk (wr.alloc (.cells #[.string p.1, .int .i64 p.2] 116)) wr.heap.size 116 (agC p) := Bk.new _ _ _
        have hG5 := hG.alloc (.cells #[.string p.1, .int .i64 p.2] 116)
        clear hdrop hp hG
        go_wp2_with (refine wpList_load_at rfl 116 _ rfl ⟨bb, bo + k * 2, none⟩ rfl #[.string p.1, .int .i64 p.2] _ HW.out Tryd.underlying116 rfl (ag_info p) ?_)
        generalize wr.alloc (.cells #[.string p.1, .int .i64 p.2] 116) = w5 at hB5 hG5 ⊢
        generalize wr.heap.size = g at hB5 ⊢
        refine (isKey_c _ _ hs1).mono ?_; rintro e w1 ⟨rfl, rfl⟩
        have c0 : w5.cell? ⟨g, 0, none⟩ = some (.string p.1) := hB5.cell 0
        have c1 : w5.cell? ⟨g, 1, none⟩ = some (.int .i64 p.2) := hB5.cell 1
        cases hkb : keyB p.1 with
        | false =>
          have HF : Hid (agE l = 5) := Lib.hid (by rw [H.out, HE.out, HS.out, if_pos hkb])
          clear hkb
          go_wp2_with fail
          go_ret
          exact ⟨by rw [HF.out]; rfl, hG5⟩
        | true =>
          have HKB := Lib.hid hkb
          clear hkb
          cases hle : leB p.1 b with
          | true =>
            have HF : Hid (agE l = 7) := Lib.hid (by rw [H.out, HE.out, HS.out, if_neg (by simp [HKB.out]), if_pos hle])
            unfold leB at hle
            go_wp2_with fail
            go_ret
            exact ⟨by rw [HF.out]; rfl, hG5⟩
          | false =>
            have HS2 : Hid (agErr ⟨#[]⟩ l = if agT p = false then 1 else agErr p.1 (l.drop (k + 1))) := Lib.hid (by rw [HE.out, HS.out, if_neg (by simp [HKB.out]), if_neg (by simp [hle])])
            unfold leB at hle
            clear HS HE
            go_wp2_with fail
            refine (within_c p.2 0 50000 _).mono ?_; rintro e w' ⟨rfl, rfl⟩
            cases k0 : inB p.2 0 50000 with
            | false =>
              have HF : Hid (agE l = 1) := Lib.hid (by rw [H.out, HS2.out, if_pos (by simp [agT, k0])])
              clear k0
              go_wp2_with fail
              go_ret
              exact ⟨by rw [HF.out]; rfl, hG5⟩
            | true =>
              have K0 := Lib.hid k0
              clear k0
              have HF : Hid (agErr ⟨#[]⟩ l = agErr p.1 (l.drop (k + 1))) := Lib.hid (by rw [HS2.out, if_neg (by simp [agT, K0.out])])
              go_wp2_with fail
              go_roundw
              case rel => exact ⟨k + 1, p.1, by omega, by go_num, rfl, HF.out, hG5⟩
              case measure => have := HK.out; simp [intOf]; omega
      · obtain rfl : k = l.length := by omega
        have HE2 : Hid (agE l = 0) := Lib.hid (by rw [H.out, HE.out, List.drop_length]; rfl)
        go_wp2_with fail
        go_ret
        exact ⟨by rw [HE2.out]; rfl, hG⟩
set_option maxRecDepth 100000 in
set_option maxHeartbeats 4000000 in
theorem driversFault_c (v : Value) (l : List Dr) (w : World) (hr : RdR w 4 drC v l) (hl : DrOk l) (hn : l.length ≤ 1000) :
    Calls Tryd.prog 34 #[v] w fun e w' => e = .returned (.int .i64 (drE l)) ∧ G w w' none := by
  have HR := Lib.hid hr
  obtain ⟨a, cap, rfl, hcap, hm⟩ := RdR.form hr
  clear hr
  by_cases h30 : 500 < l.length
  · have H := Lib.hid (show drE l = 2 by simp [drE, h30])
    go_enter Tryd.func34, Tryd.ntmps34
    go_wp2_with fail
    go_ret
    exact ⟨by rw [H.out]; rfl, G.refl _ _⟩
  · have H := Lib.hid (show drE l = drErr ⟨#[]⟩ l by simp [drE, h30])
    go_enter Tryd.func34, Tryd.ntmps34
    go_wp2_with fail
    go_loopw [3, 11] (DrRel w l) (fun _ i _ => l.length - (intOf i).toNat)
    case atStart => exact ⟨0, ⟨#[]⟩, by omega, rfl, rfl, rfl, G.refl _ _⟩
    case round =>
      obtain ⟨k, b, hkl, rfl, rfl, heq, hG⟩ := hrel
      have HE := Lib.hid heq
      clear heq
      by_cases hk : k < l.length
      · obtain ⟨p, hp⟩ : ∃ p, l[k]? = some p := ⟨_, List.getElem?_eq_getElem hk⟩
        have hdrop : l.drop k = p :: l.drop (k + 1) := by rw [List.drop_eq_getElem_cons hk, ← (List.getElem?_eq_some_iff.1 hp).2]
        have hs1 := hl p (List.mem_of_getElem? hp)
        obtain ⟨bb, bo, rfl, -, -⟩ := RdR.elem drC_sz HR.out hG hp
        have HW := Lib.hid (drRow HR.out hG hp)
        unfold Small at hs1
        have HS : Hid (drErr b (l.drop k) = if keyB p.1 = false then 5 else if leB p.1 b = true then 7 else if drT p = false then 1 else drErr p.1 (l.drop (k + 1))) := Lib.hid (by rw [hdrop]; rfl)
        have HK := Lib.hid hk
        have hB5 : Bk (wr.alloc (.cells #[.string p.1, .int .i64 p.2.1, .int .i64 p.2.2.1, .int .i64 p.2.2.2] 75)) wr.heap.size 75 (drC p) := Bk.new _ _ _
        have hG5 := hG.alloc (.cells #[.string p.1, .int .i64 p.2.1, .int .i64 p.2.2.1, .int .i64 p.2.2.2] 75)
        clear hdrop hp hG
        go_wp2_with (refine wpList_load_at rfl 75 _ rfl ⟨bb, bo + k * 4, none⟩ rfl #[.string p.1, .int .i64 p.2.1, .int .i64 p.2.2.1, .int .i64 p.2.2.2] _ HW.out Tryd.underlying75 rfl (dr_info p) ?_)
        generalize wr.alloc (.cells #[.string p.1, .int .i64 p.2.1, .int .i64 p.2.2.1, .int .i64 p.2.2.2] 75) = w5 at hB5 hG5 ⊢
        generalize wr.heap.size = g at hB5 ⊢
        refine (rkey_c _ _ hs1).mono ?_; rintro e w6 ⟨rfl, hGk⟩
        have hB5 := hB5.quiet hGk
        have hG5 := hG5.trans hGk
        clear hGk
        have c0 : w6.cell? ⟨g, 0, none⟩ = some (.string p.1) := hB5.cell 0
        have c1 : w6.cell? ⟨g, 1, none⟩ = some (.int .i64 p.2.1) := hB5.cell 1
        have c2 : w6.cell? ⟨g, 2, none⟩ = some (.int .i64 p.2.2.1) := hB5.cell 2
        have c3 : w6.cell? ⟨g, 3, none⟩ = some (.int .i64 p.2.2.2) := hB5.cell 3
        cases hkb : keyB p.1 with
        | false =>
          have HF : Hid (drE l = 5) := Lib.hid (by rw [H.out, HE.out, HS.out, if_pos hkb])
          clear hkb
          go_wp2_with fail
          go_ret
          exact ⟨by rw [HF.out]; rfl, hG5⟩
        | true =>
          have HKB := Lib.hid hkb
          clear hkb
          cases hle : leB p.1 b with
          | true =>
            have HF : Hid (drE l = 7) := Lib.hid (by rw [H.out, HE.out, HS.out, if_neg (by simp [HKB.out]), if_pos hle])
            unfold leB at hle
            go_wp2_with fail
            go_ret
            exact ⟨by rw [HF.out]; rfl, hG5⟩
          | false =>
            have HS2 : Hid (drErr ⟨#[]⟩ l = if drT p = false then 1 else drErr p.1 (l.drop (k + 1))) := Lib.hid (by rw [HE.out, HS.out, if_neg (by simp [HKB.out]), if_neg (by simp [hle])])
            unfold leB at hle
            clear HS HE
            go_wp2_with fail
            refine (in_c p.2.1 (-50000) 4000 _).mono ?_; rintro e w' ⟨rfl, rfl⟩
            cases k0 : inB p.2.1 (-50000) 4000 with
            | false =>
              have HF : Hid (drE l = 1) := Lib.hid (by rw [H.out, HS2.out, if_pos (by simp [drT, k0])])
              clear k0
              go_wp2_with fail
              go_ret
              exact ⟨by rw [HF.out]; rfl, hG5⟩
            | true =>
              have K0 := Lib.hid k0
              clear k0
              go_wp2_with fail
              refine (in_c p.2.2.1 (-50000) p.2.2.2 _).mono ?_; rintro e w' ⟨rfl, rfl⟩
              cases k1 : inB p.2.2.1 (-50000) p.2.2.2 with
              | false =>
                have HF : Hid (drE l = 1) := Lib.hid (by rw [H.out, HS2.out, if_pos (by simp [drT, k1])])
                clear k1
                go_wp2_with fail
                go_ret
                exact ⟨by rw [HF.out]; rfl, hG5⟩
              | true =>
                have K1 := Lib.hid k1
                clear k1
                by_cases k2 : 50000 < p.2.2.2
                · have HF : Hid (drE l = 1) := Lib.hid (by rw [H.out, HS2.out, if_pos (by simp [drT, show ¬ p.2.2.2 ≤ 50000 by omega])])
                  go_wp2_with fail
                  go_ret
                  exact ⟨by rw [HF.out]; rfl, hG5⟩
                · have K2 : Hid (p.2.2.2 ≤ 50000) := Lib.hid (by omega)
                  have HF : Hid (drErr ⟨#[]⟩ l = drErr p.1 (l.drop (k + 1))) := Lib.hid (by rw [HS2.out, if_neg (by simp [drT, K0.out, K1.out, K2.out])])
                  go_wp2_with fail
                  go_roundw
                  case rel => exact ⟨k + 1, p.1, by omega, by go_num, rfl, HF.out, hG5⟩
                  case measure => have := HK.out; simp [intOf]; omega
      · obtain rfl : k = l.length := by omega
        have HE2 : Hid (drE l = 0) := Lib.hid (by rw [H.out, HE.out, List.drop_length]; rfl)
        go_wp2_with fail
        go_ret
        exact ⟨by rw [HE2.out]; rfl, hG⟩
set_option maxRecDepth 100000 in
set_option maxHeartbeats 4000000 in
theorem agesFault_c (v : Value) (l : List Ag) (w : World) (hr : RdR w 2 agC v l) (hl : AgOk l) (hn : l.length ≤ 1000) :
    Calls Tryd.prog 38 #[v] w fun e w' => e = .returned (.int .i64 (agE l)) ∧ G w w' none := by
  have HR := Lib.hid hr
  obtain ⟨a, cap, rfl, hcap, hm⟩ := RdR.form hr
  clear hr
  by_cases h30 : 30 < l.length
  · have H := Lib.hid (show agE l = 2 by simp [agE, h30])
    go_enter Tryd.func38, Tryd.ntmps38
    go_wp2_with fail
    go_ret
    exact ⟨by rw [H.out]; rfl, G.refl _ _⟩
  · have H := Lib.hid (show agE l = agErr ⟨#[]⟩ l by simp [agE, h30])
    go_enter Tryd.func38, Tryd.ntmps38
    go_wp2_with fail
    go_loopw [3, 11] (AgRel w l) (fun _ i _ => l.length - (intOf i).toNat)
    case atStart => exact ⟨0, ⟨#[]⟩, by omega, rfl, rfl, rfl, G.refl _ _⟩
    case round =>
      obtain ⟨k, b, hkl, rfl, rfl, heq, hG⟩ := hrel
      have HE := Lib.hid heq
      clear heq
      by_cases hk : k < l.length
      · obtain ⟨p, hp⟩ : ∃ p, l[k]? = some p := ⟨_, List.getElem?_eq_getElem hk⟩
        have hdrop : l.drop k = p :: l.drop (k + 1) := by rw [List.drop_eq_getElem_cons hk, ← (List.getElem?_eq_some_iff.1 hp).2]
        have hs1 := hl p (List.mem_of_getElem? hp)
        obtain ⟨bb, bo, rfl, -, -⟩ := RdR.elem agC_sz HR.out hG hp
        have HW := Lib.hid (agRow HR.out hG hp)
        unfold Small at hs1
        have HS : Hid (agErr b (l.drop k) = if keyB p.1 = false then 5 else if leB p.1 b = true then 7 else if agT p = false then 1 else agErr p.1 (l.drop (k + 1))) := Lib.hid (by rw [hdrop]; rfl)
        have HK := Lib.hid hk
        have hB5 : Bk (wr.alloc (.cells #[.string p.1, .int .i64 p.2] 116)) wr.heap.size 116 (agC p) := Bk.new _ _ _
        have hG5 := hG.alloc (.cells #[.string p.1, .int .i64 p.2] 116)
        clear hdrop hp hG
        go_wp2_with (refine wpList_load_at rfl 116 _ rfl ⟨bb, bo + k * 2, none⟩ rfl #[.string p.1, .int .i64 p.2] _ HW.out Tryd.underlying116 rfl (ag_info p) ?_)
        generalize wr.alloc (.cells #[.string p.1, .int .i64 p.2] 116) = w5 at hB5 hG5 ⊢
        generalize wr.heap.size = g at hB5 ⊢
        refine (rkey_c _ _ hs1).mono ?_; rintro e w6 ⟨rfl, hGk⟩
        have hB5 := hB5.quiet hGk
        have hG5 := hG5.trans hGk
        clear hGk
        have c0 : w6.cell? ⟨g, 0, none⟩ = some (.string p.1) := hB5.cell 0
        have c1 : w6.cell? ⟨g, 1, none⟩ = some (.int .i64 p.2) := hB5.cell 1
        cases hkb : keyB p.1 with
        | false =>
          have HF : Hid (agE l = 5) := Lib.hid (by rw [H.out, HE.out, HS.out, if_pos hkb])
          clear hkb
          go_wp2_with fail
          go_ret
          exact ⟨by rw [HF.out]; rfl, hG5⟩
        | true =>
          have HKB := Lib.hid hkb
          clear hkb
          cases hle : leB p.1 b with
          | true =>
            have HF : Hid (agE l = 7) := Lib.hid (by rw [H.out, HE.out, HS.out, if_neg (by simp [HKB.out]), if_pos hle])
            unfold leB at hle
            go_wp2_with fail
            go_ret
            exact ⟨by rw [HF.out]; rfl, hG5⟩
          | false =>
            have HS2 : Hid (agErr ⟨#[]⟩ l = if agT p = false then 1 else agErr p.1 (l.drop (k + 1))) := Lib.hid (by rw [HE.out, HS.out, if_neg (by simp [HKB.out]), if_neg (by simp [hle])])
            unfold leB at hle
            clear HS HE
            go_wp2_with fail
            refine (in_c p.2 0 50000 _).mono ?_; rintro e w' ⟨rfl, rfl⟩
            cases k0 : inB p.2 0 50000 with
            | false =>
              have HF : Hid (agE l = 1) := Lib.hid (by rw [H.out, HS2.out, if_pos (by simp [agT, k0])])
              clear k0
              go_wp2_with fail
              go_ret
              exact ⟨by rw [HF.out]; rfl, hG5⟩
            | true =>
              have K0 := Lib.hid k0
              clear k0
              have HF : Hid (agErr ⟨#[]⟩ l = agErr p.1 (l.drop (k + 1))) := Lib.hid (by rw [HS2.out, if_neg (by simp [agT, K0.out])])
              go_wp2_with fail
              go_roundw
              case rel => exact ⟨k + 1, p.1, by omega, by go_num, rfl, HF.out, hG5⟩
              case measure => have := HK.out; simp [intOf]; omega
      · obtain rfl : k = l.length := by omega
        have HE2 : Hid (agE l = 0) := Lib.hid (by rw [H.out, HE.out, List.drop_length]; rfl)
        go_wp2_with fail
        go_ret
        exact ⟨by rw [HE2.out]; rfl, hG⟩
end Go.Proofs.YtbieiefbgcgogaaDoor
