/- Drv, Dri, Ext, Tmb, Tim, Drm, Reg, Rek, Drn, Ows, Pck, GenM, GenN, GenW, Gck, Fee, Feg, Feb, Feo. -/
import Derived.Test.YtndeidcddlmhbaaDoorZd1
import Derived.RegionTactic
import Derived.OrdersHeld
import Derived.Deep.RegionHeld3
import Derived.Laws.ResultCell
import Derived.Outline
import Derived.IntWalk
/- Drivers, ages: their checks, hire's and the reference's. Written by gendrv.py. -/
namespace Go.Proofs.YtndeidcddlmhbaaDoor
open Go.RowKit

/-- A driver: key, born, from, to. -/
abbrev Dr := ByteArray × Int × Int × Int
def drC (x : Dr) : Array Value := #[.string x.1, .int .i64 x.2.1, .int .i64 x.2.2.1, .int .i64 x.2.2.2]
theorem drC_sz (x : Dr) : (drC x).size = 4 := rfl
theorem dr_info (x : Dr) : (Tryd.prog.info? 69).map (·.size) = some (drC x).size := (by kernel_rfl : (Tryd.prog.info? 69).map (·.size) = some 4)
def DrOk (l : List Dr) : Prop := ∀ x ∈ l, Small x.1
def drT (x : Dr) : Bool := inB x.2.1 (-50000) 4000 && (inB x.2.2.1 (-50000) x.2.2.2 && decide (x.2.2.2 ≤ 50000))
def drErr (b : ByteArray) : List Dr → Int
  | [] => 0
  | x :: r => if keyB x.1 = false then 5 else if leB x.1 b = true then 7 else if drT x = false then 1 else drErr x.1 r
def drE (l : List Dr) : Int := if 500 < l.length then 2 else drErr ⟨#[]⟩ l
def DrRel (w : World) (l : List Dr) (v i : Value) (wr : World) : Prop :=
  ∃ (k : Nat) (b : ByteArray), k ≤ l.length ∧ i = .int .i64 k ∧ v = .string b ∧ drErr ⟨#[]⟩ l = drErr b (l.drop k) ∧ G w wr none
theorem drRow {W w : World} {bb bo n cap : Nat} {l : List Dr} (h : RdR W 4 drC (.slice (some ⟨bb, bo, none⟩) n cap) l) (hG : G W w none) {k : Nat} {p : Dr} (hp : l[k]? = some p) :
    ∀ j v, (drC p).toList[j]? = some v → w.cell? ((⟨bb, bo + k * 4, none⟩ : Addr).add j) = some v := fun j v hv => by
  rw [add_at]
  exact RdR.cell drC_sz h hG hp j v hv
/-- An age: class, days. -/
abbrev Ag := ByteArray × Int
def agC (x : Ag) : Array Value := #[.string x.1, .int .i64 x.2]
theorem agC_sz (x : Ag) : (agC x).size = 2 := rfl
theorem ag_info (x : Ag) : (Tryd.prog.info? 142).map (·.size) = some (agC x).size := (by kernel_rfl : (Tryd.prog.info? 142).map (·.size) = some 2)
def AgOk (l : List Ag) : Prop := ∀ x ∈ l, Small x.1
def agT (x : Ag) : Bool := inB x.2 0 50000
def agErr (b : ByteArray) : List Ag → Int
  | [] => 0
  | x :: r => if keyB x.1 = false then 5 else if leB x.1 b = true then 7 else if agT x = false then 1 else agErr x.1 r
def agE (l : List Ag) : Int := if 30 < l.length then 2 else agErr ⟨#[]⟩ l
def AgRel (w : World) (l : List Ag) (v i : Value) (wr : World) : Prop :=
  ∃ (k : Nat) (b : ByteArray), k ≤ l.length ∧ i = .int .i64 k ∧ v = .string b ∧ agErr ⟨#[]⟩ l = agErr b (l.drop k) ∧ G w wr none
theorem agRow {W w : World} {bb bo n cap : Nat} {l : List Ag} (h : RdR W 2 agC (.slice (some ⟨bb, bo, none⟩) n cap) l) (hG : G W w none) {k : Nat} {p : Ag} (hp : l[k]? = some p) :
    ∀ j v, (agC p).toList[j]? = some v → w.cell? ((⟨bb, bo + k * 2, none⟩ : Addr).add j) = some v := fun j v hv => by
  rw [add_at]
  exact RdR.cell agC_sz h hG hp j v hv
set_option maxRecDepth 100000 in
set_option maxHeartbeats 4000000 in
theorem checkDrivers_c (v : Value) (l : List Dr) (w : World) (hr : RdR w 4 drC v l) (hl : DrOk l) (hn : l.length ≤ 1000) :
    Calls Tryd.prog 36 #[v] w fun e w' => e = .returned (.int .i64 (drE l)) ∧ G w w' none := by
  have HR := Lib.hid hr
  obtain ⟨a, cap, rfl, hcap, hm⟩ := RdR.form hr
  clear hr
  by_cases h30 : 500 < l.length
  · have H := Lib.hid (show drE l = 2 by simp [drE, h30])
    go_enter Tryd.func36, Tryd.ntmps36
    go_wp2_with fail
    go_ret
    exact ⟨by rw [H.out]; rfl, G.refl _ _⟩
  · have H := Lib.hid (show drE l = drErr ⟨#[]⟩ l by simp [drE, h30])
    go_enter Tryd.func36, Tryd.ntmps36
    go_wp2_with fail
    go_loopw [3, 11] (DrRel w l) (fun _ i _ => l.length - (intOf i).toNat)
    case atStart => exact ⟨0, ⟨#[]⟩, by omega, rfl, rfl, rfl, G.refl _ _⟩
    case round =>
      obtain ⟨k, b, hkl, rfl, rfl, heq, hG⟩ := hrel
      have HE := Lib.hid heq
      clear heq
      by_cases hk : k < l.length
      · obtain ⟨p, hp⟩ : ∃ p, l[k]? = some p := ⟨_, List.getElem?_eq_getElem hk⟩
        have hdrop : l.drop k = p :: l.drop (k + 1) := by rw [List.drop_eq_getElem_cons hk, ← (List.getElem?_eq_some_iff.1 hp).2]
        have hs1 := hl p (List.mem_of_getElem? hp)
        obtain ⟨bb, bo, rfl, -, -⟩ := RdR.elem drC_sz HR.out hG hp
        have HW := Lib.hid (drRow HR.out hG hp)
        unfold Small at hs1
        have HS : Hid (drErr b (l.drop k) = if keyB p.1 = false then 5 else if leB p.1 b = true then 7 else if drT p = false then 1 else drErr p.1 (l.drop (k + 1))) := Lib.hid (by rw [hdrop]; rfl)
        have HK := Lib.hid hk
        have hB5 : Bk (wr.alloc (.cells #[.string p.1, .int .i64 p.2.1, .int .i64 p.2.2.1, .int .i64 p.2.2.2] 69)) wr.heap.size 69 (drC p) := Bk.new _ _ _
        have hG5 := hG.alloc (.cells #[.string p.1, .int .i64 p.2.1, .int .i64 p.2.2.1, .int .i64 p.2.2.2] 69)
        clear hdrop hp hG
        go_wp2_with (refine wpList_load_at rfl 69 _ rfl ⟨bb, bo + k * 4, none⟩ rfl #[.string p.1, .int .i64 p.2.1, .int .i64 p.2.2.1, .int .i64 p.2.2.2] _ HW.out Tryd.underlying69 rfl (dr_info p) ?_)
        generalize wr.alloc (.cells #[.string p.1, .int .i64 p.2.1, .int .i64 p.2.2.1, .int .i64 p.2.2.2] 69) = w5 at hB5 hG5 ⊢
        generalize wr.heap.size = g at hB5 ⊢
        refine (isKey_c _ _ hs1).mono ?_; rintro e w1 ⟨rfl, rfl⟩
        have c0 : w5.cell? ⟨g, 0, none⟩ = some (.string p.1) := hB5.cell 0
        have c1 : w5.cell? ⟨g, 1, none⟩ = some (.int .i64 p.2.1) := hB5.cell 1
        have c2 : w5.cell? ⟨g, 2, none⟩ = some (.int .i64 p.2.2.1) := hB5.cell 2
        have c3 : w5.cell? ⟨g, 3, none⟩ = some (.int .i64 p.2.2.2) := hB5.cell 3
        cases hkb : keyB p.1 with
        | false =>
          have HF : Hid (drE l = 5) := Lib.hid (by rw [H.out, HE.out, HS.out, if_pos hkb])
          clear hkb
          go_wp2_with fail
          go_ret
          exact ⟨by rw [HF.out]; rfl, hG5⟩
        | true =>
          have HKB := Lib.hid hkb
          clear hkb
          cases hle : leB p.1 b with
          | true =>
            have HF : Hid (drE l = 7) := Lib.hid (by rw [H.out, HE.out, HS.out, if_neg (by simp [HKB.out]), if_pos hle])
            unfold leB at hle
            go_wp2_with fail
            go_ret
            exact ⟨by rw [HF.out]; rfl, hG5⟩
          | false =>
            have HS2 : Hid (drErr ⟨#[]⟩ l = if drT p = false then 1 else drErr p.1 (l.drop (k + 1))) := Lib.hid (by rw [HE.out, HS.out, if_neg (by simp [HKB.out]), if_neg (by simp [hle])])
            unfold leB at hle
            clear HS HE
            go_wp2_with fail
            refine (within_c p.2.1 (-50000) 4000 _).mono ?_; rintro e w' ⟨rfl, rfl⟩
            cases k0 : inB p.2.1 (-50000) 4000 with
            | false =>
              have HF : Hid (drE l = 1) := Lib.hid (by rw [H.out, HS2.out, if_pos (by simp [drT, k0])])
              clear k0
              go_wp2_with fail
              go_ret
              exact ⟨by rw [HF.out]; rfl, hG5⟩
            | true =>
              have K0 := Lib.hid k0
              clear k0
              go_wp2_with fail
              refine (within_c p.2.2.1 (-50000) p.2.2.2 _).mono ?_; rintro e w' ⟨rfl, rfl⟩
              cases k1 : inB p.2.2.1 (-50000) p.2.2.2 with
              | false =>
                have HF : Hid (drE l = 1) := Lib.hid (by rw [H.out, HS2.out, if_pos (by simp [drT, k1])])
                clear k1
                go_wp2_with fail
                go_ret
                exact ⟨by rw [HF.out]; rfl, hG5⟩
              | true =>
                have K1 := Lib.hid k1
                clear k1
                by_cases k2 : 50000 < p.2.2.2
                · have HF : Hid (drE l = 1) := Lib.hid (by rw [H.out, HS2.out, if_pos (by simp [drT, show ¬ p.2.2.2 ≤ 50000 by omega])])
                  go_wp2_with fail
                  go_ret
                  exact ⟨by rw [HF.out]; rfl, hG5⟩
                · have K2 : Hid (p.2.2.2 ≤ 50000) := Lib.hid (by omega)
                  have HF : Hid (drErr ⟨#[]⟩ l = drErr p.1 (l.drop (k + 1))) := Lib.hid (by rw [HS2.out, if_neg (by simp [drT, K0.out, K1.out, K2.out])])
                  go_wp2_with fail
                  go_roundw
                  case rel => exact ⟨k + 1, p.1, by omega, by go_num, rfl, HF.out, hG5⟩
                  case measure => have := HK.out; simp [intOf]; omega
      · obtain rfl : k = l.length := by omega
        have HE2 : Hid (drE l = 0) := Lib.hid (by rw [H.out, HE.out, List.drop_length]; rfl)
        go_wp2_with fail
        go_ret
        exact ⟨by rw [HE2.out]; rfl, hG⟩
set_option maxRecDepth 100000 in
set_option maxHeartbeats 4000000 in
theorem checkAges_c (v : Value) (l : List Ag) (w : World) (hr : RdR w 2 agC v l) (hl : AgOk l) (hn : l.length ≤ 1000) :
    Calls Tryd.prog 94 #[v] w fun e w' => e = .returned (.int .i64 (agE l)) ∧ G w w' none := by
  have HR := Lib.hid hr
  obtain ⟨a, cap, rfl, hcap, hm⟩ := RdR.form hr
  clear hr
  by_cases h30 : 30 < l.length
  · have H := Lib.hid (show agE l = 2 by simp [agE, h30])
    go_enter Tryd.func94, Tryd.ntmps94
    go_wp2_with fail
    go_ret
    exact ⟨by rw [H.out]; rfl, G.refl _ _⟩
  · have H := Lib.hid (show agE l = agErr ⟨#[]⟩ l by simp [agE, h30])
    go_enter Tryd.func94, Tryd.ntmps94
    go_wp2_with fail
    go_loopw [3, 11] (AgRel w l) (fun _ i _ => l.length - (intOf i).toNat)
    case atStart => exact ⟨0, ⟨#[]⟩, by omega, rfl, rfl, rfl, G.refl _ _⟩
    case round =>
      obtain ⟨k, b, hkl, rfl, rfl, heq, hG⟩ := hrel
      have HE := Lib.hid heq
      clear heq
      by_cases hk : k < l.length
      · obtain ⟨p, hp⟩ : ∃ p, l[k]? = some p := ⟨_, List.getElem?_eq_getElem hk⟩
        have hdrop : l.drop k = p :: l.drop (k + 1) := by rw [List.drop_eq_getElem_cons hk, ← (List.getElem?_eq_some_iff.1 hp).2]
        have hs1 := hl p (List.mem_of_getElem? hp)
        obtain ⟨bb, bo, rfl, -, -⟩ := RdR.elem agC_sz HR.out hG hp
        have HW := Lib.hid (agRow HR.out hG hp)
        unfold Small at hs1
        have HS : Hid (agErr b (l.drop k) = if keyB p.1 = false then 5 else if leB p.1 b = true then 7 else if agT p = false then 1 else agErr p.1 (l.drop (k + 1))) := Lib.hid (by rw [hdrop]; rfl)
        have HK := Lib.hid hk
        have hB5 : Bk (wr.alloc (.cells #[.string p.1, .int .i64 p.2] 142)) wr.heap.size 142 (agC p) := Bk.new _ _ _
        have hG5 := hG.alloc (.cells #[.string p.1, .int .i64 p.2] 142)
        clear hdrop hp hG
        go_wp2_with (refine wpList_load_at rfl 142 _ rfl ⟨bb, bo + k * 2, none⟩ rfl #[.string p.1, .int .i64 p.2] _ HW.out Tryd.underlying142 rfl (ag_info p) ?_)
        generalize wr.alloc (.cells #[.string p.1, .int .i64 p.2] 142) = w5 at hB5 hG5 ⊢
        generalize wr.heap.size = g at hB5 ⊢
        refine (isKey_c _ _ hs1).mono ?_; rintro e w1 ⟨rfl, rfl⟩
        have c0 : w5.cell? ⟨g, 0, none⟩ = some (.string p.1) := hB5.cell 0
        have c1 : w5.cell? ⟨g, 1, none⟩ = some (.int .i64 p.2) := hB5.cell 1
        cases hkb : keyB p.1 with
        | false =>
          have HF : Hid (agE l = 5) := Lib.hid (by rw [H.out, HE.out, HS.out, if_pos hkb])
          clear hkb
          go_wp2_with fail
          go_ret
          exact ⟨by rw [HF.out]; rfl, hG5⟩
        | true =>
          have HKB := Lib.hid hkb
          clear hkb
          cases hle : leB p.1 b with
          | true =>
            have HF : Hid (agE l = 7) := Lib.hid (by rw [H.out, HE.out, HS.out, if_neg (by simp [HKB.out]), if_pos hle])
            unfold leB at hle
            go_wp2_with fail
            go_ret
            exact ⟨by rw [HF.out]; rfl, hG5⟩
          | false =>
            have HS2 : Hid (agErr ⟨#[]⟩ l = if agT p = false then 1 else agErr p.1 (l.drop (k + 1))) := Lib.hid (by rw [HE.out, HS.out, if_neg (by simp [HKB.out]), if_neg (by simp [hle])])
            unfold leB at hle
            clear HS HE
            go_wp2_with fail
            refine (within_c p.2 0 50000 _).mono ?_; rintro e w' ⟨rfl, rfl⟩
            cases k0 : inB p.2 0 50000 with
            | false =>
              have HF : Hid (agE l = 1) := Lib.hid (by rw [H.out, HS2.out, if_pos (by simp [agT, k0])])
              clear k0
              go_wp2_with fail
              go_ret
              exact ⟨by rw [HF.out]; rfl, hG5⟩
            | true =>
              have K0 := Lib.hid k0
              clear k0
              have HF : Hid (agErr ⟨#[]⟩ l = agErr p.1 (l.drop (k + 1))) := Lib.hid (by rw [HS2.out, if_neg (by simp [agT, K0.out])])
              go_wp2_with fail
              go_roundw
              case rel => exact ⟨k + 1, p.1, by omega, by go_num, rfl, HF.out, hG5⟩
              case measure => have := HK.out; simp [intOf]; omega
      · obtain rfl : k = l.length := by omega
        have HE2 : Hid (agE l = 0) := Lib.hid (by rw [H.out, HE.out, List.drop_length]; rfl)
        go_wp2_with fail
        go_ret
        exact ⟨by rw [HE2.out]; rfl, hG⟩
set_option maxRecDepth 100000 in
set_option maxHeartbeats 4000000 in
theorem driversFault_c (v : Value) (l : List Dr) (w : World) (hr : RdR w 4 drC v l) (hl : DrOk l) (hn : l.length ≤ 1000) :
    Calls Tryd.prog 35 #[v] w fun e w' => e = .returned (.int .i64 (drE l)) ∧ G w w' none := by
  have HR := Lib.hid hr
  obtain ⟨a, cap, rfl, hcap, hm⟩ := RdR.form hr
  clear hr
  by_cases h30 : 500 < l.length
  · have H := Lib.hid (show drE l = 2 by simp [drE, h30])
    go_enter Tryd.func35, Tryd.ntmps35
    go_wp2_with fail
    go_ret
    exact ⟨by rw [H.out]; rfl, G.refl _ _⟩
  · have H := Lib.hid (show drE l = drErr ⟨#[]⟩ l by simp [drE, h30])
    go_enter Tryd.func35, Tryd.ntmps35
    go_wp2_with fail
    go_loopw [3, 11] (DrRel w l) (fun _ i _ => l.length - (intOf i).toNat)
    case atStart => exact ⟨0, ⟨#[]⟩, by omega, rfl, rfl, rfl, G.refl _ _⟩
    case round =>
      obtain ⟨k, b, hkl, rfl, rfl, heq, hG⟩ := hrel
      have HE := Lib.hid heq
      clear heq
      by_cases hk : k < l.length
      · obtain ⟨p, hp⟩ : ∃ p, l[k]? = some p := ⟨_, List.getElem?_eq_getElem hk⟩
        have hdrop : l.drop k = p :: l.drop (k + 1) := by rw [List.drop_eq_getElem_cons hk, ← (List.getElem?_eq_some_iff.1 hp).2]
        have hs1 := hl p (List.mem_of_getElem? hp)
        obtain ⟨bb, bo, rfl, -, -⟩ := RdR.elem drC_sz HR.out hG hp
        have HW := Lib.hid (drRow HR.out hG hp)
        unfold Small at hs1
        have HS : Hid (drErr b (l.drop k) = if keyB p.1 = false then 5 else if leB p.1 b = true then 7 else if drT p = false then 1 else drErr p.1 (l.drop (k + 1))) := Lib.hid (by rw [hdrop]; rfl)
        have HK := Lib.hid hk
        have hB5 : Bk (wr.alloc (.cells #[.string p.1, .int .i64 p.2.1, .int .i64 p.2.2.1, .int .i64 p.2.2.2] 69)) wr.heap.size 69 (drC p) := Bk.new _ _ _
        have hG5 := hG.alloc (.cells #[.string p.1, .int .i64 p.2.1, .int .i64 p.2.2.1, .int .i64 p.2.2.2] 69)
        clear hdrop hp hG
        go_wp2_with (refine wpList_load_at rfl 69 _ rfl ⟨bb, bo + k * 4, none⟩ rfl #[.string p.1, .int .i64 p.2.1, .int .i64 p.2.2.1, .int .i64 p.2.2.2] _ HW.out Tryd.underlying69 rfl (dr_info p) ?_)
        generalize wr.alloc (.cells #[.string p.1, .int .i64 p.2.1, .int .i64 p.2.2.1, .int .i64 p.2.2.2] 69) = w5 at hB5 hG5 ⊢
        generalize wr.heap.size = g at hB5 ⊢
        refine (rkey_c _ _ hs1).mono ?_; rintro e w6 ⟨rfl, hGk⟩
        have hB5 := hB5.quiet hGk
        have hG5 := hG5.trans hGk
        clear hGk
        have c0 : w6.cell? ⟨g, 0, none⟩ = some (.string p.1) := hB5.cell 0
        have c1 : w6.cell? ⟨g, 1, none⟩ = some (.int .i64 p.2.1) := hB5.cell 1
        have c2 : w6.cell? ⟨g, 2, none⟩ = some (.int .i64 p.2.2.1) := hB5.cell 2
        have c3 : w6.cell? ⟨g, 3, none⟩ = some (.int .i64 p.2.2.2) := hB5.cell 3
        cases hkb : keyB p.1 with
        | false =>
          have HF : Hid (drE l = 5) := Lib.hid (by rw [H.out, HE.out, HS.out, if_pos hkb])
          clear hkb
          go_wp2_with fail
          go_ret
          exact ⟨by rw [HF.out]; rfl, hG5⟩
        | true =>
          have HKB := Lib.hid hkb
          clear hkb
          cases hle : leB p.1 b with
          | true =>
            have HF : Hid (drE l = 7) := Lib.hid (by rw [H.out, HE.out, HS.out, if_neg (by simp [HKB.out]), if_pos hle])
            unfold leB at hle
            go_wp2_with fail
            go_ret
            exact ⟨by rw [HF.out]; rfl, hG5⟩
          | false =>
            have HS2 : Hid (drErr ⟨#[]⟩ l = if drT p = false then 1 else drErr p.1 (l.drop (k + 1))) := Lib.hid (by rw [HE.out, HS.out, if_neg (by simp [HKB.out]), if_neg (by simp [hle])])
            unfold leB at hle
            clear HS HE
            go_wp2_with fail
            refine (in_c p.2.1 (-50000) 4000 _).mono ?_; rintro e w' ⟨rfl, rfl⟩
            cases k0 : inB p.2.1 (-50000) 4000 with
            | false =>
              have HF : Hid (drE l = 1) := Lib.hid (by rw [H.out, HS2.out, if_pos (by simp [drT, k0])])
              clear k0
              go_wp2_with fail
              go_ret
              exact ⟨by rw [HF.out]; rfl, hG5⟩
            | true =>
              have K0 := Lib.hid k0
              clear k0
              go_wp2_with fail
              refine (in_c p.2.2.1 (-50000) p.2.2.2 _).mono ?_; rintro e w' ⟨rfl, rfl⟩
              cases k1 : inB p.2.2.1 (-50000) p.2.2.2 with
              | false =>
                have HF : Hid (drE l = 1) := Lib.hid (by rw [H.out, HS2.out, if_pos (by simp [drT, k1])])
                clear k1
                go_wp2_with fail
                go_ret
                exact ⟨by rw [HF.out]; rfl, hG5⟩
              | true =>
                have K1 := Lib.hid k1
                clear k1
                by_cases k2 : 50000 < p.2.2.2
                · have HF : Hid (drE l = 1) := Lib.hid (by rw [H.out, HS2.out, if_pos (by simp [drT, show ¬ p.2.2.2 ≤ 50000 by omega])])
                  go_wp2_with fail
                  go_ret
                  exact ⟨by rw [HF.out]; rfl, hG5⟩
                · have K2 : Hid (p.2.2.2 ≤ 50000) := Lib.hid (by omega)
                  have HF : Hid (drErr ⟨#[]⟩ l = drErr p.1 (l.drop (k + 1))) := Lib.hid (by rw [HS2.out, if_neg (by simp [drT, K0.out, K1.out, K2.out])])
                  go_wp2_with fail
                  go_roundw
                  case rel => exact ⟨k + 1, p.1, by omega, by go_num, rfl, HF.out, hG5⟩
                  case measure => have := HK.out; simp [intOf]; omega
      · obtain rfl : k = l.length := by omega
        have HE2 : Hid (drE l = 0) := Lib.hid (by rw [H.out, HE.out, List.drop_length]; rfl)
        go_wp2_with fail
        go_ret
        exact ⟨by rw [HE2.out]; rfl, hG⟩
set_option maxRecDepth 100000 in
set_option maxHeartbeats 4000000 in
theorem agesFault_c (v : Value) (l : List Ag) (w : World) (hr : RdR w 2 agC v l) (hl : AgOk l) (hn : l.length ≤ 1000) :
    Calls Tryd.prog 39 #[v] w fun e w' => e = .returned (.int .i64 (agE l)) ∧ G w w' none := by
  have HR := Lib.hid hr
  obtain ⟨a, cap, rfl, hcap, hm⟩ := RdR.form hr
  clear hr
  by_cases h30 : 30 < l.length
  · have H := Lib.hid (show agE l = 2 by simp [agE, h30])
    go_enter Tryd.func39, Tryd.ntmps39
    go_wp2_with fail
    go_ret
    exact ⟨by rw [H.out]; rfl, G.refl _ _⟩
  · have H := Lib.hid (show agE l = agErr ⟨#[]⟩ l by simp [agE, h30])
    go_enter Tryd.func39, Tryd.ntmps39
    go_wp2_with fail
    go_loopw [3, 11] (AgRel w l) (fun _ i _ => l.length - (intOf i).toNat)
    case atStart => exact ⟨0, ⟨#[]⟩, by omega, rfl, rfl, rfl, G.refl _ _⟩
    case round =>
      obtain ⟨k, b, hkl, rfl, rfl, heq, hG⟩ := hrel
      have HE := Lib.hid heq
      clear heq
      by_cases hk : k < l.length
      · obtain ⟨p, hp⟩ : ∃ p, l[k]? = some p := ⟨_, List.getElem?_eq_getElem hk⟩
        have hdrop : l.drop k = p :: l.drop (k + 1) := by rw [List.drop_eq_getElem_cons hk, ← (List.getElem?_eq_some_iff.1 hp).2]
        have hs1 := hl p (List.mem_of_getElem? hp)
        obtain ⟨bb, bo, rfl, -, -⟩ := RdR.elem agC_sz HR.out hG hp
        have HW := Lib.hid (agRow HR.out hG hp)
        unfold Small at hs1
        have HS : Hid (agErr b (l.drop k) = if keyB p.1 = false then 5 else if leB p.1 b = true then 7 else if agT p = false then 1 else agErr p.1 (l.drop (k + 1))) := Lib.hid (by rw [hdrop]; rfl)
        have HK := Lib.hid hk
        have hB5 : Bk (wr.alloc (.cells #[.string p.1, .int .i64 p.2] 142)) wr.heap.size 142 (agC p) := Bk.new _ _ _
        have hG5 := hG.alloc (.cells #[.string p.1, .int .i64 p.2] 142)
        clear hdrop hp hG
        go_wp2_with (refine wpList_load_at rfl 142 _ rfl ⟨bb, bo + k * 2, none⟩ rfl #[.string p.1, .int .i64 p.2] _ HW.out Tryd.underlying142 rfl (ag_info p) ?_)
        generalize wr.alloc (.cells #[.string p.1, .int .i64 p.2] 142) = w5 at hB5 hG5 ⊢
        generalize wr.heap.size = g at hB5 ⊢
        refine (rkey_c _ _ hs1).mono ?_; rintro e w6 ⟨rfl, hGk⟩
        have hB5 := hB5.quiet hGk
        have hG5 := hG5.trans hGk
        clear hGk
        have c0 : w6.cell? ⟨g, 0, none⟩ = some (.string p.1) := hB5.cell 0
        have c1 : w6.cell? ⟨g, 1, none⟩ = some (.int .i64 p.2) := hB5.cell 1
        cases hkb : keyB p.1 with
        | false =>
          have HF : Hid (agE l = 5) := Lib.hid (by rw [H.out, HE.out, HS.out, if_pos hkb])
          clear hkb
          go_wp2_with fail
          go_ret
          exact ⟨by rw [HF.out]; rfl, hG5⟩
        | true =>
          have HKB := Lib.hid hkb
          clear hkb
          cases hle : leB p.1 b with
          | true =>
            have HF : Hid (agE l = 7) := Lib.hid (by rw [H.out, HE.out, HS.out, if_neg (by simp [HKB.out]), if_pos hle])
            unfold leB at hle
            go_wp2_with fail
            go_ret
            exact ⟨by rw [HF.out]; rfl, hG5⟩
          | false =>
            have HS2 : Hid (agErr ⟨#[]⟩ l = if agT p = false then 1 else agErr p.1 (l.drop (k + 1))) := Lib.hid (by rw [HE.out, HS.out, if_neg (by simp [HKB.out]), if_neg (by simp [hle])])
            unfold leB at hle
            clear HS HE
            go_wp2_with fail
            refine (in_c p.2 0 50000 _).mono ?_; rintro e w' ⟨rfl, rfl⟩
            cases k0 : inB p.2 0 50000 with
            | false =>
              have HF : Hid (agE l = 1) := Lib.hid (by rw [H.out, HS2.out, if_pos (by simp [agT, k0])])
              clear k0
              go_wp2_with fail
              go_ret
              exact ⟨by rw [HF.out]; rfl, hG5⟩
            | true =>
              have K0 := Lib.hid k0
              clear k0
              have HF : Hid (agErr ⟨#[]⟩ l = agErr p.1 (l.drop (k + 1))) := Lib.hid (by rw [HS2.out, if_neg (by simp [agT, K0.out])])
              go_wp2_with fail
              go_roundw
              case rel => exact ⟨k + 1, p.1, by omega, by go_num, rfl, HF.out, hG5⟩
              case measure => have := HK.out; simp [intOf]; omega
      · obtain rfl : k = l.length := by omega
        have HE2 : Hid (agE l = 0) := Lib.hid (by rw [H.out, HE.out, List.drop_length]; rfl)
        go_wp2_with fail
        go_ret
        exact ⟨by rw [HE2.out]; rfl, hG⟩
end Go.Proofs.YtndeidcddlmhbaaDoor

/- Drivers: the index of one (slices.IndexFunc with a closure), ageOf. -/
namespace Go.Proofs.YtndeidcddlmhbaaDoor
open Go.RowKit

def drAt (l : List Dr) (s : ByteArray) : Int := ixP (fun p => p.1.toList == s.toList) l 0
def IdrRel (w : World) (l : List Dr) (t : ByteArray) (i : Value) (wr : World) : Prop :=
  ∃ k : Nat, k ≤ l.length ∧ i = .int .i64 k ∧ drAt l t = ixP (fun p : Dr => p.1.toList == t.toList) (l.drop k) k ∧ G w wr none
theorem cloM_c (p : Dr) (t : ByteArray) (g : Nat) (w : World) (hB : Bk w g 9 #[.string t]) : Calls Tryd.prog 95 #[.agg (drC p), .pointer (some ⟨g, 0, none⟩)] w fun e w' => e = .returned (.bool (p.1.toList == t.toList)) ∧ G w w' none := by
  have hc := (Bk.new w 69 (drC p)).cell 0
  rw [show (drC p)[0]? = some (.string p.1) from rfl] at hc
  have hc2 := (hB.alloc (.cells (drC p) 69)).cell 0
  rw [show (#[Value.string t] : Array Value)[0]? = some (.string t) from rfl] at hc2
  cases he : (p.1.toList == t.toList) with
  | true =>
    go_enter Tryd.func95, Tryd.ntmps95
    go_wp2_with fail
    go_ret
    exact ⟨rfl, (G.refl _ _).alloc _⟩
  | false =>
    go_enter Tryd.func95, Tryd.ntmps95
    go_wp2_with fail
    go_ret
    exact ⟨rfl, (G.refl _ _).alloc _⟩
set_option maxRecDepth 100000 in
set_option maxHeartbeats 2000000 in
theorem indexM_c (v : Value) (l : List Dr) (t : ByteArray) (g : Nat) (w : World) (hr : RdR w 4 drC v l) (hn : l.length ≤ 1000) (hB : Bk w g 9 #[.string t]) :
    Calls Tryd.prog 37 #[v, .func (.func 95) #[] #[.pointer (some ⟨g, 0, none⟩)]] w fun e w' => e = .returned (.int .i64 (drAt l t)) ∧ G w w' none := by
  have HR := Lib.hid hr
  obtain ⟨a, cap, rfl, hcap, hm⟩ := RdR.form hr
  clear hr
  go_enter Tryd.func37, Tryd.ntmps37
  go_wp2_with fail
  go_loopw [8] (IdrRel w l t) (fun i _ => l.length - (intOf i).toNat)
  case atStart => exact ⟨0, by omega, rfl, rfl, G.refl _ _⟩
  case round =>
    obtain ⟨k, hk, rfl, heq, hG⟩ := hrel
    have HE := Lib.hid heq
    clear heq
    by_cases hlt : k < l.length
    · obtain ⟨p, hp⟩ : ∃ p, l[k]? = some p := ⟨_, List.getElem?_eq_getElem hlt⟩
      have HD : Hid (drAt l t = if (p.1.toList == t.toList) = true then (k : Int) else ixP (fun p : Dr => p.1.toList == t.toList) (l.drop (k + 1)) ((k : Int) + 1)) := Lib.hid (by
        rw [HE.out, List.drop_eq_getElem_cons hlt, (List.getElem?_eq_some_iff.1 hp).2]; rfl)
      obtain ⟨bb, bo, rfl, -, -⟩ := RdR.elem drC_sz HR.out hG hp
      have HW := Lib.hid (drRow HR.out hG hp)
      have HK := Lib.hid hlt
      clear hp
      go_wp2_with (refine wpList_load_at rfl 69 _ rfl ⟨bb, bo + k * 4, none⟩ rfl (drC p) _ HW.out Tryd.underlying69 rfl (dr_info p) ?_)
      refine (cloM_c p t g _ (hB.quiet hG)).mono ?_; rintro e w1 ⟨rfl, hG1⟩
      cases he : (p.1.toList == t.toList) with
      | true =>
        have HF : Hid (drAt l t = k) := Lib.hid (by rw [HD.out, if_pos he])
        clear he
        go_wp2_with fail
        go_ret
        exact ⟨ret_int HF.out.symm, hG.trans hG1⟩
      | false =>
        have HF : Hid (drAt l t = ixP (fun p : Dr => p.1.toList == t.toList) (l.drop (k + 1)) ((k + 1 : Nat) : Int)) := Lib.hid (by rw [HD.out, if_neg (by simp [he])]; rfl)
        clear he
        go_wp2_with fail
        go_roundw
        case rel => exact ⟨k + 1, by omega, by go_num, HF.out, hG.trans hG1⟩
        case measure => have := HK.out; simp [intOf]; omega
    · obtain rfl : k = l.length := by omega
      have HF : Hid (drAt l t = -1) := Lib.hid (by rw [HE.out, List.drop_length]; rfl)
      go_wp2_with fail
      go_ret
      exact ⟨ret_int HF.out.symm, hG⟩
theorem cloL_c (p : Dr) (t : ByteArray) (g : Nat) (w : World) (hB : Bk w g 9 #[.string t]) : Calls Tryd.prog 38 #[.agg (drC p), .pointer (some ⟨g, 0, none⟩)] w fun e w' => e = .returned (.bool (p.1.toList == t.toList)) ∧ G w w' none := by
  have hc := (Bk.new w 69 (drC p)).cell 0
  rw [show (drC p)[0]? = some (.string p.1) from rfl] at hc
  have hc2 := (hB.alloc (.cells (drC p) 69)).cell 0
  rw [show (#[Value.string t] : Array Value)[0]? = some (.string t) from rfl] at hc2
  cases he : (p.1.toList == t.toList) with
  | true =>
    go_enter Tryd.func38, Tryd.ntmps38
    go_wp2_with fail
    go_ret
    exact ⟨rfl, (G.refl _ _).alloc _⟩
  | false =>
    go_enter Tryd.func38, Tryd.ntmps38
    go_wp2_with fail
    go_ret
    exact ⟨rfl, (G.refl _ _).alloc _⟩
set_option maxRecDepth 100000 in
set_option maxHeartbeats 2000000 in
theorem indexL_c (v : Value) (l : List Dr) (t : ByteArray) (g : Nat) (w : World) (hr : RdR w 4 drC v l) (hn : l.length ≤ 1000) (hB : Bk w g 9 #[.string t]) :
    Calls Tryd.prog 37 #[v, .func (.func 38) #[] #[.pointer (some ⟨g, 0, none⟩)]] w fun e w' => e = .returned (.int .i64 (drAt l t)) ∧ G w w' none := by
  have HR := Lib.hid hr
  obtain ⟨a, cap, rfl, hcap, hm⟩ := RdR.form hr
  clear hr
  go_enter Tryd.func37, Tryd.ntmps37
  go_wp2_with fail
  go_loopw [8] (IdrRel w l t) (fun i _ => l.length - (intOf i).toNat)
  case atStart => exact ⟨0, by omega, rfl, rfl, G.refl _ _⟩
  case round =>
    obtain ⟨k, hk, rfl, heq, hG⟩ := hrel
    have HE := Lib.hid heq
    clear heq
    by_cases hlt : k < l.length
    · obtain ⟨p, hp⟩ : ∃ p, l[k]? = some p := ⟨_, List.getElem?_eq_getElem hlt⟩
      have HD : Hid (drAt l t = if (p.1.toList == t.toList) = true then (k : Int) else ixP (fun p : Dr => p.1.toList == t.toList) (l.drop (k + 1)) ((k : Int) + 1)) := Lib.hid (by
        rw [HE.out, List.drop_eq_getElem_cons hlt, (List.getElem?_eq_some_iff.1 hp).2]; rfl)
      obtain ⟨bb, bo, rfl, -, -⟩ := RdR.elem drC_sz HR.out hG hp
      have HW := Lib.hid (drRow HR.out hG hp)
      have HK := Lib.hid hlt
      clear hp
      go_wp2_with (refine wpList_load_at rfl 69 _ rfl ⟨bb, bo + k * 4, none⟩ rfl (drC p) _ HW.out Tryd.underlying69 rfl (dr_info p) ?_)
      refine (cloL_c p t g _ (hB.quiet hG)).mono ?_; rintro e w1 ⟨rfl, hG1⟩
      cases he : (p.1.toList == t.toList) with
      | true =>
        have HF : Hid (drAt l t = k) := Lib.hid (by rw [HD.out, if_pos he])
        clear he
        go_wp2_with fail
        go_ret
        exact ⟨ret_int HF.out.symm, hG.trans hG1⟩
      | false =>
        have HF : Hid (drAt l t = ixP (fun p : Dr => p.1.toList == t.toList) (l.drop (k + 1)) ((k + 1 : Nat) : Int)) := Lib.hid (by rw [HD.out, if_neg (by simp [he])]; rfl)
        clear he
        go_wp2_with fail
        go_roundw
        case rel => exact ⟨k + 1, by omega, by go_num, HF.out, hG.trans hG1⟩
        case measure => have := HK.out; simp [intOf]; omega
    · obtain rfl : k = l.length := by omega
      have HF : Hid (drAt l t = -1) := Lib.hid (by rw [HE.out, List.drop_length]; rfl)
      go_wp2_with fail
      go_ret
      exact ⟨ret_int HF.out.symm, hG⟩
def agOf (s : ByteArray) : List Ag → Int
  | [] => 0
  | x :: r => if x.1.toList == s.toList then x.2 else agOf s r
def AofRel (w : World) (l : List Ag) (s : ByteArray) (i : Value) (wr : World) : Prop :=
  ∃ k : Nat, k ≤ l.length ∧ i = .int .i64 k ∧ agOf s l = agOf s (l.drop k) ∧ G w wr none
set_option maxRecDepth 100000 in
set_option maxHeartbeats 2000000 in
theorem ageOf_c (v : Value) (l : List Ag) (s : ByteArray) (w : World) (hr : RdR w 2 agC v l) (hn : l.length ≤ 1000) :
    Calls Tryd.prog 97 #[v, .string s] w fun e w' => e = .returned (.int .i64 (agOf s l)) ∧ G w w' none := by
  have HR := Lib.hid hr
  obtain ⟨a, cap, rfl, hcap, hm⟩ := RdR.form hr
  clear hr
  go_enter Tryd.func97, Tryd.ntmps97
  go_wp2_with fail
  go_loopw [9] (AofRel w l s) (fun i _ => l.length - (intOf i).toNat)
  case atStart => exact ⟨0, by omega, rfl, rfl, G.refl _ _⟩
  case round =>
    obtain ⟨k, hkl, rfl, heq, hG⟩ := hrel
    have HE := Lib.hid heq
    clear heq
    by_cases hk : k < l.length
    · obtain ⟨p, hp⟩ : ∃ p, l[k]? = some p := ⟨_, List.getElem?_eq_getElem hk⟩
      have HD : Hid (agOf s l = if p.1.toList == s.toList then p.2 else agOf s (l.drop (k + 1))) := Lib.hid (by
        rw [HE.out, List.drop_eq_getElem_cons hk, (List.getElem?_eq_some_iff.1 hp).2]; rfl)
      obtain ⟨bb, bo, rfl, -, -⟩ := RdR.elem agC_sz HR.out hG hp
      have HW := Lib.hid (agRow HR.out hG hp)
      have HK := Lib.hid hk
      have hG5 := hG.alloc (.cells #[.string p.1, .int .i64 p.2] 142)
      clear hp hG
      cases he : (p.1.toList == s.toList) with
      | true =>
        have HF : Hid (agOf s l = p.2) := Lib.hid (by rw [HD.out, if_pos he])
        go_wp2_with (refine wpList_load_at rfl 142 _ rfl ⟨bb, bo + k * 2, none⟩ rfl #[.string p.1, .int .i64 p.2] _ HW.out Tryd.underlying142 rfl (ag_info p) ?_)
        go_ret
        exact ⟨ret_int HF.out.symm, hG5⟩
      | false =>
        have HF : Hid (agOf s l = agOf s (l.drop (k + 1))) := Lib.hid (by rw [HD.out, if_neg (by simp [he])])
        go_wp2_with (refine wpList_load_at rfl 142 _ rfl ⟨bb, bo + k * 2, none⟩ rfl #[.string p.1, .int .i64 p.2] _ HW.out Tryd.underlying142 rfl (ag_info p) ?_)
        go_roundw
        case rel => exact ⟨k + 1, by omega, by go_num, HF.out, hG5⟩
        case measure => have := HK.out; simp [intOf]; omega
    · obtain rfl : k = l.length := by omega
      have HF : Hid (agOf s l = 0) := Lib.hid (by rw [HE.out, List.drop_length]; rfl)
      go_wp2_with fail
      go_ret
      exact ⟨ret_int HF.out.symm, hG⟩
end Go.Proofs.YtndeidcddlmhbaaDoor

/- Extras: CheckExtras, its reference, ExtraCost, its reference. -/
namespace Go.Proofs.YtndeidcddlmhbaaDoor
open Go.RowKit

/-- An extra: its key, Once, Day, Most. -/
abbrev Ext := ByteArray × Int × Int × Int
def exC (x : Ext) : Array Value := #[.string x.1, .int .i64 x.2.1, .int .i64 x.2.2.1, .int .i64 x.2.2.2]
theorem exC_sz (x : Ext) : (exC x).size = 4 := rfl
def ExOk (l : List Ext) : Prop := ∀ x ∈ l, Small x.1 ∧ bnd x.2.1 ∧ bnd x.2.2.1 ∧ bnd x.2.2.2
def exBad (x : Ext) : Bool := !inB x.2.1 0 1000000 || (!inB x.2.2.1 0 1000000 || !inB x.2.2.2 (-1) 1000000)
def exErr (b : ByteArray) : List Ext → Int
  | [] => 0
  | x :: r => if keyB x.1 = false then 5 else if leB x.1 b = true then 7 else if exBad x = true then 1 else exErr x.1 r
def exE (l : List Ext) : Int := if 30 < l.length then 2 else exErr ⟨#[]⟩ l
def ExRel (w : World) (l : List Ext) (v i : Value) (wr : World) : Prop :=
  ∃ (k : Nat) (b : ByteArray), k ≤ l.length ∧ i = .int .i64 k ∧ v = .string b ∧ exErr ⟨#[]⟩ l = exErr b (l.drop k) ∧ G w wr none
end Go.Proofs.YtndeidcddlmhbaaDoor

/- basic.IsTime, basic.IsMoment. -/
namespace Go.Proofs.YtndeidcddlmhbaaDoor
open Go.RowKit

theorem wi_info (a b : Int) : (Tryd.prog.info? 29).map (·.size) = some #[Value.int .i64 a, .int .i64 b].size := (by kernel_rfl : (Tryd.prog.info? 29).map (·.size) = some 2)
theorem wi_one (a b : Int) : #[Value.int .i64 a, .int .i64 b].all (·.oneCell') = true := by simp [Value.oneCell']
def timB (a z : Int) : Bool := decide (0 ≤ a) && (decide (a < z) && decide (z < 5761440))
theorem timB_iff (a z : Int) : timB a z = true ↔ 0 ≤ a ∧ a < z ∧ z < 5761440 := by unfold timB; simp
theorem timB_yes {a z : Int} (h : 0 ≤ a ∧ a < z ∧ z < 5761440) : timB a z = true := (timB_iff a z).2 h
theorem timB_no {a z : Int} (h : ¬ (0 ≤ a ∧ a < z ∧ z < 5761440)) : timB a z = false := by
  cases hb : timB a z with
  | false => rfl
  | true => exact absurd ((timB_iff a z).1 hb) h
set_option maxRecDepth 100000 in
set_option maxHeartbeats 1000000 in
theorem isTime_c (a z : Int) (w : World) : Calls Tryd.prog 99 #[.agg #[.int .i64 a, .int .i64 z]] w fun e w' => e = .returned (.bool (timB a z)) ∧ G w w' none := by
  have hG : G w (w.alloc (.cells #[.int .i64 a, .int .i64 z] 29)) none := (G.refl w none).alloc _
  rcases (show a < 0 ∨ (0 ≤ a ∧ z ≤ a) ∨ (0 ≤ a ∧ a < z ∧ 5761440 ≤ z) ∨ (0 ≤ a ∧ a < z ∧ z < 5761440) by omega) with h1 | ⟨h1, h2⟩ | ⟨h1, h2, h3⟩ | ⟨h1, h2, h3⟩
  · have HF : Hid (timB a z = false) := Lib.hid (timB_no (by omega))
    go_enter Tryd.func99, Tryd.ntmps99
    go_wp2_with fail
    go_ret
    exact ⟨ret_bool HF.out.symm, hG⟩
  · have HF : Hid (timB a z = false) := Lib.hid (timB_no (by omega))
    go_enter Tryd.func99, Tryd.ntmps99
    go_wp2_with fail
    go_ret
    exact ⟨ret_bool HF.out.symm, hG⟩
  · have HF : Hid (timB a z = false) := Lib.hid (timB_no (by omega))
    have h4 : ¬ z < 5761440 := by omega
    go_enter Tryd.func99, Tryd.ntmps99
    go_wp2_with fail
    go_ret
    exact ⟨ret_bool (by rw [HF.out] <;> exact decide_eq_false h4), hG⟩
  · have HF : Hid (timB a z = true) := Lib.hid (timB_yes ⟨h1, h2, h3⟩)
    go_enter Tryd.func99, Tryd.ntmps99
    go_wp2_with fail
    go_ret
    exact ⟨ret_bool (by rw [HF.out] <;> exact decide_eq_true h3), hG⟩
end Go.Proofs.YtndeidcddlmhbaaDoor

/- The time of a hire: Days, begun, TimeFault, DaysOf. -/
namespace Go.Proofs.YtndeidcddlmhbaaDoor
open Go.RowKit

def tE (a z : Int) : Int := if 0 ≤ a ∧ a < z ∧ z ≤ 5761439 then (if 172800 < z - a then 2 else 0) else 1
def tN (a z : Int) : Int := if tE a z = 0 then (z - a + 1439) / 1440 else 0
set_option maxRecDepth 100000 in
theorem begun_c (m : Int) (w : World) (h0 : 0 ≤ m) (h1 : m ≤ 5761439) : Calls Tryd.prog 100 #[.int .i64 m, .int .i64 1440] w fun e w' => e = .returned (.int .i64 ((m + 1439) / 1440)) ∧ w = w' := by
  have HF : Hid ((m + 1440 - 1) / 1440 = (m + 1439) / 1440) := Lib.hid (by omega)
  go_enter Tryd.func100, Tryd.ntmps100
  go_wp2_with fail
  go_ret
  exact ⟨ret_int HF.out, rfl⟩
set_option maxRecDepth 100000 in
set_option maxHeartbeats 2000000 in
theorem days_c (a z : Int) (w : World) (ha : bnd a) (hz : bnd z) : Calls Tryd.prog 44 #[.agg #[.int .i64 a, .int .i64 z]] w fun e w' => e = .returned (.tuple #[.int .i64 (tN a z), .int .i64 (tE a z)]) ∧ G w w' none := by
  unfold bnd at ha hz
  have hG : G w (w.alloc (.cells #[.int .i64 a, .int .i64 z] 29)) none := (G.refl w none).alloc _
  have hB := Bk.new w 29 #[.int .i64 a, .int .i64 z]
  by_cases h0 : 0 ≤ a ∧ a < z ∧ z < 5761440
  · obtain ⟨h1, h2, h3⟩ := h0
    have HI := Lib.hid (timB_yes ⟨h1, h2, h3⟩)
    have HT : Hid (tE a z = if 172800 < z - a then 2 else 0) := Lib.hid (by rw [tE, if_pos ⟨h1, h2, by omega⟩])
    have HD : Hid (tE a z = 0 → tN a z = (z - a + 1439) / 1440) := Lib.hid fun h => by rw [tN, if_pos h]
    have HD2 : Hid (tE a z ≠ 0 → tN a z = 0) := Lib.hid fun h => by rw [tN, if_neg h]
    go_enter Tryd.func44, Tryd.ntmps44
    go_wp2_with (refine wpList_load_row rfl 29 _ rfl w.heap.size rfl 29 #[.int .i64 a, .int .i64 z] (0, 0) _ hB Tryd.underlying29 rfl (wi_info a z) ?_)
    refine (isTime_c a z _).mono ?_; rintro e w1 ⟨rfl, hG1⟩
    rw [HI.out]
    have hB1 := hB.quiet hG1
    have hG01 := hG.trans hG1
    have c0 : w1.cell? ⟨w.heap.size, 0, none⟩ = some (.int .i64 a) := hB1.cell 0
    have c1 : w1.cell? ⟨w.heap.size, 1, none⟩ = some (.int .i64 z) := hB1.cell 1
    clear hB hG hG1
    rcases (show 172800 < z - a ∨ z - a ≤ 172800 by omega) with h4 | h4
    · have HE : Hid (tE a z = 2) := Lib.hid (by rw [HT.out, if_pos h4])
      have HN : Hid (tN a z = 0) := Lib.hid (HD2.out (by rw [HE.out]; decide))
      have h5 : 120 < (z - a + 1439) / 1440 := by omega
      go_wp2_with fail
      refine (begun_c _ _ (by omega) (by omega)).mono ?_; rintro e w' ⟨rfl, rfl⟩
      generalize (z - a + 1439) / 1440 = N at h5 ⊢
      go_wp2_with fail
      go_ret2
      exact ⟨by rw [HE.out, HN.out]; rfl, hG01⟩
    · have HE : Hid (tE a z = 0) := Lib.hid (by rw [HT.out, if_neg (by omega)])
      have HN : Hid (tN a z = (z - a + 1439) / 1440) := Lib.hid (HD.out HE.out)
      have h5 : (z - a + 1439) / 1440 ≤ 120 := by omega
      go_wp2_with fail
      refine (begun_c _ _ (by omega) (by omega)).mono ?_; rintro e w' ⟨rfl, rfl⟩
      generalize (z - a + 1439) / 1440 = N at h5 HN ⊢
      go_wp2_with fail
      go_ret2
      exact ⟨by rw [HE.out, HN.out]; rfl, hG01⟩
  · have HE : Hid (tE a z = 1) := Lib.hid (by rw [tE, if_neg (by omega)])
    have HN : Hid (tN a z = 0) := Lib.hid (by rw [tN, if_neg (by rw [HE.out]; decide)])
    have HI := Lib.hid (timB_no h0)
    clear h0
    go_enter Tryd.func44, Tryd.ntmps44
    go_wp2_with (refine wpList_load_row rfl 29 _ rfl w.heap.size rfl 29 #[.int .i64 a, .int .i64 z] (0, 0) _ hB Tryd.underlying29 rfl (wi_info a z) ?_)
    refine (isTime_c a z _).mono ?_; rintro e w1 ⟨rfl, hG1⟩
    rw [HI.out]
    go_wp2_with fail
    go_ret2
    exact ⟨by rw [HE.out, HN.out]; rfl, hG.trans hG1⟩
set_option maxRecDepth 100000 in
set_option maxHeartbeats 2000000 in
theorem timeFault_c (a z : Int) (w : World) (ha : bnd a) (hz : bnd z) : Calls Tryd.prog 41 #[.agg #[.int .i64 a, .int .i64 z]] w fun e w' => e = .returned (.int .i64 (tE a z)) ∧ G w w' none := by
  unfold bnd at ha hz
  have hG : G w (w.alloc (.cells #[.int .i64 a, .int .i64 z] 29)) none := (G.refl w none).alloc _
  rcases (show a < 0 ∨ (0 ≤ a ∧ z ≤ a) ∨ (0 ≤ a ∧ a < z ∧ 5761439 < z) ∨ (0 ≤ a ∧ a < z ∧ z ≤ 5761439) by omega) with h1 | ⟨h1, h2⟩ | ⟨h1, h2, h3⟩ | ⟨h1, h2, h3⟩
  · have HE : Hid (tE a z = 1) := Lib.hid (by rw [tE, if_neg (by omega)])
    go_enter Tryd.func41, Tryd.ntmps41
    go_wp2_with fail
    go_ret
    exact ⟨by rw [HE.out]; rfl, hG⟩
  · have HE : Hid (tE a z = 1) := Lib.hid (by rw [tE, if_neg (by omega)])
    go_enter Tryd.func41, Tryd.ntmps41
    go_wp2_with fail
    go_ret
    exact ⟨by rw [HE.out]; rfl, hG⟩
  · have HE : Hid (tE a z = 1) := Lib.hid (by rw [tE, if_neg (by omega)])
    go_enter Tryd.func41, Tryd.ntmps41
    go_wp2_with fail
    go_ret
    exact ⟨by rw [HE.out]; rfl, hG⟩
  · have HT : Hid (tE a z = if 172800 < z - a then 2 else 0) := Lib.hid (by rw [tE, if_pos ⟨h1, h2, h3⟩])
    rcases (show 172800 < z - a ∨ z - a ≤ 172800 by omega) with h4 | h4
    · have HE : Hid (tE a z = 2) := Lib.hid (by rw [HT.out, if_pos h4])
      go_enter Tryd.func41, Tryd.ntmps41
      go_wp2_with fail
      go_ret
      exact ⟨by rw [HE.out]; rfl, hG⟩
    · have HE : Hid (tE a z = 0) := Lib.hid (by rw [HT.out, if_neg (by omega)])
      go_enter Tryd.func41, Tryd.ntmps41
      go_wp2_with fail
      go_ret
      exact ⟨by rw [HE.out]; rfl, hG⟩
theorem tE_zero {a z : Int} (h : tE a z = 0) : 0 ≤ a ∧ a < z ∧ z ≤ 5761439 ∧ z - a ≤ 172800 := by
  unfold tE at h
  split at h
  · split at h
    · omega
    · omega
  · omega
def DofRel (w : World) (a z : Int) (s3 s4 : Value) (wr : World) : Prop :=
  ∃ j : Nat, s3 = .int .i64 j ∧ s4 = .int .i64 (a + 1440 * j) ∧ (j : Int) ≤ (z - a + 1439) / 1440 ∧ Bk wr w.heap.size 29 #[.int .i64 a, .int .i64 z] ∧ G w wr none
set_option maxRecDepth 100000 in
set_option maxHeartbeats 2000000 in
theorem daysOf_c (a z : Int) (w : World) (h : tE a z = 0) : Calls Tryd.prog 48 #[.agg #[.int .i64 a, .int .i64 z]] w fun e w' => e = .returned (.int .i64 (tN a z)) ∧ G w w' none := by
  have HN : Hid (tN a z = (z - a + 1439) / 1440) := Lib.hid (by rw [tN, if_pos h])
  obtain ⟨h1, h2, h3, h4⟩ := tE_zero h
  clear h
  go_enter Tryd.func48, Tryd.ntmps48
  go_wp2_with fail
  go_loopw [3, 4] (DofRel w a z) (fun s _ _ => ((z - a + 1439) / 1440).toNat - (intOf s).toNat)
  case atStart => exact ⟨0, rfl, by go_num, by omega, Bk.new w _ _, (G.refl _ _).alloc _⟩
  case round =>
    obtain ⟨j, rfl, rfl, hj, hB, hG⟩ := hrel
    have c0 : wr.cell? ⟨w.heap.size, 0, none⟩ = some (.int .i64 a) := hB.cell 0
    have c1 : wr.cell? ⟨w.heap.size, 1, none⟩ = some (.int .i64 z) := hB.cell 1
    by_cases hlt : a + 1440 * (j : Int) < z
    · go_wp2_with fail
      go_roundw
      case rel => exact ⟨j + 1, by go_num, by go_num, by omega, hB, hG⟩
      case measure => simp [intOf]; omega
    · have hjn : (j : Int) = (z - a + 1439) / 1440 := by omega
      go_wp2_with fail
      go_ret
      exact ⟨by rw [HN.out, ← hjn]; rfl, hG⟩
end Go.Proofs.YtndeidcddlmhbaaDoor

/- Drivers: MayOf, May. -/
namespace Go.Proofs.YtndeidcddlmhbaaDoor
open Go.RowKit

def agLast (s : ByteArray) : Int → List Ag → Int
  | acc, [] => acc
  | acc, x :: r => agLast s (if x.1.toList == s.toList then x.2 else acc) r
def mayB (p : Dr) (m a z : Int) : Bool := decide (p.2.2.1 ≤ a / 1440) && (decide ((z - 1) / 1440 < p.2.2.2) && decide (m ≤ a / 1440 - p.2.1))
theorem drT_b {p : Dr} (h : drT p = true) : -50000 ≤ p.2.1 ∧ p.2.1 ≤ 4000 ∧ -50000 ≤ p.2.2.1 ∧ p.2.2.1 ≤ p.2.2.2 ∧ p.2.2.2 ≤ 50000 := by
  simp only [drT, inB, Bool.and_eq_true, decide_eq_true_eq] at h
  omega
def MofRel (w : World) (l : List Ag) (s : ByteArray) (m i : Value) (wr : World) : Prop :=
  ∃ (k : Nat) (acc : Int), k ≤ l.length ∧ i = .int .i64 k ∧ m = .int .i64 acc ∧ agLast s 0 l = agLast s acc (l.drop k) ∧ G w wr none
set_option maxRecDepth 100000 in
set_option maxHeartbeats 4000000 in
theorem mayOf_c (p : Dr) (v : Value) (l : List Ag) (s : ByteArray) (a z : Int) (w : World) (hr : RdR w 2 agC v l) (hn : l.length ≤ 1000) (hp : drT p = true) (ht : tE a z = 0) :
    Calls Tryd.prog 42 #[.agg (drC p), v, .string s, .agg #[.int .i64 a, .int .i64 z]] w fun e w' => e = .returned (.bool (mayB p (agLast s 0 l) a z)) ∧ G w w' none := by
  obtain ⟨t1, t2, t3, -⟩ := tE_zero ht
  obtain ⟨d1, d2, d3, d4, d5⟩ := drT_b hp
  clear hp ht
  have hD := (Bk.new w 69 (drC p)).alloc (.cells #[.int .i64 a, .int .i64 z] 29)
  have hW := Bk.newAt (w := w.alloc (.cells (drC p) 69)) (b := w.heap.size + 1) (by simp) 29 #[.int .i64 a, .int .i64 z]
  have hG := ((G.refl w none).alloc (.cells (drC p) 69)).alloc (.cells #[.int .i64 a, .int .i64 z] 29)
  have HR := Lib.hid (hr.quiet hG)
  obtain ⟨ad, cap, rfl, hcap, hm⟩ := RdR.form hr
  clear hr
  obtain ⟨p1, p2, p3, p4⟩ := p
  simp only [drC] at hD hW hG HR ⊢
  dsimp only at d1 d2 d3 d4 d5
  go_enter Tryd.func42, Tryd.ntmps42
  go_upto_region 1 with fail
  generalize (w.alloc (.cells #[.string p1, .int .i64 p2, .int .i64 p3, .int .i64 p4] 69)).alloc (.cells #[.int .i64 a, .int .i64 z] 29) = w2 at hD hW hG HR ⊢
  have c0 : w2.cell? ⟨w.heap.size + 1, 0, none⟩ = some (.int .i64 a) := hW.cell 0
  have c1 : w2.cell? ⟨w.heap.size + 1, 1, none⟩ = some (.int .i64 z) := hW.cell 1
  obtain ⟨f, hf⟩ : ∃ f, a / 1440 = f := ⟨_, rfl⟩
  obtain ⟨g, hg⟩ : ∃ g, (z - 1) / 1440 = g := ⟨_, rfl⟩
  have hfb : 0 ≤ f ∧ f ≤ 4001 := by omega
  have hgb : f ≤ g ∧ g ≤ 4001 := by omega
  have hw1 : IntKind.i64.wrap (z - 1) = z - 1 := by rw [IntKind.wrap_i64]; omega
  have hw2 : IntKind.i64.wrap (a.tdiv 1440) = f := by rw [Int.tdiv_eq_ediv_of_nonneg t1, hf, IntKind.wrap_i64]; omega
  have hw3 : IntKind.i64.wrap ((z - 1).tdiv 1440) = g := by rw [Int.tdiv_eq_ediv_of_nonneg (by omega), hg, IntKind.wrap_i64]; omega
  have HM : Hid (mayB (p1, p2, p3, p4) (agLast s 0 l) a z = (decide (p3 ≤ f) && (decide (g < p4) && decide (agLast s 0 l ≤ f - p2)))) := Lib.hid (by rw [← hf, ← hg]; rfl)
  go_quiet (fail)
  have hGq := hG.drewN nq
  have hDq := hD.drewN nq
  have HRq := Lib.hid (HR.out.quiet ((G.refl _ none).drewN nq))
  clear hG hD hW c0 c1 hw1 hw2 hw3 HR hf hg t1 t2 t3
  generalize w2.drewN nq = w3 at hGq hDq HRq ⊢
  have HDD := Lib.hid hDq
  clear hDq
  go_wp2_with fail
  go_loopw [11, 23] (MofRel w3 l s) (fun _ i _ => l.length - (intOf i).toNat)
  case atStart => exact ⟨0, 0, by omega, rfl, rfl, rfl, G.refl _ _⟩
  case round =>
    obtain ⟨k, acc, hkl, rfl, rfl, heq, hGr⟩ := hrel
    have HE := Lib.hid heq
    clear heq
    by_cases hk : k < l.length
    · obtain ⟨q, hq⟩ : ∃ q, l[k]? = some q := ⟨_, List.getElem?_eq_getElem hk⟩
      have HS : Hid (agLast s 0 l = agLast s (if q.1.toList == s.toList then q.2 else acc) (l.drop (k + 1))) := Lib.hid (by
        rw [HE.out, List.drop_eq_getElem_cons hk, (List.getElem?_eq_some_iff.1 hq).2]; rfl)
      obtain ⟨bb, bo, rfl, -, -⟩ := RdR.elem agC_sz HRq.out hGr hq
      have HW := Lib.hid (agRow HRq.out hGr hq)
      have HK := Lib.hid hk
      have hG5 := hGr.alloc (.cells #[.string q.1, .int .i64 q.2] 142)
      clear hq hGr
      cases he : (q.1.toList == s.toList) with
      | true =>
        have HF : Hid (agLast s 0 l = agLast s q.2 (l.drop (k + 1))) := Lib.hid (by rw [HS.out, if_pos he])
        go_wp2_with (refine wpList_load_at rfl 142 _ rfl ⟨bb, bo + k * 2, none⟩ rfl #[.string q.1, .int .i64 q.2] _ HW.out Tryd.underlying142 rfl (ag_info q) ?_)
        go_roundw
        case rel => exact ⟨k + 1, q.2, by omega, by go_num, rfl, HF.out, hG5⟩
        case measure => have := HK.out; simp [intOf]; omega
      | false =>
        have HF : Hid (agLast s 0 l = agLast s acc (l.drop (k + 1))) := Lib.hid (by rw [HS.out, if_neg (by simp [he])])
        go_wp2_with (refine wpList_load_at rfl 142 _ rfl ⟨bb, bo + k * 2, none⟩ rfl #[.string q.1, .int .i64 q.2] _ HW.out Tryd.underlying142 rfl (ag_info q) ?_)
        go_roundw
        case rel => exact ⟨k + 1, acc, by omega, by go_num, rfl, HF.out, hG5⟩
        case measure => have := HK.out; simp [intOf]; omega
    · obtain rfl : k = l.length := by omega
      have HF : Hid (agLast s 0 l = acc) := Lib.hid (by rw [HE.out, List.drop_length]; rfl)
      have hD := HDD.out.quiet hGr
      have hG := hGq.trans hGr
      have c1 : wr.cell? ⟨w.heap.size, 1, none⟩ = some (.int .i64 p2) := hD.cell 1
      have c2 : wr.cell? ⟨w.heap.size, 2, none⟩ = some (.int .i64 p3) := hD.cell 2
      have c3 : wr.cell? ⟨w.heap.size, 3, none⟩ = some (.int .i64 p4) := hD.cell 3
      have hw4 : IntKind.i64.wrap (p4 - 1) = p4 - 1 := by rw [IntKind.wrap_i64]; omega
      have hw5 : IntKind.i64.wrap (f - p2) = f - p2 := by rw [IntKind.wrap_i64]; omega
      have HM2 : Hid (mayB (p1, p2, p3, p4) (agLast s 0 l) a z = (decide (p3 ≤ f) && (decide (g < p4) && decide (acc ≤ f - p2)))) := Lib.hid (by rw [HM.out, HF.out])
      clear HM HF HE
      go_wp2_with fail
      refine (in_c _ _ _ _).mono ?_; rintro e w' ⟨rfl, rfl⟩
      cases k1 : inB f p3 (p4 - 1) with
      | false =>
        have hn1 : ¬ (p3 ≤ f ∧ f ≤ p4 - 1) := by simpa [inB] using k1
        have HF : Hid (mayB (p1, p2, p3, p4) (agLast s 0 l) a z = false) := Lib.hid (by
          rw [HM2.out]
          simp only [Bool.and_eq_false_iff, decide_eq_false_iff_not]
          omega)
        clear k1 hn1 HM2
        go_wp2_with fail
        go_ret
        exact ⟨ret_bool HF.out.symm, hG⟩
      | true =>
        have hn1 : p3 ≤ f ∧ f ≤ p4 - 1 := by simpa [inB] using k1
        clear k1
        go_wp2_with fail
        refine (in_c _ _ _ _).mono ?_; rintro e w' ⟨rfl, rfl⟩
        cases k2 : inB g p3 (p4 - 1) with
        | false =>
          have hn2 : ¬ (p3 ≤ g ∧ g ≤ p4 - 1) := by simpa [inB] using k2
          have HF : Hid (mayB (p1, p2, p3, p4) (agLast s 0 l) a z = false) := Lib.hid (by
            rw [HM2.out]
            simp only [Bool.and_eq_false_iff, decide_eq_false_iff_not]
            omega)
          clear k2 hn2 HM2 hn1
          go_wp2_with fail
          go_ret
          exact ⟨ret_bool HF.out.symm, hG⟩
        | true =>
          have hn2 : p3 ≤ g ∧ g ≤ p4 - 1 := by simpa [inB] using k2
          have HF : Hid (mayB (p1, p2, p3, p4) (agLast s 0 l) a z = decide (acc ≤ f - p2)) := Lib.hid (by
            rw [HM2.out, decide_eq_true hn1.1, decide_eq_true (show g < p4 by omega)]
            rfl)
          clear k2 hn2 HM2 hn1
          by_cases k3 : acc ≤ f - p2
          · have HF2 : Hid (mayB (p1, p2, p3, p4) (agLast s 0 l) a z = true) := Lib.hid (by rw [HF.out, decide_eq_true k3])
            go_wp2_with fail
            go_ret
            exact ⟨ret_bool HF2.out.symm, hG⟩
          · go_wp2_with fail
            go_ret
            exact ⟨ret_bool HF.out.symm, hG⟩
end Go.Proofs.YtndeidcddlmhbaaDoor

/- Steps of a region that draws its order, by hand. No program. -/
namespace Go.Proofs.YtndeidcddlmhbaaDoor
open Go.RowKit
section
variable {P : Program} {ops : Array Oper} {o : Oper} {a : Act} {w : World} {K : Act → World → Prop} {Q : Exit → Act → World → Prop} {E : Prop}
theorem st_val (hg : o.guard = none) {v : Value} {w' : World} (hr : (execOp a.eval o).run P w = .ok (.value v) w') (hK : K (a.put o.dst v) w') : if Region.wanted o (yielded ops a.tmps) = true then Oper.wp P o a w K Q else E := by
  rw [if_pos (by simp [Region.wanted, hg])]
  unfold Oper.wp
  rw [hr]
  exact hK
theorem st_wp (hg : o.guard = none) (h : Oper.wp P o a w K Q) : if Region.wanted o (yielded ops a.tmps) = true then Oper.wp P o a w K Q else E := by
  rw [if_pos (by simp [Region.wanted, hg])]
  exact h
theorem st_call (hg : o.guard = none) {f : FuncId} {args : Array Value} {w1 : World} (hr : (execOp a.eval o).run P w = .ok (.enter f args) w1) (hc : Calls P f args w1 fun e w' => ∃ v, e = .returned v ∧ K (a.put o.dst v) w') : if Region.wanted o (yielded ops a.tmps) = true then Oper.wp P o a w K Q else E := by
  rw [if_pos (by simp [Region.wanted, hg])]
  unfold Oper.wp
  rw [hr]
  refine hc.mono ?_
  rintro e w' ⟨v, rfl, hK⟩
  exact hK
theorem run_load_row {ty : TypeId} {x : Operand} (ho : o.op = .load ty x) (g : Nat) (hx : a.eval x = .pointer (some ⟨g, 0, none⟩)) (t : TypeId) (cs : Array Value) (d : TypeDesc) (hg : Bk w g t cs)
    (hu : P.underlying ty = some d) (hd : (match d with | .struct _ | .array _ _ => true | _ => false) = true) (hi : (P.info? ty).map (·.size) = some cs.size) : (execOp a.eval o).run P w = .ok (.value (.agg cs)) w := by
  unfold execOp
  simp only [ho, hx, Instr.loadAt, Instr.sureAddr, Sem.run_bind, Sem.run_pure, Result.andThen_ok, run_loadVar_row w g t ty cs (0, 0) d hg hu hd hi]
/-- One that may come up, and it alone. -/
theorem ready_one {md : Region.Mode} {fuel : Nat} {listed : Array Bool} {i : Nat} (hr : Region.ready md ops listed = [i]) (ho : ops[i]? = some o)
    (h : ∀ K' : Act → World → Prop, (∀ a w, wpAny P md ops Q fuel (listed.setIfInBounds i true) a w → K' a w) → if Region.wanted o (yielded ops a.tmps) = true then Oper.wp P o a w K' Q else K' (a.put o.dst undef) w) : wpAny P md ops Q (fuel + 1) listed a w :=
  wpAny_ready hr (by simp) (AllReady.cons ho h AllReady.nil)
theorem ready_two {md : Region.Mode} {fuel : Nat} {listed : Array Bool} {i j : Nat} {o2 : Oper} (hr : Region.ready md ops listed = [i, j]) (ho : ops[i]? = some o) (ho2 : ops[j]? = some o2)
    (h : ∀ K' : Act → World → Prop, (∀ a w, wpAny P md ops Q fuel (listed.setIfInBounds i true) a w → K' a w) → if Region.wanted o (yielded ops a.tmps) = true then Oper.wp P o a w K' Q else K' (a.put o.dst undef) w)
    (h2 : ∀ K' : Act → World → Prop, (∀ a w, wpAny P md ops Q fuel (listed.setIfInBounds j true) a w → K' a w) → if Region.wanted o2 (yielded ops a.tmps) = true then Oper.wp P o2 a w K' Q else K' (a.put o2.dst undef) w) : wpAny P md ops Q (fuel + 1) listed a w :=
  wpAny_ready hr (by simp) (AllReady.cons ho h (AllReady.cons ho2 h2 AllReady.nil))
end
end Go.Proofs.YtndeidcddlmhbaaDoor

/- A region that draws its order, whose loads are taken first: what they read holds until one store comes up, and that store waits for each of them. No program. -/
namespace Go.Proofs.YtndeidcddlmhbaaDoor
open Go.RowKit
section
variable {P : Program} {ops : Array Oper} {Q : Exit → Act → World → Prop} {md : Region.Mode} {S : World → Prop} {k : Nat}
/-- Whatever order is picked from here on; 'S' holds behind every operation, until number 'k' has come up. -/
def wpAnyK (P : Program) (md : Region.Mode) (ops : Array Oper) (Q : Exit → Act → World → Prop) (S : World → Prop) (k : Nat) : Nat → Array Bool → Act → World → Prop
  | 0, listed, a, w => Region.ready md ops listed = [] ∧ Q .normal a w
  | fuel + 1, listed, a, w =>
    (Region.ready md ops listed = [] → Q .normal a w) ∧
    ∀ i ∈ Region.ready md ops listed, wpOp P ops Q i (fun a' w' => (i ≠ k → listed.getD k true = false → S w') ∧ wpAnyK P md ops Q S k fuel (listed.setIfInBounds i true) a' w') a w
theorem wpAny_of_K : ∀ (fuel : Nat) (listed : Array Bool) (a : Act) (w : World), wpAnyK P md ops Q S k fuel listed a w → wpAny P md ops Q fuel listed a w
  | 0, _, _, _, h => h
  | fuel + 1, _, _, _, h => ⟨h.1, fun i hi => wpOp_mono (fun a' w' h' => wpAny_of_K fuel _ a' w' h'.2) (h.2 i hi)⟩
/-- Once 'k' has come up nothing more is asked. -/
theorem wpAnyK_of_any : ∀ (fuel : Nat) (listed : Array Bool) (a : Act) (w : World), listed.getD k true = true → wpAny P md ops Q fuel listed a w → wpAnyK P md ops Q S k fuel listed a w
  | 0, _, _, _, _, h => h
  | fuel + 1, listed, a, w, hk, h => by
    refine ⟨h.1, fun i hi => ?_⟩
    have hk' : (listed.setIfInBounds i true).getD k true = true := by
      by_cases e : i = k
      · subst e
        by_cases hlt : i < listed.size
        · simp [hlt]
        · simp [hlt]
      · rw [getD_set_ne true e]; exact hk
    refine wpOp_mono (K := wpAny P md ops Q fuel (listed.setIfInBounds i true)) (fun a' w' h' => ?_) (h.2 i hi)
    refine ⟨fun _ h0 => ?_, wpAnyK_of_any fuel _ a' w' hk' h'⟩
    rw [hk] at h0
    cases h0
theorem wpAnyK_first {i : Nat} {oi : Oper} {v : Value} {S' : World → Prop} (hi : ops[i]? = some oi) (hsel : ∀ (j : Nat) (o : Oper) cs b, ops[j]? = some o → o.op ≠ .select cs b) (hik : i ≠ k)
    (hQ : ∀ c a w, Q (.panic c) (a.put oi.dst v) w → Q (.panic c) a w) (hw : (∀ w, S' w) ∨ (S' = S ∧ ∃ ok, ops[k]? = some ok ∧ ∃ e ∈ ok.after, Region.binds md e = true ∧ e.on = i)) :
    ∀ (fuel : Nat) (listed : Array Bool) (a : Act) (w : World),
      (∀ j oj, ops[j]? = some oj → j ≠ i → listed.getD j true = false → (∀ e ∈ oj.after, Region.binds md e = true → e.on ≠ i) → oi.apart ops oj = true) →
      i ∈ Region.ready md ops listed → listed.getD k true = false ∨ (∀ w, S' w) → YieldsIf P ops S' oi v a → (listed.getD k true = false → S w) → S' w →
      wpAnyK P md ops Q S k fuel (listed.setIfInBounds i true) (a.put oi.dst v) w → wpAnyK P md ops Q S k (fuel + 1) listed a w := by
  intro fuel
  induction fuel with
  | zero =>
    intro listed a w _ hr _ hy hS hS' H
    refine ⟨fun h => (by rw [h] at hr; cases hr), fun j hj => ?_⟩
    by_cases hji : j = i
    · subst hji; exact hy.wpOp hi hS' ⟨fun _ h0 => hS h0, H⟩
    · have := ready_mono hj hji
      rw [H.1] at this
      cases this
  | succ fuel ih =>
    intro listed a w hfree hr hun0 hy hS hS' H
    refine ⟨fun h => (by rw [h] at hr; cases hr), fun j hj => ?_⟩
    by_cases hji : j = i
    · subst hji; exact hy.wpOp hi hS' ⟨fun _ h0 => hS h0, H⟩
    · have h1 := H.2 j (ready_mono hj hji)
      obtain ⟨hjun, oj, hoj, hall⟩ := mem_ready.1 hj
      have hnot : ∀ e ∈ oj.after, Region.binds md e = true → e.on ≠ i := fun e he hb heq => by
        have h1 := hall e he hb
        have h0 := (mem_ready.1 hr).1
        rw [heq] at h1
        rcases Nat.lt_or_ge i listed.size with h' | h'
        · simp [h'] at h0 h1; rw [h0] at h1; cases h1
        · simp [Array.getElem?_eq_none h'] at h1
      have h2 := wpOp_putIf hoj (hfree j oj hoj hji hjun hnot) (fun cs b => hsel i oi cs b hi) (fun cs b => hsel j oj cs b hoj) hQ hy h1
      have hfree' : ∀ k ok, ops[k]? = some ok → k ≠ i → (listed.setIfInBounds j true).getD k true = false →
          (∀ e ∈ ok.after, Region.binds md e = true → e.on ≠ i) → oi.apart ops ok = true := fun k ok hk hki hun hno => by
        refine hfree k ok hk hki ?_ hno
        by_cases hjk : j = k
        · subst hjk; exact hjun
        · rw [getD_set_ne true hjk] at hun; exact hun
      refine wpOp_mono (fun a' w' h3 => ?_) h2
      obtain ⟨hy', hT, hrest⟩ := h3
      have hTj : j ≠ k → listed.getD k true = false → S w' := fun hjk h0 => hT hjk (by rw [getD_set_ne true hik]; exact h0)
      refine ⟨hTj, ?_⟩
      have hrest' : wpAnyK P md ops Q S k fuel ((listed.setIfInBounds j true).setIfInBounds i true) (a'.put oi.dst v) w' := by
        rw [Array.setIfInBounds_comm _ _ hji]
        exact hrest
      rcases hw with hw | ⟨rfl, ok, hok, e, he, hb, hei⟩
      · refine ih (listed.setIfInBounds j true) a' w' hfree' (ready_mono hr (Ne.symm hji)) (.inr hw) hy' (fun h0 => ?_) (hw w') hrest'
        by_cases hjk : j = k
        · subst hjk
          exfalso
          have hjs : j < listed.size := by
            rcases Nat.lt_or_ge j listed.size with h' | h'
            · exact h'
            · have := (mem_ready.1 hj).1
              simp [Array.getElem?_eq_none h'] at this
          simp [hjs] at h0
        · exact hTj hjk (by rw [getD_set_ne true hjk] at h0; exact h0)
      · have hjk : j ≠ k := by
          rintro rfl
          rw [hoj] at hok
          obtain rfl := Option.some.inj hok
          exact hnot e he hb hei
        rcases hun0 with h0 | hall'
        · have hs' := hTj hjk h0
          exact ih (listed.setIfInBounds j true) a' w' hfree' (ready_mono hr (Ne.symm hji)) (.inl (by rw [getD_set_ne true hjk]; exact h0)) hy' (fun _ => hs') hs' hrest'
        · exact ih (listed.setIfInBounds j true) a' w' hfree' (ready_mono hr (Ne.symm hji)) (.inr hall') hy' (fun _ => hall' w') (hall' w') hrest'
/-- Take first what yields in whatever world. -/
theorem wpAnyK_take {i : Nat} {oi : Oper} {v : Value} {fuel : Nat} {listed : Array Bool} {a : Act} {w : World} (hi : ops[i]? = some oi) (hik : i ≠ k)
    (hs : Region.noSelect ops = true) (hf : Region.free md ops listed i = true) (hr : (Region.ready md ops listed).contains i = true)
    (hQ : ∀ c a w, Q (.panic c) (a.put oi.dst v) w → Q (.panic c) a w) (hy : YieldsIf P ops (fun _ => True) oi v a) (hS : S w)
    (h : wpAnyK P md ops Q S k fuel (listed.setIfInBounds i true) (a.put oi.dst v) w) : wpAnyK P md ops Q S k (fuel + 1) listed a w :=
  wpAnyK_first (S' := fun _ => True) hi (Region.noSelect_spec hs) hik hQ (.inl fun _ => trivial) fuel listed a w (Region.free_spec hi hf) (by simpa using hr) (.inr fun _ => trivial) hy (fun _ => hS) trivial h
def waitsB (md : Region.Mode) (ops : Array Oper) (k i : Nat) : Bool := match ops[k]? with | some o => o.after.any fun e => Region.binds md e && e.on == i | none => false
/-- Take first what yields in every world that meets S; 'k' waits for it. -/
theorem wpAnyK_load {i : Nat} {oi : Oper} {v : Value} {fuel : Nat} {listed : Array Bool} {a : Act} {w : World} (hi : ops[i]? = some oi) (hik : i ≠ k)
    (hs : Region.noSelect ops = true) (hf : Region.free md ops listed i = true) (hr : (Region.ready md ops listed).contains i = true) (hwt : waitsB md ops k i = true) (hun : listed.getD k true = false)
    (hQ : ∀ c a w, Q (.panic c) (a.put oi.dst v) w → Q (.panic c) a w) (hy : YieldsIf P ops S oi v a) (hS : S w)
    (h : wpAnyK P md ops Q S k fuel (listed.setIfInBounds i true) (a.put oi.dst v) w) : wpAnyK P md ops Q S k (fuel + 1) listed a w := by
  refine wpAnyK_first hi (Region.noSelect_spec hs) hik hQ (.inr ⟨rfl, ?_⟩) fuel listed a w (Region.free_spec hi hf) (by simpa using hr) (.inl hun) hy (fun _ => hS) hS h
  unfold waitsB at hwt
  split at hwt
  · rename_i ok hok
    rw [Array.any_eq_true'] at hwt
    obtain ⟨e, he, h2⟩ := hwt
    rw [Bool.and_eq_true, beq_iff_eq] at h2
    exact ⟨ok, hok, e, he, h2.1, h2.2⟩
  · cases hwt
theorem wpAnyK_all {rs : List Nat} {fuel : Nat} {listed : Array Bool} {a : Act} {w : World} (hr : Region.ready md ops listed = rs) (hne : rs ≠ [])
    (h : ∀ i ∈ rs, wpOp P ops Q i (fun a' w' => (i ≠ k → listed.getD k true = false → S w') ∧ wpAnyK P md ops Q S k fuel (listed.setIfInBounds i true) a' w') a w) : wpAnyK P md ops Q S k (fuel + 1) listed a w :=
  ⟨fun h0 => absurd (hr ▸ h0) hne, hr ▸ h⟩
theorem k_one {fuel : Nat} {listed : Array Bool} {a : Act} {w : World} {i : Nat} {o : Oper} (hr : Region.ready md ops listed = [i]) (ho : ops[i]? = some o)
    (h : ∀ K' : Act → World → Prop, (∀ a w, (i ≠ k → S w) → wpAnyK P md ops Q S k fuel (listed.setIfInBounds i true) a w → K' a w) → if Region.wanted o (yielded ops a.tmps) = true then Oper.wp P o a w K' Q else K' (a.put o.dst undef) w) : wpAnyK P md ops Q S k (fuel + 1) listed a w :=
  wpAnyK_all hr (by simp) fun j hj => by
    obtain rfl := List.mem_singleton.1 hj
    exact wpOp_step ho (fun K' hK => h K' (fun a w hS hW => hK a w ⟨fun h1 _ => hS h1, hW⟩))
theorem k_two {fuel : Nat} {listed : Array Bool} {a : Act} {w : World} {i j : Nat} {o o2 : Oper} (hr : Region.ready md ops listed = [i, j]) (ho : ops[i]? = some o) (ho2 : ops[j]? = some o2)
    (h : ∀ K' : Act → World → Prop, (∀ a w, (i ≠ k → S w) → wpAnyK P md ops Q S k fuel (listed.setIfInBounds i true) a w → K' a w) → if Region.wanted o (yielded ops a.tmps) = true then Oper.wp P o a w K' Q else K' (a.put o.dst undef) w)
    (h2 : ∀ K' : Act → World → Prop, (∀ a w, (j ≠ k → S w) → wpAnyK P md ops Q S k fuel (listed.setIfInBounds j true) a w → K' a w) → if Region.wanted o2 (yielded ops a.tmps) = true then Oper.wp P o2 a w K' Q else K' (a.put o2.dst undef) w) : wpAnyK P md ops Q S k (fuel + 1) listed a w :=
  wpAnyK_all hr (by simp) fun x hx => by
    rcases List.mem_cons.1 hx with rfl | hx
    · exact wpOp_step ho (fun K' hK => h K' (fun a w hS hW => hK a w ⟨fun h1 _ => hS h1, hW⟩))
    · obtain rfl := List.mem_singleton.1 hx
      exact wpOp_step ho2 (fun K' hK => h2 K' (fun a w hS hW => hK a w ⟨fun h1 _ => hS h1, hW⟩))
end
end Go.Proofs.YtndeidcddlmhbaaDoor

/- Drivers: May. -/
namespace Go.Proofs.YtndeidcddlmhbaaDoor
open Go.RowKit

def mayE (l : List Dr) (m : List Ag) (d c : ByteArray) (a z : Int) : Int := if drE l = 0 then (if agE m = 0 then (if drAt l d < 0 then 8 else if keyB c = false then 5 else tE a z) else agE m) else drE l
def MayPost (l : List Dr) (m : List Ag) (d c : ByteArray) (a z : Int) (w : World) (e : Ending) (w' : World) : Prop :=
  ∃ ok : Bool, e = .returned (.tuple #[.bool ok, .int .i64 (mayE l m d c a z)]) ∧ (mayE l m d c a z ≠ 0 → ok = false) ∧ (∀ (i : Nat) (p : Dr), mayE l m d c a z = 0 → drAt l d = (i : Int) → l[i]? = some p → ok = mayB p (agOf c m) a z) ∧ G w w' none
theorem drErr_all : ∀ (l : List Dr) (b : ByteArray), drErr b l = 0 → ∀ p ∈ l, drT p = true
  | [], _, _, p, hp => by cases hp
  | x :: r, b, h, p, hp => by
    unfold drErr at h
    split at h
    · omega
    · split at h
      · omega
      · split at h
        · omega
        · rename_i h3
          rcases List.mem_cons.1 hp with rfl | hp
          · simpa using h3
          · exact drErr_all r x.1 h p hp
theorem drE_all {l : List Dr} (h : drE l = 0) : ∀ p ∈ l, drT p = true := by
  unfold drE at h
  split at h
  · omega
  · exact drErr_all l _ h
theorem drAt_spec (l : List Dr) (s : ByteArray) : drAt l s = -1 ∨ ∃ (i : Nat) (p : Dr), drAt l s = (i : Int) ∧ l[i]? = some p := by
  rcases ixP_spec (fun p : Dr => p.1.toList == s.toList) l 0 with ⟨h1, -⟩ | ⟨i, p, h1, h2, -⟩
  · exact .inl h1
  · exact .inr ⟨i, p, by rw [Nat.zero_add] at h1; exact h1, h2⟩
set_option maxRecDepth 100000 in
set_option maxHeartbeats 8000000 in
theorem may_c (v u : Value) (l : List Dr) (m : List Ag) (d c : ByteArray) (a z : Int) (w : World) (hr : RdR w 4 drC v l) (hs : RdR w 2 agC u m) (hl : DrOk l) (hm : AgOk m) (hc : Small c) (ha : bnd a) (hz : bnd z) (hn : l.length ≤ 1000) (hn2 : m.length ≤ 1000) :
    Calls Tryd.prog 34 #[v, u, .string d, .string c, .agg #[.int .i64 a, .int .i64 z]] w (MayPost l m d c a z w) := by
  have hD := (Bk.new w 9 #[.string d]).alloc (.cells #[.int .i64 a, .int .i64 z] 29)
  have hW := Bk.newAt (w := w.alloc (.cells #[.string d] 9)) (b := w.heap.size + 1) (by simp) 29 #[.int .i64 a, .int .i64 z]
  have hG := ((G.refl w none).alloc (.cells #[.string d] 9)).alloc (.cells #[.int .i64 a, .int .i64 z] 29)
  have hR := hr.quiet hG
  have hS := hs.quiet hG
  obtain ⟨a1, n1, rfl, hc1, hm1⟩ := RdR.form hr
  obtain ⟨a2, n2, rfl, hc2, hm2⟩ := RdR.form hs
  clear hr hs
  unfold Small at hc
  obtain ⟨E, hE⟩ : ∃ E, mayE l m d c a z = E := ⟨_, rfl⟩
  have HE : Hid (E = if drE l = 0 then (if agE m = 0 then (if drAt l d < 0 then 8 else if keyB c = false then 5 else tE a z) else agE m) else drE l) := Lib.hid hE.symm
  have HEE := Lib.hid hE
  clear hE
  go_enter Tryd.func34, Tryd.ntmps34
  go_upto_region 1 with fail
  generalize (w.alloc (.cells #[.string d] 9)).alloc (.cells #[.int .i64 a, .int .i64 z] 29) = w2 at hD hW hG hR hS ⊢
  go_wp2_with fail
  refine (checkDrivers_c _ l _ hR hl hn).mono ?_; rintro e w3 ⟨rfl, hH⟩
  have hD := hD.quiet hH
  have hW := hW.quiet hH
  have hG := hG.trans hH
  have hR := hR.quiet hH
  have hS := hS.quiet hH
  clear hH
  obtain ⟨E1, hE1⟩ : ∃ E, drE l = E := ⟨_, rfl⟩
  have HDR := Lib.hid hE1
  rw [hE1] at HE ⊢
  clear hE1
  by_cases k1 : E1 = 0
  · have HE2 : Hid (E = if agE m = 0 then (if drAt l d < 0 then 8 else if keyB c = false then 5 else tE a z) else agE m) := Lib.hid (by rw [HE.out, if_pos k1])
    subst k1
    clear HE
    go_wp2_with fail
    refine (checkAges_c _ m _ hS hm hn2).mono ?_; rintro e w4 ⟨rfl, hH⟩
    have hD := hD.quiet hH
    have hW := hW.quiet hH
    have hG := hG.trans hH
    have hR := hR.quiet hH
    have hS := hS.quiet hH
    clear hH
    obtain ⟨E2, hE2⟩ : ∃ E, agE m = E := ⟨_, rfl⟩
    rw [hE2] at HE2 ⊢
    clear hE2
    by_cases k2 : E2 = 0
    · have HE3 : Hid (E = if drAt l d < 0 then 8 else if keyB c = false then 5 else tE a z) := Lib.hid (by rw [HE2.out, if_pos k2])
      subst k2
      clear HE2
      go_wp2_with fail
      refine (indexM_c _ l d w.heap.size _ hR hn hD).mono ?_; rintro e w5 ⟨rfl, hH⟩
      have hD := hD.quiet hH
      have hW := hW.quiet hH
      have hG := hG.trans hH
      have hR := hR.quiet hH
      have hS := hS.quiet hH
      clear hH
      rcases drAt_spec l d with k3 | ⟨i, p, k3, hip⟩
      · have HF : Hid (E = 8) := Lib.hid (by rw [HE3.out, if_pos (by omega)])
        rw [k3]
        clear HE3 k3
        go_wp2_with fail
        go_ret2
        exact ⟨false, by rw [HEE.out, HF.out]; rfl, fun _ => rfl, fun _ _ h => absurd (HEE.out.symm.trans h) (by rw [HF.out]; decide), hG⟩
      · have HE4 : Hid (E = if keyB c = false then 5 else tE a z) := Lib.hid (by rw [HE3.out, if_neg (by omega)])
        have HK3 := Lib.hid k3
        rw [k3]
        have hin : ¬ ((i : Int) < 0) := by omega
        have hil : i < l.length := (List.getElem?_eq_some_iff.1 hip).1
        have HIP := Lib.hid hip
        clear HE3 k3 hip
        go_wp2_with fail
        refine (isKey_c _ _ hc).mono ?_; rintro e w' ⟨rfl, rfl⟩
        cases k4 : keyB c with
        | false =>
          have HF : Hid (E = 5) := Lib.hid (by rw [HE4.out, if_pos k4])
          clear k4 HE4
          go_wp2_with fail
          go_ret2
          exact ⟨false, by rw [HEE.out, HF.out]; rfl, fun _ => rfl, fun _ _ h => absurd (HEE.out.symm.trans h) (by rw [HF.out]; decide), hG⟩
        | true =>
          have HE5 : Hid (E = tE a z) := Lib.hid (by rw [HE4.out, if_neg (by simp [k4])])
          clear k4 HE4
          go_wp2_with (refine wpList_load_row rfl 29 _ rfl (w.heap.size + 1) rfl 29 #[.int .i64 a, .int .i64 z] (0, 0) _ hW Tryd.underlying29 rfl (wi_info _ _) ?_)
          refine (days_c _ _ _ ha hz).mono ?_; rintro e w6 ⟨rfl, hH⟩
          have hD := hD.quiet hH
          have hW := hW.quiet hH
          have hG := hG.trans hH
          have hR := hR.quiet hH
          have hS := hS.quiet hH
          clear hH
          generalize tN a z = N
          by_cases k5 : tE a z = 0
          · obtain ⟨t1, t2, t3, -⟩ := tE_zero k5
            have HF : Hid (E = 0) := Lib.hid (by rw [HE5.out, k5])
            have HT := Lib.hid k5
            rw [k5]
            clear k5 HE5
            have hpT := drE_all HDR.out p (List.mem_of_getElem? HIP.out)
            obtain ⟨d1, d2, d3, d4, d5⟩ := drT_b hpT
            obtain ⟨f, hf⟩ : ∃ f, a / 1440 = f := ⟨_, rfl⟩
            obtain ⟨g, hg⟩ : ∃ g, (z - 1) / 1440 = g := ⟨_, rfl⟩
            have hfb : 0 ≤ f ∧ f ≤ 4001 := by omega
            have hgb : f ≤ g ∧ g ≤ 4001 := by omega
            have hw1 : IntKind.i64.wrap (z - 1) = z - 1 := by rw [IntKind.wrap_i64]; omega
            have hw2 : IntKind.i64.wrap (a.tdiv 1440) = f := by rw [Int.tdiv_eq_ediv_of_nonneg t1, hf, IntKind.wrap_i64]; omega
            have hw3 : IntKind.i64.wrap ((z - 1).tdiv 1440) = g := by rw [Int.tdiv_eq_ediv_of_nonneg (by omega), hg, IntKind.wrap_i64]; omega
            have HM : Hid (mayB p (agOf c m) a z = (decide (p.2.2.1 ≤ f) && (decide (g < p.2.2.2) && decide (agOf c m ≤ f - p.2.1)))) := Lib.hid (by rw [← hf, ← hg]; rfl)
            have c0 : w6.cell? ⟨w.heap.size + 1, 0, none⟩ = some (.int .i64 a) := hW.cell 0
            have c1 : w6.cell? ⟨w.heap.size + 1, 1, none⟩ = some (.int .i64 z) := hW.cell 1
            go_wp2_with fail
            go_quiet (fail)
            have hH := (G.refl w6 none).drewN nq
            have hD := hD.quiet hH
            have hW := hW.quiet hH
            have hG := hG.trans hH
            have hR := hR.quiet hH
            have hS := hS.quiet hH
            clear hH
            have hsz : w.heap.size + 2 ≤ (w6.drewN nq).heap.size := by have := hW.lt; omega
            clear c0 c1 hw1 hw2 hw3 hf hg t1 t2 t3 hD hW
            generalize w6.drewN nq = w7 at hG hR hS hsz ⊢
            obtain ⟨bb, bo, rfl, -, -⟩ := RdR.elem drC_sz hR (G.refl _ none) HIP.out
            have HW := Lib.hid (drRow hR (G.refl _ none) HIP.out)
            have hii : (i : Int) < (l.length : Int) := by omega
            go_upto_region 17 with (refine wpList_load_at rfl 69 _ rfl ⟨bb, bo + i * 4, none⟩ rfl #[.string p.1, .int .i64 p.2.1, .int .i64 p.2.2.1, .int .i64 p.2.2.2] _ HW.out Tryd.underlying69 rfl (dr_info p) ?_)
            have hB : Bk (w7.alloc (.cells #[.string p.1, .int .i64 p.2.1, .int .i64 p.2.2.1, .int .i64 p.2.2.2] 69)) w7.heap.size 69 (drC p) := Bk.new _ _ _
            have hG := hG.alloc (.cells #[.string p.1, .int .i64 p.2.1, .int .i64 p.2.2.1, .int .i64 p.2.2.2] 69)
            have hS := hS.quiet ((G.refl w7 none).alloc (.cells #[.string p.1, .int .i64 p.2.1, .int .i64 p.2.2.1, .int .i64 p.2.2.2] 69))
            clear HW
            generalize w7.alloc (.cells #[.string p.1, .int .i64 p.2.1, .int .i64 p.2.2.1, .int .i64 p.2.2.2] 69) = w8 at hB hG hS ⊢
            generalize w7.heap.size = q at hB ⊢
            have c1 : w8.cell? ⟨q, 1, none⟩ = some (.int .i64 p.2.1) := hB.cell 1
            have c2 : w8.cell? ⟨q, 2, none⟩ = some (.int .i64 p.2.2.1) := hB.cell 2
            have c3 : w8.cell? ⟨q, 3, none⟩ = some (.int .i64 p.2.2.2) := hB.cell 3
            have hFIN : ∀ b : Bool, b = mayB p (agOf c m) a z → ∀ w9, G w w9 none → MayPost l m d c a z w (.returned (.tuple #[.bool b, .int .i64 0])) w9 := fun b hb w9 h9 => ⟨b, by rw [HEE.out, HF.out], fun h => absurd (HEE.out.trans HF.out) h, fun j r _ hj hr => by
              have hij : j = i := by have := HK3.out.symm.trans hj; omega
              subst hij
              rw [HIP.out] at hr
              cases hr
              exact hb, h9⟩
            have HFIN := Lib.hid hFIN
            clear hFIN
            by_cases k6 : p.2.2.1 ≤ f
            · by_cases k7 : g < p.2.2.2
              · have HM2 : Hid (mayB p (agOf c m) a z = decide (agOf c m ≤ f - p.2.1)) := Lib.hid (by rw [HM.out, decide_eq_true k6, decide_eq_true k7]; rfl)
                have hw5 : IntKind.i64.wrap (f - p.2.1) = f - p.2.1 := by rw [IntKind.wrap_i64]; omega
                clear HM
                have hBd := hB.quiet ((G.refl w8 none).drew)
                have hSd := Lib.hid (hS.quiet ((G.refl w8 none).drew))
                have hGd := hG.drew
                clear hB hS hG c1 c2 c3
                refine wp_region_held_drew (S := (fun w' => w'.cell? ⟨q, 1, none⟩ = some (.int .i64 p.2.1) ∧ w'.cell? ⟨q, 2, none⟩ = some (.int .i64 p.2.2.1) ∧ w'.cell? ⟨q, 3, none⟩ = some (.int .i64 p.2.2.2))) (by kernel_rfl) ?_ (fun hHeld => ?_)
                · exact ⟨hBd.cell 1, hBd.cell 2, hBd.cell 3⟩
                refine wpAnyH_take (i := 0) (oi := { dst := some 57, op := Op.fieldAddr 69 (Operand.tmp 19) 2, type := 0, pos := _, after := #[], guard := none }) (v := ?_) rfl (by kernel_rfl) (by kernel_rfl) (by kernel_rfl) (fun _ _ _ h => h) (Or.inl ⟨by rfl, ?_⟩) (by assumption) ?_
                rotate_left
                · (intro w hSw; obtain ⟨s1, s2, s3⟩ := hSw; (go_simp <;> with_reducible rfl))
                try simp only [Act.put, List.setIfInBounds_toArray, List.set_cons_zero, List.set_cons_succ]
                refine wpAnyH_take (i := 1) (oi := { dst := some 58, op := Op.load 3 (Operand.tmp 57), type := 3, pos := _, after := #[{ on := 0, ground := Ground.data }], guard := none }) (v := ?_) rfl (by kernel_rfl) (by kernel_rfl) (by kernel_rfl) (fun _ _ _ h => h) (Or.inl ⟨by rfl, ?_⟩) (by assumption) ?_
                rotate_left
                · (intro w hSw; obtain ⟨s1, s2, s3⟩ := hSw; (go_simp <;> with_reducible rfl))
                try simp only [Act.put, List.setIfInBounds_toArray, List.set_cons_zero, List.set_cons_succ]
                refine wpAnyH_take (i := 2) (oi := { dst := some 59, op := Op.move (Operand.tmp 17), type := 3, pos := _, after := #[], guard := none }) (v := ?_) rfl (by kernel_rfl) (by kernel_rfl) (by kernel_rfl) (fun _ _ _ h => h) (Or.inl ⟨by rfl, ?_⟩) (by assumption) ?_
                rotate_left
                · (intro w hSw; obtain ⟨s1, s2, s3⟩ := hSw; (go_simp <;> with_reducible rfl))
                try simp only [Act.put, List.setIfInBounds_toArray, List.set_cons_zero, List.set_cons_succ]
                refine wpAnyH_take (i := 3) (oi := { dst := some 60, op := Op.binOp BinOp.leq 3 (Operand.tmp 58) (Operand.tmp 59) 3, type := 4, pos := _, after := #[{ on := 1, ground := Ground.data }, { on := 2, ground := Ground.data }], guard := none }) (v := ?_) rfl (by kernel_rfl) (by kernel_rfl) (by kernel_rfl) (fun _ _ _ h => h) (Or.inl ⟨by rfl, ?_⟩) (by assumption) ?_
                rotate_left
                · (intro w hSw; obtain ⟨s1, s2, s3⟩ := hSw; (go_simp <;> with_reducible rfl))
                try simp only [Act.put, List.setIfInBounds_toArray, List.set_cons_zero, List.set_cons_succ]
                refine wpAnyH_take (i := 4) (oi := { dst := some 61, op := Op.move (Operand.tmp 60), type := 4, pos := _, after := #[{ on := 3, ground := Ground.data }], guard := none }) (v := ?_) rfl (by kernel_rfl) (by kernel_rfl) (by kernel_rfl) (fun _ _ _ h => h) (Or.inl ⟨by rfl, ?_⟩) (by assumption) ?_
                rotate_left
                · (intro w hSw; obtain ⟨s1, s2, s3⟩ := hSw; (go_simp <;> with_reducible rfl))
                try simp only [Act.put, List.setIfInBounds_toArray, List.set_cons_zero, List.set_cons_succ]
                refine wpAnyH_take (i := 5) (oi := { dst := some 62, op := Op.move (Operand.tmp 18), type := 3, pos := _, after := #[{ on := 4, ground := Ground.guard }], guard := some (4, true) }) (v := ?_) rfl (by kernel_rfl) (by kernel_rfl) (by kernel_rfl) (fun _ _ _ h => h) (Or.inl ⟨by rfl, ?_⟩) (by assumption) ?_
                rotate_left
                · (intro w hSw; obtain ⟨s1, s2, s3⟩ := hSw; (go_simp <;> with_reducible rfl))
                try simp only [Act.put, List.setIfInBounds_toArray, List.set_cons_zero, List.set_cons_succ]
                refine wpAnyH_take (i := 6) (oi := { dst := some 63, op := Op.fieldAddr 69 (Operand.tmp 19) 3, type := 0, pos := _, after := #[{ on := 4, ground := Ground.guard }], guard := some (4, true) }) (v := ?_) rfl (by kernel_rfl) (by kernel_rfl) (by kernel_rfl) (fun _ _ _ h => h) (Or.inl ⟨by rfl, ?_⟩) (by assumption) ?_
                rotate_left
                · (intro w hSw; obtain ⟨s1, s2, s3⟩ := hSw; (go_simp <;> with_reducible rfl))
                try simp only [Act.put, List.setIfInBounds_toArray, List.set_cons_zero, List.set_cons_succ]
                refine wpAnyH_take (i := 7) (oi := { dst := some 64, op := Op.load 3 (Operand.tmp 63), type := 3, pos := _, after := #[{ on := 6, ground := Ground.data }, { on := 4, ground := Ground.guard }], guard := some (4, true) }) (v := ?_) rfl (by kernel_rfl) (by kernel_rfl) (by kernel_rfl) (fun _ _ _ h => h) (Or.inl ⟨by rfl, ?_⟩) (by assumption) ?_
                rotate_left
                · (intro w hSw; obtain ⟨s1, s2, s3⟩ := hSw; (go_simp <;> with_reducible rfl))
                try simp only [Act.put, List.setIfInBounds_toArray, List.set_cons_zero, List.set_cons_succ]
                refine wpAnyH_take (i := 8) (oi := { dst := some 65, op := Op.binOp BinOp.lss 3 (Operand.tmp 62) (Operand.tmp 64) 3, type := 4, pos := _, after := #[{ on := 5, ground := Ground.data }, { on := 7, ground := Ground.data }, { on := 4, ground := Ground.guard }], guard := some (4, true) }) (v := ?_) rfl (by kernel_rfl) (by kernel_rfl) (by kernel_rfl) (fun _ _ _ h => h) (Or.inl ⟨by rfl, ?_⟩) (by assumption) ?_
                rotate_left
                · (intro w hSw; obtain ⟨s1, s2, s3⟩ := hSw; (go_simp <;> with_reducible rfl))
                try simp only [Act.put, List.setIfInBounds_toArray, List.set_cons_zero, List.set_cons_succ]
                refine wpAnyH_take (i := 9) (oi := { dst := some 66, op := Op.pick (Operand.tmp 61) (Operand.tmp 65) (Operand.const (Value.bool false)), type := 4, pos := _, after := #[{ on := 4, ground := Ground.data }, { on := 8, ground := Ground.data }], guard := none }) (v := ?_) rfl (by kernel_rfl) (by kernel_rfl) (by kernel_rfl) (fun _ _ _ h => h) (Or.inl ⟨by rfl, ?_⟩) (by assumption) ?_
                rotate_left
                · (intro w hSw; obtain ⟨s1, s2, s3⟩ := hSw; (go_simp <;> with_reducible rfl))
                try simp only [Act.put, List.setIfInBounds_toArray, List.set_cons_zero, List.set_cons_succ]
                refine wpAnyH_take (i := 10) (oi := { dst := some 67, op := Op.move (Operand.tmp 66), type := 4, pos := _, after := #[{ on := 9, ground := Ground.data }, { on := 4, ground := Ground.chain }], guard := none }) (v := ?_) rfl (by kernel_rfl) (by kernel_rfl) (by kernel_rfl) (fun _ _ _ h => h) (Or.inl ⟨by rfl, ?_⟩) (by assumption) ?_
                rotate_left
                · (intro w hSw; obtain ⟨s1, s2, s3⟩ := hSw; (go_simp <;> with_reducible rfl))
                try simp only [Act.put, List.setIfInBounds_toArray, List.set_cons_zero, List.set_cons_succ]
                refine wpAnyH_take (i := 11) (oi := { dst := some 68, op := Op.move (Operand.tmp 17), type := 3, pos := _, after := #[{ on := 10, ground := Ground.guard }], guard := some (10, true) }) (v := ?_) rfl (by kernel_rfl) (by kernel_rfl) (by kernel_rfl) (fun _ _ _ h => h) (Or.inl ⟨by rfl, ?_⟩) (by assumption) ?_
                rotate_left
                · (intro w hSw; obtain ⟨s1, s2, s3⟩ := hSw; (go_simp <;> with_reducible rfl))
                try simp only [Act.put, List.setIfInBounds_toArray, List.set_cons_zero, List.set_cons_succ]
                refine wpAnyH_take (i := 12) (oi := { dst := some 69, op := Op.fieldAddr 69 (Operand.tmp 19) 1, type := 0, pos := _, after := #[{ on := 10, ground := Ground.guard }], guard := some (10, true) }) (v := ?_) rfl (by kernel_rfl) (by kernel_rfl) (by kernel_rfl) (fun _ _ _ h => h) (Or.inl ⟨by rfl, ?_⟩) (by assumption) ?_
                rotate_left
                · (intro w hSw; obtain ⟨s1, s2, s3⟩ := hSw; (go_simp <;> with_reducible rfl))
                try simp only [Act.put, List.setIfInBounds_toArray, List.set_cons_zero, List.set_cons_succ]
                refine wpAnyH_take (i := 13) (oi := { dst := some 70, op := Op.load 3 (Operand.tmp 69), type := 3, pos := _, after := #[{ on := 12, ground := Ground.data }, { on := 10, ground := Ground.guard }], guard := some (10, true) }) (v := ?_) rfl (by kernel_rfl) (by kernel_rfl) (by kernel_rfl) (fun _ _ _ h => h) (Or.inl ⟨by rfl, ?_⟩) (by assumption) ?_
                rotate_left
                · (intro w hSw; obtain ⟨s1, s2, s3⟩ := hSw; (go_simp <;> with_reducible rfl))
                try simp only [Act.put, List.setIfInBounds_toArray, List.set_cons_zero, List.set_cons_succ]
                refine wpAnyH_take (i := 14) (oi := { dst := some 71, op := Op.binOp BinOp.sub 3 (Operand.tmp 68) (Operand.tmp 70) 3, type := 3, pos := _, after := #[{ on := 11, ground := Ground.data }, { on := 13, ground := Ground.data }, { on := 10, ground := Ground.guard }], guard := some (10, true) }) (v := ?_) rfl (by kernel_rfl) (by kernel_rfl) (by kernel_rfl) (fun _ _ _ h => h) (Or.inl ⟨by rfl, ?_⟩) (by assumption) ?_
                rotate_left
                · (intro w hSw; obtain ⟨s1, s2, s3⟩ := hSw; (go_simp <;> with_reducible rfl))
                try simp only [Act.put, List.setIfInBounds_toArray, List.set_cons_zero, List.set_cons_succ]
                refine wpAnyH_take (i := 15) (oi := { dst := some 72, op := Op.move (Operand.tmp 1), type := 61, pos := _, after := #[{ on := 10, ground := Ground.guard }], guard := some (10, true) }) (v := ?_) rfl (by kernel_rfl) (by kernel_rfl) (by kernel_rfl) (fun _ _ _ h => h) (Or.inl ⟨by rfl, ?_⟩) (by assumption) ?_
                rotate_left
                · (intro w hSw; obtain ⟨s1, s2, s3⟩ := hSw; (go_simp <;> with_reducible rfl))
                try simp only [Act.put, List.setIfInBounds_toArray, List.set_cons_zero, List.set_cons_succ]
                refine wpAnyH_take (i := 16) (oi := { dst := some 73, op := Op.move (Operand.tmp 3), type := 9, pos := _, after := #[{ on := 10, ground := Ground.guard }], guard := some (10, true) }) (v := ?_) rfl (by kernel_rfl) (by kernel_rfl) (by kernel_rfl) (fun _ _ _ h => h) (Or.inl ⟨by rfl, ?_⟩) (by assumption) ?_
                rotate_left
                · (intro w hSw; obtain ⟨s1, s2, s3⟩ := hSw; (go_simp <;> with_reducible rfl))
                try simp only [Act.put, List.setIfInBounds_toArray, List.set_cons_zero, List.set_cons_succ]
                refine wpAnyH_ready (rs := [17]) (by kernel_rfl) (by simp) ?_
                refine AllReadyH.cons (o := { dst := some 74, op := Op.call { callee := Callee.value (Operand.func 97), args := #[Operand.tmp 72, Operand.tmp 73], argTypes := #[61, 9] }, type := 3, pos := _, after := #[{ on := 15, ground := Ground.data }, { on := 16, ground := Ground.data }, { on := 10, ground := Ground.chain }, { on := 10, ground := Ground.guard }], guard := some (10, true) }) rfl (fun K hK => ?_) AllReadyH.nil
                go_simp
                refine (ageOf_c _ m c _ hSd.out hn2).mono ?_
                rintro e y1 ⟨rfl, hH⟩
                have hB1 := hBd.quiet hH
                have hG1 := hGd.trans hH
                clear hH
                refine hK.out _ _ ?_ (fun hHeld => ?_)
                · exact ⟨hB1.cell 1, hB1.cell 2, hB1.cell 3⟩
                clear hK K
                try simp only [Act.put, List.setIfInBounds_toArray, List.set_cons_zero, List.set_cons_succ]
                refine wpAnyH_take (i := 18) (oi := { dst := some 75, op := Op.binOp BinOp.geq 3 (Operand.tmp 71) (Operand.tmp 74) 3, type := 4, pos := _, after := #[{ on := 14, ground := Ground.data }, { on := 17, ground := Ground.data }, { on := 10, ground := Ground.guard }], guard := some (10, true) }) (v := ?_) rfl (by kernel_rfl) (by kernel_rfl) (by kernel_rfl) (fun _ _ _ h => h) (Or.inl ⟨by rfl, ?_⟩) (by assumption) ?_
                rotate_left
                · (intro w hSw; obtain ⟨s1, s2, s3⟩ := hSw; (go_simp <;> with_reducible rfl))
                try simp only [Act.put, List.setIfInBounds_toArray, List.set_cons_zero, List.set_cons_succ]
                refine wpAnyH_take (i := 19) (oi := { dst := some 76, op := Op.pick (Operand.tmp 67) (Operand.tmp 75) (Operand.const (Value.bool false)), type := 4, pos := _, after := #[{ on := 10, ground := Ground.data }, { on := 18, ground := Ground.data }], guard := none }) (v := ?_) rfl (by kernel_rfl) (by kernel_rfl) (by kernel_rfl) (fun _ _ _ h => h) (Or.inl ⟨by rfl, ?_⟩) (by assumption) ?_
                rotate_left
                · (intro w hSw; obtain ⟨s1, s2, s3⟩ := hSw; (go_simp <;> with_reducible rfl))
                try simp only [Act.put, List.setIfInBounds_toArray, List.set_cons_zero, List.set_cons_succ]
                refine wpAnyH_take (i := 20) (oi := { dst := some 10, op := Op.assign (Operand.tmp 76), type := 4, pos := _, after := #[{ on := 19, ground := Ground.data }, { on := 17, ground := Ground.chain }, { on := 0, ground := Ground.phase }, { on := 1, ground := Ground.phase }, { on := 2, ground := Ground.phase }, { on := 3, ground := Ground.phase }, { on := 4, ground := Ground.phase }, { on := 5, ground := Ground.phase }, { on := 6, ground := Ground.phase }, { on := 7, ground := Ground.phase }, { on := 8, ground := Ground.phase }, { on := 9, ground := Ground.phase }, { on := 10, ground := Ground.phase }, { on := 11, ground := Ground.phase }, { on := 12, ground := Ground.phase }, { on := 13, ground := Ground.phase }, { on := 14, ground := Ground.phase }, { on := 15, ground := Ground.phase }, { on := 16, ground := Ground.phase }, { on := 17, ground := Ground.phase }, { on := 18, ground := Ground.phase }, { on := 19, ground := Ground.phase }], guard := none }) (v := ?_) rfl (by kernel_rfl) (by kernel_rfl) (by kernel_rfl) (fun _ _ _ h => h) (Or.inl ⟨by rfl, ?_⟩) (by assumption) ?_
                rotate_left
                · (intro w hSw; obtain ⟨s1, s2, s3⟩ := hSw; (go_simp <;> with_reducible rfl))
                try simp only [Act.put, List.setIfInBounds_toArray, List.set_cons_zero, List.set_cons_succ]
                refine wpAnyH_take (i := 21) (oi := { dst := some 11, op := Op.assign (Operand.const (Value.int IntKind.i64 0)), type := 36, pos := _, after := #[{ on := 20, ground := Ground.chain }, { on := 0, ground := Ground.phase }, { on := 1, ground := Ground.phase }, { on := 2, ground := Ground.phase }, { on := 3, ground := Ground.phase }, { on := 4, ground := Ground.phase }, { on := 5, ground := Ground.phase }, { on := 6, ground := Ground.phase }, { on := 7, ground := Ground.phase }, { on := 8, ground := Ground.phase }, { on := 9, ground := Ground.phase }, { on := 10, ground := Ground.phase }, { on := 11, ground := Ground.phase }, { on := 12, ground := Ground.phase }, { on := 13, ground := Ground.phase }, { on := 14, ground := Ground.phase }, { on := 15, ground := Ground.phase }, { on := 16, ground := Ground.phase }, { on := 17, ground := Ground.phase }, { on := 18, ground := Ground.phase }, { on := 19, ground := Ground.phase }, { on := 20, ground := Ground.phase }], guard := none }) (v := ?_) rfl (by kernel_rfl) (by kernel_rfl) (by kernel_rfl) (fun _ _ _ h => h) (Or.inl ⟨by rfl, ?_⟩) (by assumption) ?_
                rotate_left
                · (intro w hSw; obtain ⟨s1, s2, s3⟩ := hSw; (go_simp <;> with_reducible rfl))
                try simp only [Act.put, List.setIfInBounds_toArray, List.set_cons_zero, List.set_cons_succ]
                refine wpAnyH_done (by kernel_rfl) ?_ _
                go_wp2_with fail
                go_ret2
                exact HFIN.out _ HM2.out.symm _ hG1
              · have HM2 : Hid (mayB p (agOf c m) a z = false) := Lib.hid (by rw [HM.out, decide_eq_false k7, Bool.false_and, Bool.and_false])
                have k6' : decide (p.2.2.1 ≤ f) = true := decide_eq_true k6
                have k7' : decide (g < p.2.2.2) = false := decide_eq_false k7
                clear HM
                go_quiet (fail)
                go_wp2_with fail
                go_ret2
                exact HFIN.out false HM2.out.symm _ (hG.drewN _)
            · have HM2 : Hid (mayB p (agOf c m) a z = false) := Lib.hid (by rw [HM.out, decide_eq_false k6, Bool.false_and])
              have k6' : decide (p.2.2.1 ≤ f) = false := decide_eq_false k6
              clear HM
              go_quiet (fail)
              go_wp2_with fail
              go_ret2
              exact HFIN.out false HM2.out.symm _ (hG.drewN _)
          · have HF : Hid (E = tE a z) := HE5
            have k5' : (tE a z != 0) = true := by simpa using k5
            have hne : E ≠ 0 := by rw [HF.out]; exact k5
            have HNE := Lib.hid hne
            clear k5 hne
            go_wp2_with fail
            go_ret2
            exact ⟨false, by rw [HEE.out, HF.out]; rfl, fun _ => rfl, fun _ _ h => absurd (HEE.out.symm.trans h) HNE.out, hG⟩
    · have HF : Hid (E = E2) := Lib.hid (by rw [HE2.out, if_neg k2])
      have k2' : (E2 != 0) = true := by simpa using k2
      have HK2 := Lib.hid k2
      clear k2 HE2
      go_wp2_with fail
      go_ret2
      exact ⟨false, by rw [HEE.out, HF.out]; rfl, fun _ => rfl, fun _ _ h => absurd (HEE.out.symm.trans h) (by rw [HF.out]; exact HK2.out), hG⟩
  · have HF : Hid (E = E1) := Lib.hid (by rw [HE.out, if_neg k1])
    have k1' : (E1 != 0) = true := by simpa using k1
    have HK1 := Lib.hid k1
    clear k1 HE
    go_wp2_with fail
    go_ret2
    exact ⟨false, by rw [HEE.out, HF.out]; rfl, fun _ => rfl, fun _ _ h => absurd (HEE.out.symm.trans h) (by rw [HF.out]; exact HK1.out), hG⟩
end Go.Proofs.YtndeidcddlmhbaaDoor

/- Rows of structs that a call owns, of whatever make; prefixes of lists of strings. No program. -/
namespace Go.Proofs.YtndeidcddlmhbaaDoor
open Go.RowKit

abbrev OwnX {α : Type} (T : TypeId) (z : Nat) (c : α → Array Value) (w : World) (base : Nat) (v : Value) (l : List α) : Prop := w.ownsRow base T z v l.length (rowL c l)
structure RowOk {α : Type} (P : Program) (T TS : TypeId) (z bytes : Nat) (zv : Value) (c : α → Array Value) : Prop where
  row : (P.info? T).map (fun i => (i.zero, i.size, i.bytes)) = some (some zv, z, bytes)
  slice : P.underlying TS = some (.slice T)
  one : ∀ r, ∀ u ∈ (c r).toList, u.oneCell' = true
  sz : ∀ p, (c p).size = z
  zv : zv.cells.size = z
  pos : 0 < z
  few : bytes ≤ 100000
section
variable {α : Type} {T : TypeId} {z : Nat} {c : α → Array Value}
theorem bk_at {w : World} {g : Nat} {cs : Array Value} (h : Bk w g T cs) : ∀ j u, cs.toList[j]? = some u → w.cell? ((⟨g, 0, none⟩ : Addr).add j) = some u := fun j u hu => by
  rw [add_at, Nat.zero_add, h.cell]
  simpa using hu
theorem wp_append_x {P : Program} {TS : TypeId} {bytes : Nat} {zv : Value} (hk : RowOk P T TS z bytes zv c) {w : World} {o : Oper} {a : Act} {K : Act → World → Prop} {Q : Exit → Act → World → Prop} (s x : Operand)
    (ho : o.op = .call { callee := .builtin .append, args := #[s, x], argTypes := #[TS, TS] }) (base : Nat) (v : Value) (l : List α) (hs : a.eval s = v) (hown : OwnX T z c w base v l)
    (g : Nat) (r : α) (hx : a.eval x = .slice (some ⟨g, 0, none⟩) 1 1) (hb : Bk w g T (c r)) (hl : l.length ≤ 1000) (hbase : base ≤ w.heap.size)
    (hK : ∀ v' w', OwnX T z c w' base v' (l ++ [r]) → w.grownBy w' v.ownBlock → K (a.put o.dst v') w') : o.wp P a w K Q := by
  obtain ⟨i0, hi, hz0, hz1, hz2⟩ := info_parts hk.row
  have hm : (l.length + 1) * bytes ≤ 1001 * 100000 := Nat.mul_le_mul (by omega) hk.few
  refine wp_append_own w s x TS ho base T i0 zv z bytes hk.slice hi hz0 hz1 hz2 hk.zv hk.pos v l.length (rowL c l) hs hown ⟨g, 0, none⟩ 1 1 (c r).toList hx (by rw [Array.length_toList, hk.sz, Nat.one_mul]) (bk_at hb) (hk.one r) (by unfold maxLen; omega) (by omega) hbase ?_
  intro v' w' h1 h2 _
  refine hK v' w' ?_ h2
  unfold OwnX
  rw [List.length_append, rowL_snoc]
  exact h1
theorem OwnX.alloc {w : World} {base : Nat} {v : Value} {l : List α} (h : OwnX T z c w base v l) (o : Obj) : OwnX T z c (w.alloc o) base v l := World.ownsRow.alloc h o
theorem OwnX.kept {w w' : World} {base : Nat} {v : Value} {l : List α} {s : Nat} (h : OwnX T z c w base v l) (hg : G w w' (some s)) (hs : s < base) : OwnX T z c w' base v l := by
  refine World.ownsRow.kept h hg (.inr fun e => ?_)
  have := (World.ownsRow.lt h s e).1
  omega
theorem OwnX.quiet {w w' : World} {base : Nat} {v : Value} {l : List α} (h : OwnX T z c w base v l) (hg : G w w' none) : OwnX T z c w' base v l := World.ownsRow.kept h hg (Classical.em _)
theorem OwnX.drew {w : World} {base : Nat} {v : Value} {l : List α} (h : OwnX T z c w base v l) : OwnX T z c w.drew base v l := h.quiet ((G.refl w none).drew)
theorem OwnX.ne {w : World} {base : Nat} {v : Value} {l : List α} (h : OwnX T z c w base v l) {r : Nat} (hr : r < base ∨ w.heap.size ≤ r) : some r ≠ v.ownBlock := fun e => by
  have := World.ownsRow.lt h r e.symm
  omega
theorem OwnX.far {w : World} {base : Nat} {v : Value} {l : List α} (h : OwnX T z c w base v l) {p : Addr} (hp : some p.block ≠ v.ownBlock) (u : Value) : OwnX T z c (w.setCell p u) base v l := World.ownsRow.kept h (grownBy_setCell_row w p u) (.inr hp.symm)
theorem OwnX.low {w : World} {base : Nat} {v : Value} {l : List α} (h : OwnX T z c w base v l) : ∀ r, v.ownBlock = some r → base ≤ r := fun r e => (World.ownsRow.lt h r e).1
theorem OwnX.down {w : World} {base b : Nat} {v : Value} {l : List α} (h : OwnX T z c w base v l) (hb : b ≤ base) : OwnX T z c w b v l := by
  obtain ⟨h1, h2⟩ := h
  rcases h2 with ⟨rfl, h3⟩ | ⟨g, cap, cur, rfl, h3, h4, h5, h6, h7, h8⟩
  · exact ⟨h1, .inl ⟨rfl, h3⟩⟩
  · exact ⟨h1, .inr ⟨g, cap, cur, rfl, Nat.le_trans hb h3, h4, h5, h6, h7, h8⟩⟩
theorem OwnX.set (hz : ∀ p, (c p).size = z) {w : World} {base g n cap : Nat} {l : List α} {k : Nat} {p q : α} (h : w.ownsRow base T z (.slice (some ⟨g, 0, none⟩) n cap) n (rowL c l)) (hp : l[k]? = some p) (j : Nat) (u : Value) (hj : j < z) (hq : (c q).toList = (c p).toList.set j u) :
    (w.setCell ⟨g, k * z + j, none⟩ u).ownsRow base T z (.slice (some ⟨g, 0, none⟩) n cap) n (rowL c (l.set k q)) := by
  rw [← rowL_set hz l k p q hp j u hj hq]
  exact ownsRow_set h _ _
end
/-- The first of a list of strings. -/
theorem rdS_prefix {w : World} {a : Option Addr} {n cap : Nat} {l : List ByteArray} (h : Rd w 1 (.slice a n cap) l.length (l.map Value.string)) (m : Nat) (hm : m ≤ l.length) : Rd w 1 (.slice a m cap) (l.take m).length ((l.take m).map Value.string) := by
  obtain ⟨a', c', e, h1, h2, h3, h4, h5⟩ := h
  obtain ⟨rfl, rfl, rfl⟩ : a = a' ∧ n = l.length ∧ cap = c' := by cases e; exact ⟨rfl, rfl, rfl⟩
  have hlt : (l.take m).length = m := by rw [List.length_take]; omega
  refine ⟨a, cap, by rw [hlt], by omega, h2, by simp, fun e => ⟨by have := (h4 e).1; omega, (h4 e).2⟩, fun b hb => ?_⟩
  obtain ⟨q1, q2, q3⟩ := h5 b hb
  refine ⟨q1, q2, fun j u hj => q3 j u ?_⟩
  rw [List.map_take] at hj
  rw [← hj, List.getElem?_take]
  have hjl := (List.getElem?_eq_some_iff.1 hj).1
  simp at hjl
  rw [if_pos (by omega)]
end Go.Proofs.YtndeidcddlmhbaaDoor

/- What was picked; a block as a row; 'when' at literals. -/
namespace Go.Proofs.YtndeidcddlmhbaaDoor
open Go.RowKit

theorem small_of {s : ByteArray} (h : s.size ≤ 100) : Small s := by unfold Small; omega
theorem bnd_pick {zs : List Int} {r : Int} (h : r ∈ zs) (hz : zs.all (fun z => decide (-1099511627776 ≤ z ∧ z ≤ 1099511627776)) = true) : bnd r := by
  unfold bnd
  exact of_decide_eq_true (List.all_eq_true.1 hz r h)
theorem small_pick {zs : List ByteArray} {r : ByteArray} (h : r ∈ zs) (hz : zs.all (fun z => decide (z.size ≤ 100)) = true) : Small r := small_of (of_decide_eq_true (List.all_eq_true.1 hz r h))
theorem Bk.rd {w : World} {g : Nat} {T : TypeId} {cs : Array Value} (h : Bk w g T cs) (z n : Nat) (hc : cs.size = n * z) (hn : n ≤ 1000) : Rd w z (.slice (some ⟨g, 0, none⟩) n n) n cs.toList := by
  refine ⟨_, n, rfl, Nat.le_refl _, by unfold maxLen; omega, by simpa using hc, (fun e => by cases e), fun b hb => ?_⟩
  obtain rfl := Option.some.inj hb
  refine ⟨rfl, h.lt, fun j u hj => ?_⟩
  rw [Nat.zero_add, h.cell]
  simpa using hj
theorem when_t (n : Int) (w : World) : Calls Tryd.prog 20 #[.bool true, .int .i64 n] w fun e w' => e = .returned (.int .i64 n) ∧ w = w' := by simpa using when_c true n w
theorem when_f (n : Int) (w : World) : Calls Tryd.prog 20 #[.bool false, .int .i64 n] w fun e w' => e = .returned (.int .i64 0) ∧ w = w' := by simpa using when_c false n w
end Go.Proofs.YtndeidcddlmhbaaDoor

/- Generators: drivers, ages. -/
namespace Go.Proofs.YtndeidcddlmhbaaDoor
open Go.RowKit

theorem dr_oneL (r : Dr) : ∀ u ∈ (drC r).toList, u.oneCell' = true := by
  intro u hu
  simp [drC] at hu
  rcases hu with rfl | rfl | rfl | rfl <;> rfl
theorem dr_rowOk : RowOk Tryd.prog 69 59 4 40 (.agg (drC (⟨#[]⟩, 0, 0, 0))) drC := ⟨by kernel_rfl, Tryd.underlying59, dr_oneL, drC_sz, rfl, by omega, by omega⟩
abbrev OwnDr (w : World) (base : Nat) (v : Value) (l : List Dr) : Prop := OwnX 69 4 drC w base v l
theorem DrOk.snoc {l : List Dr} {r : Dr} (h : DrOk l) (hr : Small r.1) : DrOk (l ++ [r]) := fun p hp => by
  rcases List.mem_append.1 hp with hp | hp
  · exact h p hp
  · obtain rfl := List.mem_singleton.1 hp
    exact hr
theorem DrOk.set {l : List Dr} (h : DrOk l) {r : Dr} (hr : Small r.1) (k : Nat) : DrOk (l.set k r) := fun p hp => by
  rcases List.mem_or_eq_of_mem_set hp with hp | rfl
  · exact h p hp
  · exact hr
def drKeys : Array Value := #[.string ⟨#[97, 110, 110]⟩, .string ⟨#[98, 111, 98]⟩, .string ⟨#[99, 105, 100]⟩]
theorem drKeys_at (k : Nat) (hk : k < 3) : ∃ a : ByteArray, Small a ∧ drKeys[k]? = some (.string a) := by
  match k, hk with
  | 0, _ => exact ⟨_, small_of (s := ⟨#[97, 110, 110]⟩) (by decide), rfl⟩
  | 1, _ => exact ⟨_, small_of (s := ⟨#[98, 111, 98]⟩) (by decide), rfl⟩
  | 2, _ => exact ⟨_, small_of (s := ⟨#[99, 105, 100]⟩) (by decide), rfl⟩
def DriversPost (s K : Nat) (w : World) (e : Ending) (w' : World) : Prop :=
  ∃ (v : Value) (l : List Dr), e = .returned v ∧ OwnDr w' (w.heap.size + 1) v l ∧ DrOk l ∧ l.length ≤ 3 ∧ SB w' s (K + 30) ∧ G w w' (some s)
theorem drivers_fin {w w' : World} {s K : Nat} {v : Value} {l : List Dr} (hown : OwnDr w' (w.heap.size + 1) v l) (hl : DrOk l) (hn : l.length ≤ 3) (hSB : SB w' s (K + 30)) (hG : G w w' (some s)) : DriversPost s K w (.returned v) w' :=
  ⟨v, l, rfl, hown, hl, hn, hSB, hG⟩
def DgRel (w : World) (s K : Nat) (s3 s10 : Value) (wr : World) : Prop :=
  ∃ (k : Nat) (l : List Dr), k ≤ 3 ∧ l.length ≤ k ∧ s10 = .int .i64 k ∧ OwnDr wr (w.heap.size + 1) s3 l ∧ DrOk l ∧ SB wr s (K + 4 * k) ∧ G w wr (some s) ∧ Bk wr w.heap.size 9 drKeys
set_option maxRecDepth 100000 in
set_option maxHeartbeats 8000000 in
theorem drivers_c (w : World) (s : Nat) (K : Nat) (hs : SB w s K) (hk : K ≤ 900000000000) :
    Calls Tryd.prog 31 #[.pointer (some ⟨s, 0, none⟩)] w (DriversPost s K w) := by
  have hsw := hs.lt
  have hsb : s < w.heap.size + 1 := Nat.lt_succ_of_lt hsw
  go_enter Tryd.func31, Tryd.ntmps31
  go_wp2_with fail
  go_loopw [3, 10] (DgRel w s K) (fun _ i _ => 3 - (intOf i).toNat)
  case atStart => exact ⟨0, [], by omega, by simp, rfl, World.ownsRow_nil _ _ _ _, fun p hp => (by cases hp), hs.alloc _, (G.refl _ _).alloc _, Bk.new w _ _⟩
  case round =>
    obtain ⟨k, l, hkm, hlk, rfl, hown, hl, hSB, hG, hB⟩ := hrel
    have HL := Lib.hid hl
    clear hl hs
    by_cases hk2 : k < 3
    · obtain ⟨key, hkey, hpa⟩ := drKeys_at k (by omega)
      have hrow : wr.cell? ⟨w.heap.size, k, none⟩ = some (.string key) := by rw [hB.cell]; exact hpa
      have hBl := hB.lt
      have hki : (k : Int) < 3 := by omega
      have HKEY := Lib.hid hkey
      clear hpa hkey
      go_wp2_with fail
      refine (flip_c _ _ _ _ hSB (by omega) (by omega)).mono ?_; rintro e w3 ⟨q, rfl, hSB3, hg⟩
      have hown3 := OwnX.kept hown hg hsb
      have hB3 := hB.grown hg (fun e => by have := Option.some.inj e; omega)
      have hG3 := hG.trans hg
      clear hown hB hG hSB hg hrow
      cases q with
      | true =>
        go_wp2_with fail
        go_roundw
        case rel => exact ⟨k + 1, l, by omega, by omega, by go_num, hown3, HL.out, hSB3.le (by omega), hG3, hB3⟩
        case measure => simp [intOf]; omega
      | false =>
        go_wp2_with fail
        refine (pick_c _ _ _ [-1000, 0, 1, 5] _ _ _ (hSB3.alloc _) (by omega) (by decide) (by decide) (Rd.newAt _ rfl rfl (by decide)) (hSB3.newAt _ _ _ (Nat.le_refl _))).mono ?_; rintro e w4 ⟨f, rfl, hp, hSB4, hg⟩
        have hf0 : -1000 ≤ f ∧ f ≤ 5 := by simp only [List.mem_cons, List.mem_nil_iff, or_false] at hp; omega
        obtain ⟨f0, f1⟩ := hf0
        have hown4 := OwnX.kept (OwnX.alloc hown3 (.cells _ 3)) hg hsb
        have hB4 := (hB3.alloc (.cells _ 3)).grown hg (fun e => by have := Option.some.inj e; omega)
        have hG4 := (hG3.alloc (.cells _ 3)).trans hg
        clear hown3 hB3 hG3 hSB3 hg hp
        go_wp2_with fail
        refine (pick_c _ _ _ [-9000, -7000, -6570, 0] _ _ _ (hSB4.alloc _) (by omega) (by decide) (by decide) (Rd.newAt _ rfl rfl (by decide)) (hSB4.newAt _ _ _ (Nat.le_refl _))).mono ?_; rintro e w5 ⟨b, rfl, hp, hSB5, hg⟩
        have hown5 := OwnX.kept (OwnX.alloc hown4 (.cells _ 3)) hg hsb
        have hB5 := (hB4.alloc (.cells _ 3)).grown hg (fun e => by have := Option.some.inj e; omega)
        have hG5 := (hG4.alloc (.cells _ 3)).trans hg
        clear hown4 hB4 hG4 hSB4 hg hp
        go_wp2_with fail
        refine (pick_c _ _ _ [0, 1, 2, 5, 2000] _ _ _ (hSB5.alloc _) (by omega) (by decide) (by decide) (Rd.newAt _ rfl rfl (by decide)) (hSB5.newAt _ _ _ (Nat.le_refl _))).mono ?_; rintro e w6 ⟨t, rfl, hp, hSB6, hg⟩
        have ht0 : 0 ≤ t ∧ t ≤ 2000 := by simp only [List.mem_cons, List.mem_nil_iff, or_false] at hp; omega
        obtain ⟨t0, t1⟩ := ht0
        have hown6 := OwnX.kept (OwnX.alloc hown5 (.cells _ 3)) hg hsb
        have hB6 := (hB5.alloc (.cells _ 3)).grown hg (fun e => by have := Option.some.inj e; omega)
        have hG6 := (hG5.alloc (.cells _ 3)).trans hg
        clear hown5 hB5 hG5 hSB5 hg hp
        have hsz := hG6.size
        have hownA := OwnX.alloc hown6 (.cells #[.string key, .int .i64 b, .int .i64 f, .int .i64 (f + t)] 69)
        go_wp2_with (at_builtin; refine wpList_plain rfl fun K' hK' => wp_append_x dr_rowOk _ _ rfl (w.heap.size + 1) u3 l rfl hownA w6.heap.size (key, b, f, f + t) rfl (Bk.new w6 _ _) (by omega) (by have := hB6.lt; simp; omega) ?_; intro v8 w8 hown8 hgrow; refine hK' _ _ ?_)
        have hob := OwnX.low hown6
        go_roundw
        case rel => exact ⟨k + 1, l ++ [(key, b, f, f + t)], by omega, by simp; omega, by go_num, hown8, HL.out.snoc HKEY.out, ((hSB6.alloc _).own hgrow (fun r e => Nat.lt_of_lt_of_le hsb (hob r e))).le (by omega), (hG6.alloc _).other hgrow (fun r e => .inl (Nat.le_of_succ_le (hob r e))), (hB6.alloc _).grown hgrow (OwnX.ne hown6 (.inl (Nat.lt_succ_self _)))⟩
        case measure => simp [intOf]; omega
    · obtain rfl : k = 3 := by omega
      have hf := hown.2
      rcases hf with ⟨rfl, hn0⟩ | ⟨g, cap, cur, rfl, hbg, _, hnc, hmc, _, _⟩
      · clear hn0
        go_wp2_with fail
        go_ret
        exact drivers_fin hown HL.out hlk (hSB.le (by omega)) hG
      · by_cases h0 : l.length = 0
        · have h0i : ¬ ((0 : Int) < (l.length : Int)) := by omega
          clear h0
          go_wp2_with fail
          go_ret
          exact drivers_fin hown HL.out hlk (hSB.le (by omega)) hG
        · have h0i : ((0 : Int) < (l.length : Int)) := by omega
          have hsg : s < g := by omega
          have hgw : w.heap.size ≤ g := by omega
          clear h0
          go_wp2_with fail
          refine (flip_c _ _ _ _ hSB (by omega) (by omega)).mono ?_; rintro e w2 ⟨b, rfl, hSB2, hG2⟩
          have hown2 := OwnX.kept hown hG2 hsb
          have hG02 := hG.trans hG2
          clear hown hG hG2 hSB hB
          cases b with
          | false =>
            go_wp2_with fail
            go_ret
            exact drivers_fin hown2 HL.out hlk (hSB2.le (by omega)) hG02
          | true =>
            go_wp2_with fail
            refine (next_c _ _ _ _ hSB2 (by omega) (by omega)).mono ?_; rintro e w3 ⟨j, rfl, hj, hSB3, hG3⟩
            obtain ⟨j0, j1⟩ := hj
            obtain ⟨j, rfl⟩ := Int.eq_ofNat_of_zero_le j0
            have jl : j < l.length := by omega
            have jli : (j : Int) < (l.length : Int) := by omega
            clear j1
            have hown3 := OwnX.kept hown2 hG3 hsb
            have hG03 := hG02.trans hG3
            clear hown2 hG02 hG3 hSB2
            obtain ⟨p, hp⟩ : ∃ p, l[j]? = some p := ⟨_, List.getElem?_eq_getElem jl⟩
            have HP := Lib.hid hp
            have hpb := Lib.hid (HL.out p (List.mem_of_getElem? hp))
            have c0 := RdR.cell drC_sz (Rd.of_owns hown3) (G.refl _ _) hp 0 (.string p.1) rfl
            simp only [Nat.add_zero, Nat.zero_add] at c0
            clear hp
            go_wp2_with fail
            refine (some_c _ _ _ [p.1, ⟨#[]⟩, ⟨#[97, 110, 110]⟩] _ _ _ (hSB3.alloc _) (by omega) (by decide) (by decide) (Rd.newAt _ rfl rfl (by decide)) (hSB3.newAt _ _ _ (Nat.le_refl _))).mono ?_; rintro e w5 ⟨r, rfl, hr, hSB5, hG5⟩
            have hrs : Small r := by
              simp only [List.mem_cons, List.mem_nil_iff, or_false] at hr
              rcases hr with rfl | rfl | rfl
              · exact hpb.out
              · exact small_of (by decide)
              · exact small_of (by decide)
            have HRS := Lib.hid hrs
            have hown5 := OwnX.kept (OwnX.alloc hown3 _) hG5 hsb
            have hG05 := (hG03.alloc _).trans hG5
            clear hr hown3 hSB3 hG03 hG5 hrs c0
            go_wp2_with fail
            refine (odd_c _ _ _ _ _ hSB5 (by omega) (by omega) (by omega) (by omega) (by omega)).mono ?_; rintro e w6 ⟨y1, rfl, y10, y11, hSB6, hG6⟩
            have hown6 := OwnX.kept hown5 hG6 hsb
            have hG06 := hG05.trans hG6
            clear hown5 hSB5 hG05 hG6
            go_wp2_with fail
            refine (odd_c _ _ _ _ _ hSB6 (by omega) (by omega) (by omega) (by omega) (by omega)).mono ?_; rintro e w7 ⟨y2, rfl, y20, y21, hSB7, hG7⟩
            have hown7 := OwnX.kept hown6 hG7 hsb
            have hG07 := hG06.trans hG7
            clear hown6 hSB6 hG06 hG7
            have c0 := RdR.cell drC_sz (Rd.of_owns hown7) (G.refl _ _) HP.out 0 (.string p.1) rfl
            have c1 := RdR.cell drC_sz (Rd.of_owns hown7) (G.refl _ _) HP.out 1 (.int .i64 p.2.1) rfl
            have c2 := RdR.cell drC_sz (Rd.of_owns hown7) (G.refl _ _) HP.out 2 (.int .i64 p.2.2.1) rfl
            have f0 := ownsRow_free hown7 (j * 4 + 0)
            have f1 := ownsRow_free hown7 (j * 4 + 1)
            have f2 := ownsRow_free hown7 (j * 4 + 2)
            have o1 := OwnX.set drC_sz hown7 HP.out (q := (r, p.2)) 0 (.string r) (by omega) rfl
            have o2 := OwnX.set drC_sz o1 (show (l.set j (r, p.2))[j]? = some (r, p.2) by rw [List.getElem?_set_self jl]) (q := (r, y1, p.2.2)) 1 (.int .i64 y1) (by omega) rfl
            rw [List.set_set] at o2
            have o3 := OwnX.set drC_sz o2 (show (l.set j (r, y1, p.2.2))[j]? = some (r, y1, p.2.2) by rw [List.getElem?_set_self jl]) (q := (r, y1, y2, p.2.2.2)) 2 (.int .i64 y2) (by omega) rfl
            rw [List.set_set] at o3
            simp only [Nat.zero_add, Nat.add_zero] at c0 c1 c2 f0 o3
            clear o1 o2
            go_wp2_with fail
            go_ret
            exact drivers_fin (l := l.set j (r, y1, y2, p.2.2.2)) (by unfold OwnDr OwnX; rw [List.length_set]; exact o3) (HL.out.set (r := (r, y1, y2, p.2.2.2)) HRS.out j) (by rw [List.length_set]; exact hlk) ((((hSB7.setCell (p := ⟨g, j * 4, none⟩) hsg _).setCell (p := ⟨g, j * 4 + 1, none⟩) hsg _).setCell (p := ⟨g, j * 4 + 2, none⟩) hsg _).le (by omega)) (((hG07.setCell (p := ⟨g, j * 4, none⟩) (.inl hgw) _).setCell (p := ⟨g, j * 4 + 1, none⟩) (.inl hgw) _).setCell (p := ⟨g, j * 4 + 2, none⟩) (.inl hgw) _)
end Go.Proofs.YtndeidcddlmhbaaDoor

/- Generator: ages. -/
namespace Go.Proofs.YtndeidcddlmhbaaDoor
open Go.RowKit

def AgesPost (s K : Nat) (w : World) (e : Ending) (w' : World) : Prop :=
  ∃ (v : Value) (l : List Ag), e = .returned v ∧ RdR w' 2 agC v l ∧ AgOk l ∧ l.length ≤ 2 ∧ (∀ r, v.ownBlock = some r → w.heap.size ≤ r) ∧ SB w' s (K + 1) ∧ G w w' (some s)
theorem agOk_of (l : List Ag) (h : l.all (fun x => decide (x.1.size ≤ 100)) = true) : AgOk l := fun x hx => small_of (of_decide_eq_true (List.all_eq_true.1 h x hx))
set_option maxRecDepth 100000 in
set_option maxHeartbeats 4000000 in
theorem ages_c (w : World) (s : Nat) (K : Nat) (hs : SB w s K) (hk : K ≤ 900000000000) :
    Calls Tryd.prog 32 #[.pointer (some ⟨s, 0, none⟩)] w (AgesPost s K w) := by
  have hsw := hs.lt
  have hB0 := (Bk.alloc (Bk.alloc (Bk.alloc (Bk.alloc (Bk.alloc (Bk.newAt (w := w) (b := w.heap.size) (by simp) 142 #[.string ⟨#[109, 105, 110, 105]⟩, .int .i64 6570]) (.cells #[.string ⟨#[109, 97, 120, 105]⟩, .int .i64 9001, .string ⟨#[109, 105, 110, 105]⟩, .int .i64 7001] 142)) (.cells #[.string ⟨#[109, 105, 110, 105]⟩, .int .i64 50001] 142)) (.cells #[.string ⟨#[65]⟩, .int .i64 0] 142)) (.cells #[.string ⟨#[109, 105, 110, 105]⟩, .int .i64 0, .string ⟨#[109, 97, 120, 105]⟩, .int .i64 0] 142)) (.cells #[.slice none 0 0, .slice (some ⟨w.heap.size, 0, none⟩) 1 1, .slice (some ⟨w.heap.size + 1, 0, none⟩) 2 2, .slice (some ⟨w.heap.size + 2, 0, none⟩) 1 1, .slice (some ⟨w.heap.size + 3, 0, none⟩) 1 1, .slice (some ⟨w.heap.size + 4, 0, none⟩) 2 2] 61))
  have hB1 := (Bk.alloc (Bk.alloc (Bk.alloc (Bk.alloc (Bk.newAt (w := (w.alloc (.cells #[.string ⟨#[109, 105, 110, 105]⟩, .int .i64 6570] 142))) (b := w.heap.size + 1) (by simp) 142 #[.string ⟨#[109, 97, 120, 105]⟩, .int .i64 9001, .string ⟨#[109, 105, 110, 105]⟩, .int .i64 7001]) (.cells #[.string ⟨#[109, 105, 110, 105]⟩, .int .i64 50001] 142)) (.cells #[.string ⟨#[65]⟩, .int .i64 0] 142)) (.cells #[.string ⟨#[109, 105, 110, 105]⟩, .int .i64 0, .string ⟨#[109, 97, 120, 105]⟩, .int .i64 0] 142)) (.cells #[.slice none 0 0, .slice (some ⟨w.heap.size, 0, none⟩) 1 1, .slice (some ⟨w.heap.size + 1, 0, none⟩) 2 2, .slice (some ⟨w.heap.size + 2, 0, none⟩) 1 1, .slice (some ⟨w.heap.size + 3, 0, none⟩) 1 1, .slice (some ⟨w.heap.size + 4, 0, none⟩) 2 2] 61))
  have hB2 := (Bk.alloc (Bk.alloc (Bk.alloc (Bk.newAt (w := ((w.alloc (.cells #[.string ⟨#[109, 105, 110, 105]⟩, .int .i64 6570] 142)).alloc (.cells #[.string ⟨#[109, 97, 120, 105]⟩, .int .i64 9001, .string ⟨#[109, 105, 110, 105]⟩, .int .i64 7001] 142))) (b := w.heap.size + 2) (by simp) 142 #[.string ⟨#[109, 105, 110, 105]⟩, .int .i64 50001]) (.cells #[.string ⟨#[65]⟩, .int .i64 0] 142)) (.cells #[.string ⟨#[109, 105, 110, 105]⟩, .int .i64 0, .string ⟨#[109, 97, 120, 105]⟩, .int .i64 0] 142)) (.cells #[.slice none 0 0, .slice (some ⟨w.heap.size, 0, none⟩) 1 1, .slice (some ⟨w.heap.size + 1, 0, none⟩) 2 2, .slice (some ⟨w.heap.size + 2, 0, none⟩) 1 1, .slice (some ⟨w.heap.size + 3, 0, none⟩) 1 1, .slice (some ⟨w.heap.size + 4, 0, none⟩) 2 2] 61))
  have hB3 := (Bk.alloc (Bk.alloc (Bk.newAt (w := (((w.alloc (.cells #[.string ⟨#[109, 105, 110, 105]⟩, .int .i64 6570] 142)).alloc (.cells #[.string ⟨#[109, 97, 120, 105]⟩, .int .i64 9001, .string ⟨#[109, 105, 110, 105]⟩, .int .i64 7001] 142)).alloc (.cells #[.string ⟨#[109, 105, 110, 105]⟩, .int .i64 50001] 142))) (b := w.heap.size + 3) (by simp) 142 #[.string ⟨#[65]⟩, .int .i64 0]) (.cells #[.string ⟨#[109, 105, 110, 105]⟩, .int .i64 0, .string ⟨#[109, 97, 120, 105]⟩, .int .i64 0] 142)) (.cells #[.slice none 0 0, .slice (some ⟨w.heap.size, 0, none⟩) 1 1, .slice (some ⟨w.heap.size + 1, 0, none⟩) 2 2, .slice (some ⟨w.heap.size + 2, 0, none⟩) 1 1, .slice (some ⟨w.heap.size + 3, 0, none⟩) 1 1, .slice (some ⟨w.heap.size + 4, 0, none⟩) 2 2] 61))
  have hB4 := (Bk.alloc (Bk.newAt (w := ((((w.alloc (.cells #[.string ⟨#[109, 105, 110, 105]⟩, .int .i64 6570] 142)).alloc (.cells #[.string ⟨#[109, 97, 120, 105]⟩, .int .i64 9001, .string ⟨#[109, 105, 110, 105]⟩, .int .i64 7001] 142)).alloc (.cells #[.string ⟨#[109, 105, 110, 105]⟩, .int .i64 50001] 142)).alloc (.cells #[.string ⟨#[65]⟩, .int .i64 0] 142))) (b := w.heap.size + 4) (by simp) 142 #[.string ⟨#[109, 105, 110, 105]⟩, .int .i64 0, .string ⟨#[109, 97, 120, 105]⟩, .int .i64 0]) (.cells #[.slice none 0 0, .slice (some ⟨w.heap.size, 0, none⟩) 1 1, .slice (some ⟨w.heap.size + 1, 0, none⟩) 2 2, .slice (some ⟨w.heap.size + 2, 0, none⟩) 1 1, .slice (some ⟨w.heap.size + 3, 0, none⟩) 1 1, .slice (some ⟨w.heap.size + 4, 0, none⟩) 2 2] 61))
  have hT := Bk.newAt (w := (((((w.alloc (.cells #[.string ⟨#[109, 105, 110, 105]⟩, .int .i64 6570] 142)).alloc (.cells #[.string ⟨#[109, 97, 120, 105]⟩, .int .i64 9001, .string ⟨#[109, 105, 110, 105]⟩, .int .i64 7001] 142)).alloc (.cells #[.string ⟨#[109, 105, 110, 105]⟩, .int .i64 50001] 142)).alloc (.cells #[.string ⟨#[65]⟩, .int .i64 0] 142)).alloc (.cells #[.string ⟨#[109, 105, 110, 105]⟩, .int .i64 0, .string ⟨#[109, 97, 120, 105]⟩, .int .i64 0] 142))) (b := w.heap.size + 5) (by simp) 61 #[.slice none 0 0, .slice (some ⟨w.heap.size, 0, none⟩) 1 1, .slice (some ⟨w.heap.size + 1, 0, none⟩) 2 2, .slice (some ⟨w.heap.size + 2, 0, none⟩) 1 1, .slice (some ⟨w.heap.size + 3, 0, none⟩) 1 1, .slice (some ⟨w.heap.size + 4, 0, none⟩) 2 2]
  have hS := (SB.alloc (SB.alloc (SB.alloc (SB.alloc (SB.alloc (SB.alloc hs (.cells #[.string ⟨#[109, 105, 110, 105]⟩, .int .i64 6570] 142)) (.cells #[.string ⟨#[109, 97, 120, 105]⟩, .int .i64 9001, .string ⟨#[109, 105, 110, 105]⟩, .int .i64 7001] 142)) (.cells #[.string ⟨#[109, 105, 110, 105]⟩, .int .i64 50001] 142)) (.cells #[.string ⟨#[65]⟩, .int .i64 0] 142)) (.cells #[.string ⟨#[109, 105, 110, 105]⟩, .int .i64 0, .string ⟨#[109, 97, 120, 105]⟩, .int .i64 0] 142)) (.cells #[.slice none 0 0, .slice (some ⟨w.heap.size, 0, none⟩) 1 1, .slice (some ⟨w.heap.size + 1, 0, none⟩) 2 2, .slice (some ⟨w.heap.size + 2, 0, none⟩) 1 1, .slice (some ⟨w.heap.size + 3, 0, none⟩) 1 1, .slice (some ⟨w.heap.size + 4, 0, none⟩) 2 2] 61))
  have hG := (G.alloc (G.alloc (G.alloc (G.alloc (G.alloc (G.alloc (G.refl w (some s)) (.cells #[.string ⟨#[109, 105, 110, 105]⟩, .int .i64 6570] 142)) (.cells #[.string ⟨#[109, 97, 120, 105]⟩, .int .i64 9001, .string ⟨#[109, 105, 110, 105]⟩, .int .i64 7001] 142)) (.cells #[.string ⟨#[109, 105, 110, 105]⟩, .int .i64 50001] 142)) (.cells #[.string ⟨#[65]⟩, .int .i64 0] 142)) (.cells #[.string ⟨#[109, 105, 110, 105]⟩, .int .i64 0, .string ⟨#[109, 97, 120, 105]⟩, .int .i64 0] 142)) (.cells #[.slice none 0 0, .slice (some ⟨w.heap.size, 0, none⟩) 1 1, .slice (some ⟨w.heap.size + 1, 0, none⟩) 2 2, .slice (some ⟨w.heap.size + 2, 0, none⟩) 1 1, .slice (some ⟨w.heap.size + 3, 0, none⟩) 1 1, .slice (some ⟨w.heap.size + 4, 0, none⟩) 2 2] 61))
  go_enter Tryd.func32, Tryd.ntmps32
  go_wp2_with fail
  refine (pick_c _ _ _ [0, 1, 1, 2, 2, 2, 3, 4, 5] _ _ K (hS.alloc _) (by omega) (by decide) (by decide) (Rd.newAt _ (by simp) rfl (by decide)) (hS.newAt _ _ _ (by simp))).mono ?_; rintro e w2 ⟨x, rfl, hx, hSB2, hG2⟩
  have hG02 := (hG.alloc _).trans hG2
  have hC0 := (hB0.alloc (.cells _ 3)).grown hG2 (fun e => by have := Option.some.inj e; omega)
  have hC1 := (hB1.alloc (.cells _ 3)).grown hG2 (fun e => by have := Option.some.inj e; omega)
  have hC2 := (hB2.alloc (.cells _ 3)).grown hG2 (fun e => by have := Option.some.inj e; omega)
  have hC3 := (hB3.alloc (.cells _ 3)).grown hG2 (fun e => by have := Option.some.inj e; omega)
  have hC4 := (hB4.alloc (.cells _ 3)).grown hG2 (fun e => by have := Option.some.inj e; omega)
  have hT2 := (hT.alloc (.cells _ 3)).grown hG2 (fun e => by have := Option.some.inj e; omega)
  clear hB0 hB1 hB2 hB3 hB4 hT hS hG hG2
  simp only [List.mem_cons, List.mem_nil_iff, or_false] at hx
  rcases (show x = 0 ∨ x = 1 ∨ x = 2 ∨ x = 3 ∨ x = 4 ∨ x = 5 by omega) with rfl | rfl | rfl | rfl | rfl | rfl
  · have c0 : w2.cell? ⟨w.heap.size + 5, 0, none⟩ = some (.slice none 0 0) := hT2.cell 0
    clear hx
    go_wp2_with fail
    go_ret
    exact ⟨_, [], rfl, RdR.nil _ _ _, fun _ h => (by cases h), by simp, fun _ h => (by cases h), hSB2, hG02⟩
  · have c0 : w2.cell? ⟨w.heap.size + 5, 1, none⟩ = some (.slice (some ⟨w.heap.size, 0, none⟩) 1 1) := hT2.cell 1
    clear hx
    go_wp2_with fail
    go_ret
    exact ⟨_, [(⟨#[109, 105, 110, 105]⟩, 6570)], rfl, hC0.rd 2 1 rfl (by omega), agOk_of _ (by decide), by simp, fun r h => by cases h; dsimp only; omega, hSB2, hG02⟩
  · have c0 : w2.cell? ⟨w.heap.size + 5, 2, none⟩ = some (.slice (some ⟨w.heap.size + 1, 0, none⟩) 2 2) := hT2.cell 2
    clear hx
    go_wp2_with fail
    go_ret
    exact ⟨_, [(⟨#[109, 97, 120, 105]⟩, 9001), (⟨#[109, 105, 110, 105]⟩, 7001)], rfl, hC1.rd 2 2 rfl (by omega), agOk_of _ (by decide), by simp, fun r h => by cases h; dsimp only; omega, hSB2, hG02⟩
  · have c0 : w2.cell? ⟨w.heap.size + 5, 3, none⟩ = some (.slice (some ⟨w.heap.size + 2, 0, none⟩) 1 1) := hT2.cell 3
    clear hx
    go_wp2_with fail
    go_ret
    exact ⟨_, [(⟨#[109, 105, 110, 105]⟩, 50001)], rfl, hC2.rd 2 1 rfl (by omega), agOk_of _ (by decide), by simp, fun r h => by cases h; dsimp only; omega, hSB2, hG02⟩
  · have c0 : w2.cell? ⟨w.heap.size + 5, 4, none⟩ = some (.slice (some ⟨w.heap.size + 3, 0, none⟩) 1 1) := hT2.cell 4
    clear hx
    go_wp2_with fail
    go_ret
    exact ⟨_, [(⟨#[65]⟩, 0)], rfl, hC3.rd 2 1 rfl (by omega), agOk_of _ (by decide), by simp, fun r h => by cases h; dsimp only; omega, hSB2, hG02⟩
  · have c0 : w2.cell? ⟨w.heap.size + 5, 5, none⟩ = some (.slice (some ⟨w.heap.size + 4, 0, none⟩) 2 2) := hT2.cell 5
    clear hx
    go_wp2_with fail
    go_ret
    exact ⟨_, [(⟨#[109, 105, 110, 105]⟩, 0), (⟨#[109, 97, 120, 105]⟩, 0)], rfl, hC4.rd 2 2 rfl (by omega), agOk_of _ (by decide), by simp, fun r h => by cases h; dsimp only; omega, hSB2, hG02⟩
end Go.Proofs.YtndeidcddlmhbaaDoor

/- Generator: the time of a hire. -/
namespace Go.Proofs.YtndeidcddlmhbaaDoor
open Go.RowKit

def TimePost (s K : Nat) (w : World) (e : Ending) (w' : World) : Prop :=
  ∃ a z : Int, e = .returned (.agg #[.int .i64 a, .int .i64 z]) ∧ bnd a ∧ bnd z ∧ SB w' s (K + 8) ∧ G w w' (some s)
theorem time_fin {w w3 : World} {s K : Nat} {a z : Int} (hs : s < w.heap.size) (ha : bnd a) (hz : bnd z) (hSB : SB w3 s (K + 8)) (hG : G w w3 (some s)) :
    TimePost s K w (.returned (.agg #[.int .i64 a, .int .i64 z])) (w3.setRow w.heap.size #[.int .i64 a, .int .i64 z]) :=
  ⟨a, z, rfl, ha, hz, hSB.setRow hs _, hG.setRow (.inl (Nat.le_refl _)) _⟩
set_option maxRecDepth 100000 in
set_option maxHeartbeats 2000000 in
theorem time_c (w : World) (s : Nat) (K : Nat) (hs : SB w s K) (hk : K ≤ 900000000000) :
    Calls Tryd.prog 25 #[.pointer (some ⟨s, 0, none⟩)] w (TimePost s K w) := by
  have hslt := hs.lt
  go_enter Tryd.func25, Tryd.ntmps25
  go_wp2_with fail
  refine (pick_c _ _ _ [0, 0, 700, 5040, 5700, 6480, 6500, 8000, 10079, 20000] _ _ K ((hs.alloc _).alloc _) (by omega) (by decide) (by decide) (Rd.newAt _ (by simp) rfl (by decide)) (hs.newAt _ _ _ (by omega))).mono ?_
  rintro e w2 ⟨a, rfl, ha, hSB2, hG2⟩
  have ha0 : 0 ≤ a ∧ a ≤ 20000 := by simp only [List.mem_cons, List.mem_nil_iff, or_false] at ha; omega
  obtain ⟨a0, a1⟩ := ha0
  have hz2 : w.heap.size + 2 ≤ w2.heap.size := by have := hG2.size; simp at this; omega
  have hB2 := ((Bk.new w 29 #[.int .i64 0, .int .i64 0]).alloc (.cells _ 3)).grown hG2 (by simp; omega)
  have hG02 : G w w2 (some s) := (((G.refl w (some s)).alloc _).alloc _).trans hG2
  clear hG2 ha
  go_wp2_with fail
  refine (pick_c _ _ _ [1, 59, 60, 61, 300, 1440, 1441, 1500, 2880, 4320, 5850, 7200, 8641, 10080, 11520, 14800, 21600] _ _ _ (hSB2.alloc _) (by omega) (by decide) (by decide) (Rd.newAt _ rfl rfl (by decide)) (hSB2.newAt _ _ _ (Nat.le_refl _))).mono ?_
  rintro e w3 ⟨d, rfl, hd, hSB3, hG3⟩
  have hd0 : 1 ≤ d ∧ d ≤ 21600 := by simp only [List.mem_cons, List.mem_nil_iff, or_false] at hd; omega
  obtain ⟨d0, d1⟩ := hd0
  have hz3 := hG3.size
  have hB3 := (hB2.alloc (.cells _ 3)).grown hG3 (by simp; omega)
  have hG03 := (hG02.alloc _).trans hG3
  simp at hz3
  clear hG3 hd hB2 hG02 hSB2
  obtain ⟨z, hz⟩ : ∃ z, a + d = z := ⟨_, rfl⟩
  have hzb : 1 ≤ z ∧ z ≤ 41600 := by omega
  obtain ⟨z0, z1⟩ := hzb
  have hN4 := Bk.new w3 29 #[.int .i64 a, .int .i64 z]
  have hSB4 := hSB3.alloc (.cells #[.int .i64 a, .int .i64 z] 29)
  have hB4 := hB3.alloc (.cells #[.int .i64 a, .int .i64 z] 29)
  have hG04 := hG03.alloc (.cells #[.int .i64 a, .int .i64 z] 29)
  have hs3 := hSB3.lt
  have hl3 := hB3.lt
  have hgw : w.heap.size ≤ w3.heap.size := hG03.size
  clear hB3 hG03 hSB3 hz3
  have HZ : Hid (bnd a ∧ bnd z) := Lib.hid (by unfold bnd; omega)
  go_wp2_with fail
  generalize w3.alloc (.cells #[.int .i64 a, .int .i64 z] 29) = w4 at hN4 hSB4 hB4 hG04 ⊢
  generalize w3.heap.size = g at hN4 hs3 hl3 hgw ⊢
  clear hz z0 z1 a0 a1 d0 d1
  refine (flip_c _ _ _ _ hSB4 (by omega) (by omega)).mono ?_; rintro e w5 ⟨q, rfl, hSB5, hG5⟩
  have hN5 := hN4.grown hG5 (fun e => by have := Option.some.inj e; omega)
  have hB5 := hB4.grown hG5 (fun e => by have := Option.some.inj e; omega)
  have hG05 := hG04.trans hG5
  clear hN4 hB4 hG04 hG5 hSB4
  cases q with
  | false =>
    go_wp2_with (first | (refine wpList_load_row rfl 29 _ rfl g rfl 29 #[.int .i64 a, .int .i64 z] (0, 0) _ hN5 Tryd.underlying29 rfl (wi_info a z) ?_) | (refine wpList_store_row rfl 29 _ _ rfl w.heap.size #[.int .i64 a, .int .i64 z] rfl rfl 29 _ hB5 (wi_info a z) rfl (wi_one a z) ?_))
    refine bodyPost_ret (results_cell_row rfl _ _ w.heap.size 29 #[.int .i64 a, .int .i64 z] (0, 0) _ rfl (hB5.setRow _) Tryd.underlying29 rfl (wi_info a z)) rfl ?_
    exact time_fin hslt HZ.out.1 HZ.out.2 (hSB5.le (by omega)) hG05
  | true =>
    go_wp2_with fail
    refine (odd_c _ _ _ _ _ hSB5 (by omega) (by omega) (by omega) (by omega) (by omega)).mono ?_; rintro e w6 ⟨y1, rfl, y10, y11, hSB6, hG6⟩
    have hN6 := hN5.grown hG6 (fun e => by have := Option.some.inj e; omega)
    have hB6 := hB5.grown hG6 (fun e => by have := Option.some.inj e; omega)
    have hG06 := hG05.trans hG6
    clear hN5 hB5 hG05 hG6 hSB5
    go_wp2_with fail
    refine (pick_c _ _ _ [0, 1000, 5761439, 5761440, 172800, 173801] _ _ _ (hSB6.alloc _) (by omega) (by decide) (by decide) (Rd.newAt _ rfl rfl (by decide)) (hSB6.newAt _ _ _ (Nat.le_refl _))).mono ?_; rintro e w7 ⟨y2, rfl, hy2, hSB7, hG7⟩
    have b2 := bnd_pick hy2 (by decide)
    have hN7 := (hN6.alloc _).grown hG7 (fun e => by have := Option.some.inj e; omega)
    have hB7 := (hB6.alloc _).grown hG7 (fun e => by have := Option.some.inj e; omega)
    have hG07 := (hG06.alloc _).trans hG7
    clear hN6 hB6 hG06 hG7 hSB6 hy2
    have hN8 := hN7.setRow #[.int .i64 y1, .int .i64 y2]
    have hB8 := hB7.farRow (show w.heap.size ≠ g by omega) #[.int .i64 y1, .int .i64 y2]
    go_wp2_with (first | (refine wpList_store_row rfl 29 _ _ rfl g #[.int .i64 y1, .int .i64 y2] rfl rfl 29 _ hN7 (wi_info y1 y2) rfl (wi_one y1 y2) ?_) | (refine wpList_load_row rfl 29 _ rfl g rfl 29 #[.int .i64 y1, .int .i64 y2] (0, 0) _ hN8 Tryd.underlying29 rfl (wi_info y1 y2) ?_) | (refine wpList_store_row rfl 29 _ _ rfl w.heap.size #[.int .i64 y1, .int .i64 y2] rfl rfl 29 _ hB8 (wi_info y1 y2) rfl (wi_one y1 y2) ?_))
    refine bodyPost_ret (results_cell_row rfl _ _ w.heap.size 29 #[.int .i64 y1, .int .i64 y2] (0, 0) _ rfl (hB8.setRow _) Tryd.underlying29 rfl (wi_info y1 y2)) rfl ?_
    exact time_fin hslt ⟨y10, y11⟩ b2 ((hSB7.setRow hs3 _).le (by omega)) (hG07.setRow (.inl hgw) _)
end Go.Proofs.YtndeidcddlmhbaaDoor

/- Generator: ClassKey. -/
namespace Go.Proofs.YtndeidcddlmhbaaDoor
open Go.RowKit

def ClassKeyPost (s K : Nat) (w : World) (e : Ending) (w' : World) : Prop := ∃ r : ByteArray, e = .returned (.string r) ∧ Small r ∧ SB w' s (K + 1) ∧ G w w' (some s)
theorem classKey_c (w : World) (s : Nat) (K : Nat) (hs : SB w s K) (hk : K ≤ 900000000000) :
    Calls Tryd.prog 33 #[.pointer (some ⟨s, 0, none⟩)] w (ClassKeyPost s K w) := by
  go_enter Tryd.func33, Tryd.ntmps33
  go_wp2_with fail
  refine (some_c _ _ _ [⟨#[109, 105, 110, 105]⟩, ⟨#[109, 105, 110, 105]⟩, ⟨#[109, 105, 100, 105]⟩, ⟨#[109, 97, 120, 105]⟩, ⟨#[98, 105, 103]⟩, ⟨#[109, 105, 110, 105]⟩, ⟨#[110, 111, 110, 101]⟩, ⟨#[]⟩, ⟨#[65]⟩] _ _ K (hs.alloc _) (by omega) (by decide) (by decide) (Rd.newAt _ rfl rfl (by decide)) (hs.newAt _ _ _ (Nat.le_refl _))).mono ?_; rintro e w1 ⟨r, rfl, hr, hSB1, hG1⟩
  have hrs := small_pick hr (by decide)
  have hG01 := ((G.refl w (some s)).alloc _).trans hG1
  clear hr
  go_wp2_with fail
  go_ret
  exact ⟨r, rfl, hrs, hSB1, hG01⟩
end Go.Proofs.YtndeidcddlmhbaaDoor

/- Fees: CheckFees, its reference. -/
namespace Go.Proofs.YtndeidcddlmhbaaDoor
open Go.RowKit

/-- A fee: from, to, cents. -/
abbrev Fe := ByteArray × ByteArray × Int
def feC (x : Fe) : Array Value := #[.string x.1, .string x.2.1, .int .i64 x.2.2]
theorem feC_sz (x : Fe) : (feC x).size = 3 := rfl
def FeOk (l : List Fe) : Prop := ∀ x ∈ l, Small x.1 ∧ Small x.2.1 ∧ bnd x.2.2
/-- The first that is not 0. -/
def orI (x y : Int) : Int := if x = 0 then y else x
def cmpF (x y : Fe) : Int := orI (cmpI x.1 y.1) (cmpI x.2.1 y.2.1)
set_option maxRecDepth 100000 in
set_option maxHeartbeats 1000000 in
theorem or2_c (x y : Int) (g : Nat) (w : World) (hB : Bk w g 3 #[.int .i64 x, .int .i64 y]) :
    Calls Tryd.prog 140 #[.slice (some ⟨g, 0, none⟩) 2 2] w fun e w' => e = .returned (.int .i64 (orI x y)) ∧ w = w' := by
  have hc0 := hB.cell 0
  have hc1 := hB.cell 1
  rw [show (#[Value.int .i64 x, .int .i64 y] : Array Value)[0]? = some (.int .i64 x) from rfl] at hc0
  rw [show (#[Value.int .i64 x, .int .i64 y] : Array Value)[1]? = some (.int .i64 y) from rfl] at hc1
  clear hB
  by_cases hx : x = 0
  · rw [orI, if_pos hx]
    subst hx
    by_cases hy : y = 0
    · subst hy
      go_enter Tryd.func140, Tryd.ntmps140
      go_wp2_with fail
      refine wp_loop_rounds 3 ?_
      rw [rounds_succ]
      go_wp2_with fail
      rw [rounds_succ]
      go_wp2_with fail
      rw [rounds_succ]
      go_wp2_with fail
      go_ret
      exact ⟨rfl, rfl⟩
    · have hy' : (y != 0) = true := by rw [bne_iff_ne]; exact hy
      clear hy
      go_enter Tryd.func140, Tryd.ntmps140
      go_wp2_with fail
      refine wp_loop_rounds 3 ?_
      rw [rounds_succ]
      go_wp2_with fail
      rw [rounds_succ]
      go_wp2_with fail
      go_ret
      exact ⟨rfl, rfl⟩
  · rw [orI, if_neg hx]
    have hx' : (x != 0) = true := by rw [bne_iff_ne]; exact hx
    clear hx
    go_enter Tryd.func140, Tryd.ntmps140
    go_wp2_with fail
    refine wp_loop_rounds 3 ?_
    rw [rounds_succ]
    go_wp2_with fail
    go_ret
    exact ⟨rfl, rfl⟩
def feAfter (b : Option Fe) (x : Fe) : Bool := match b with | none => false | some y => decide (0 ≤ cmpF y x)
def feErr : Option Fe → List Fe → Int
  | _, [] => 0
  | b, x :: r => if keyB x.1 = false then 5 else if keyB x.2.1 = false then 5 else if eqB x.1 x.2.1 = true then 14 else if feAfter b x = true then 7 else if inB x.2.2 0 1000000 = false then 1 else feErr (some x) r
def feE (l : List Fe) : Int := if 500 < l.length then 2 else feErr none l
def prevAt {α : Type} (l : List α) (k : Nat) : Option α := if k = 0 then none else l[k - 1]?
theorem prevAt_succ {α : Type} (l : List α) (k : Nat) (p : α) (h : l[k]? = some p) : prevAt l (k + 1) = some p := by
  unfold prevAt
  rw [if_neg (by omega), Nat.add_sub_cancel, h]
def FeRel (w : World) (l : List Fe) (i : Value) (wr : World) : Prop :=
  ∃ k : Nat, k ≤ l.length ∧ i = .int .i64 k ∧ feErr none l = feErr (prevAt l k) (l.drop k) ∧ G w wr none
end Go.Proofs.YtndeidcddlmhbaaDoor

/- The reference's FeesFault. -/
namespace Go.Proofs.YtndeidcddlmhbaaDoor
open Go.RowKit

end Go.Proofs.YtndeidcddlmhbaaDoor

/- Fees: the search by halves. -/
namespace Go.Proofs.YtndeidcddlmhbaaDoor
open Go.RowKit

theorem cmpF_neg (x y : Fe) : cmpF y x = - cmpF x y := by
  have h1 := cmpI_neg x.1 y.1
  have h2 := cmpI_neg x.2.1 y.2.1
  unfold cmpF orI
  rw [h1, h2]
  split <;> split <;> omega
theorem cmpF_trans {x y z : Fe} (h : cmpF x y < 0) (k : cmpF y z < 0) : cmpF x z < 0 := by
  unfold cmpF orI at *
  by_cases h1 : cmpI x.1 y.1 = 0
  · rw [if_pos h1] at h
    have e1 := cmpI_eq.1 h1
    rw [e1]
    by_cases h2 : cmpI y.1 z.1 = 0
    · rw [if_pos h2] at k ⊢
      exact cmpI_trans h k
    · rw [if_neg h2] at k ⊢
      exact k
  · rw [if_neg h1] at h
    by_cases h2 : cmpI y.1 z.1 = 0
    · rw [← cmpI_eq.1 h2, if_neg h1]
      exact h
    · rw [if_neg h2] at k
      have h3 := cmpI_trans h k
      rw [if_neg (by omega)]
      exact h3
theorem cmpF_zero {x y : Fe} : cmpF x y = 0 ↔ x.1 = y.1 ∧ x.2.1 = y.2.1 := by
  unfold cmpF orI
  by_cases h1 : cmpI x.1 y.1 = 0
  · rw [if_pos h1, cmpI_eq]
    exact ⟨fun h => ⟨cmpI_eq.1 h1, h⟩, fun h => h.2⟩
  · rw [if_neg h1]
    exact ⟨fun h => absurd h h1, fun h => absurd (cmpI_eq.2 h.1) h1⟩
def RiseF (l : List Fe) : Prop := l.Pairwise (fun a b => cmpF a b < 0)
theorem fe_rise {b : Option Fe} {l : List Fe} (h : feErr b l = 0) : RiseF l ∧ (∀ y, b = some y → ∀ x ∈ l, cmpF y x < 0) ∧ ∀ x ∈ l, (0 ≤ x.2.2 ∧ x.2.2 ≤ 1000000) ∧ x.1 ≠ x.2.1 := by
  induction l generalizing b with
  | nil => exact ⟨List.Pairwise.nil, fun _ _ x hx => (by cases hx), fun x hx => (by cases hx)⟩
  | cons p r ih =>
    unfold feErr at h
    split at h
    · omega
    · split at h
      · omega
      · split at h
        · omega
        · rename_i hq
          split at h
          · omega
          · rename_i ha
            split at h
            · omega
            · rename_i hb
              obtain ⟨i1, i2, i3⟩ := ih h
              have hp := i2 p rfl
              have hin : 0 ≤ p.2.2 ∧ p.2.2 ≤ 1000000 := by
                unfold inB at hb
                simp only [Bool.and_eq_false_iff, decide_eq_false_iff_not] at hb
                omega
              have hy : ∀ y, b = some y → cmpF y p < 0 := fun y e => by
                subst e
                have : ¬ 0 ≤ cmpF y p := fun h => ha (decide_eq_true h)
                omega
              refine ⟨List.pairwise_cons.2 ⟨hp, i1⟩, fun y e x hx => ?_, fun x hx => ?_⟩
              · rcases List.mem_cons.1 hx with rfl | hx
                · exact hy y e
                · exact cmpF_trans (hy y e) (hp x hx)
              · rcases List.mem_cons.1 hx with rfl | hx
                · exact ⟨hin, fun e => hq (eqB_iff.2 e)⟩
                · exact i3 x hx
def BelowF (l : List Fe) (t : Fe) (i : Nat) : Prop := ∀ (j : Nat) (s : Fe), j < i → l[j]? = some s → cmpF s t < 0
def FromF (l : List Fe) (t : Fe) (i : Nat) : Prop := ∀ (j : Nat) (s : Fe), i ≤ j → l[j]? = some s → 0 ≤ cmpF s t
theorem RiseF.lt {l : List Fe} (h : RiseF l) {i j : Nat} {a b : Fe} (hij : i < j) (ha : l[i]? = some a) (hb : l[j]? = some b) : cmpF a b < 0 := by
  obtain ⟨h1, rfl⟩ := List.getElem?_eq_some_iff.1 ha
  obtain ⟨h2, rfl⟩ := List.getElem?_eq_some_iff.1 hb
  exact (List.pairwise_iff_getElem.1 h) i j h1 h2 hij
theorem BelowF.up {l : List Fe} {t s : Fe} {i : Nat} (hr : RiseF l) (hs : l[i]? = some s) (h : cmpF s t < 0) : BelowF l t (i + 1) := fun j u hj hu => by
  rcases Nat.lt_or_ge j i with hji | hji
  · exact cmpF_trans (hr.lt hji hu hs) h
  · obtain rfl : j = i := by omega
    rw [hs] at hu
    obtain rfl := Option.some.inj hu
    exact h
theorem FromF.down {l : List Fe} {t s : Fe} {i : Nat} (hr : RiseF l) (hs : l[i]? = some s) (h : 0 ≤ cmpF s t) : FromF l t i := fun j u hj hu => by
  rcases Nat.lt_or_ge i j with hji | hji
  · have h1 := hr.lt hji hs hu
    rcases Int.lt_or_le (cmpF u t) 0 with h2 | h2
    · have := cmpF_trans h1 h2; omega
    · exact h2
  · obtain rfl : j = i := by omega
    rw [hs] at hu
    obtain rfl := Option.some.inj hu
    exact h
def feF (a b : ByteArray) (x : Fe) : Bool := eqB x.1 a && eqB x.2.1 b
theorem feF_iff {a b : ByteArray} {x : Fe} {c : Int} : feF a b x = true ↔ cmpF x (a, b, c) = 0 := by
  unfold feF
  rw [Bool.and_eq_true, eqB_iff, eqB_iff, cmpF_zero]
theorem fb_found {l : List Fe} {a b : ByteArray} {c : Int} {i : Nat} (hr : RiseF l) (h1 : BelowF l (a, b, c) i) (h2 : FromF l (a, b, c) i) :
    (∀ p, l[i]? = some p → cmpF p (a, b, c) = 0 → l.find? (feF a b) = some p) ∧ (∀ p, l[i]? = some p → cmpF p (a, b, c) ≠ 0 → l.find? (feF a b) = none) ∧ (l[i]? = none → l.find? (feF a b) = none) := by
  refine ⟨fun p hp h0 => ?_, fun p hp h0 => ?_, fun hp => ?_⟩
  · obtain ⟨hi, e⟩ := List.getElem?_eq_some_iff.1 hp
    refine List.find?_eq_some_iff_getElem.2 ⟨feF_iff.2 h0, i, hi, e, fun j hj => ?_⟩
    have h3 := h1 j l[j] hj (List.getElem?_eq_getElem (by omega))
    rw [Bool.not_eq_true']
    cases hb : feF a b l[j] with
    | false => rfl
    | true => have := (feF_iff (c := c)).1 hb; omega
  · refine List.find?_eq_none.2 fun x hx hxf => ?_
    obtain ⟨j, hj, rfl⟩ := List.getElem_of_mem hx
    have hg := List.getElem?_eq_getElem hj
    have h0' := (feF_iff (c := c)).1 hxf
    rcases Nat.lt_or_ge j i with hji | hji
    · have := h1 j _ hji hg; omega
    · rcases Nat.lt_or_ge i j with hij | hij
      · have h3 := h2 i p (Nat.le_refl _) hp
        have h4 := hr.lt hij hp hg
        have h5 := cmpF_neg l[j] (a, b, c)
        have h6 := cmpF_neg p (a, b, c)
        have h7 : cmpF (a, b, c) p < 0 := by omega
        have h8 := cmpF_trans h7 h4
        omega
      · obtain rfl : j = i := by omega
        rw [hg] at hp
        obtain rfl := Option.some.inj hp
        exact h0 h0'
  · refine List.find?_eq_none.2 fun x hx hxf => ?_
    obtain ⟨j, hj, rfl⟩ := List.getElem_of_mem hx
    have hg := List.getElem?_eq_getElem hj
    have h0' := (feF_iff (c := c)).1 hxf
    have hil : l.length ≤ i := List.getElem?_eq_none_iff.1 hp
    have := h1 j _ (by omega) hg
    omega
def BfPost (l : List Fe) (a b : ByteArray) (w : World) (e : Ending) (w' : World) : Prop := ∃ i : Nat, e = .returned (.tuple #[.int .i64 i, .bool (l.find? (feF a b)).isSome]) ∧ (∀ q, l.find? (feF a b) = some q → l[i]? = some q) ∧ G w w' none
end Go.Proofs.YtndeidcddlmhbaaDoor

/- Fees: FeeOf, its reference; keyFault. -/
namespace Go.Proofs.YtndeidcddlmhbaaDoor
open Go.RowKit

def keyE (s : ByteArray) : Int := if keyB s = true then 0 else 5
set_option maxRecDepth 100000 in
theorem keyFault_c (s : ByteArray) (w : World) (hs : Small s) : Calls Tryd.prog 40 #[.string s] w fun e w' => e = .returned (.int .i64 (keyE s)) ∧ G w w' none := by
  unfold Small at hs
  cases hk : keyB s with
  | true =>
    have HE : Hid (keyE s = 0) := Lib.hid (by rw [keyE, if_pos hk])
    have HK := Lib.hid hk
    clear hk
    go_enter Tryd.func40, Tryd.ntmps40
    go_wp2_with fail
    refine (rkey_c s _ hs).mono ?_; rintro e w1 ⟨rfl, hG1⟩
    rw [HK.out]
    go_wp2_with fail
    refine (when_c _ _ _).mono ?_; rintro e w' ⟨rfl, rfl⟩
    simp only [Bool.not_true, Bool.false_eq_true, if_false]
    go_wp2_with fail
    go_ret
    exact ⟨by rw [HE.out]; rfl, hG1⟩
  | false =>
    have HE : Hid (keyE s = 5) := Lib.hid (by rw [keyE, if_neg (by simp [hk])])
    have HK := Lib.hid hk
    clear hk
    go_enter Tryd.func40, Tryd.ntmps40
    go_wp2_with fail
    refine (rkey_c s _ hs).mono ?_; rintro e w1 ⟨rfl, hG1⟩
    rw [HK.out]
    go_wp2_with fail
    refine (when_c _ _ _).mono ?_; rintro e w' ⟨rfl, rfl⟩
    simp only [Bool.not_false, if_true]
    go_wp2_with fail
    go_ret
    exact ⟨by rw [HE.out]; rfl, hG1⟩
def foE (l : List Fe) (a b : ByteArray) : Int :=
  if feE l = 0 then (if keyB a = false then 5 else if keyB b = false then 5 else if eqB a b = true then 0 else if (l.find? (feF a b)).isSome = true then 0 else 8) else feE l
def foN (l : List Fe) (a b : ByteArray) : Int := if foE l a b = 0 then (match l.find? (feF a b) with | some x => x.2.2 | none => 0) else 0
theorem feE_zero {l : List Fe} (h : feE l = 0) : feErr none l = 0 ∧ l.length ≤ 500 := by
  unfold feE at h
  split at h
  · omega
  · exact ⟨h, by omega⟩
/-- No fee from a station to itself. -/
theorem fe_loop {l : List Fe} {a b : ByteArray} (h0 : feE l = 0) (h : eqB a b = true) : l.find? (feF a b) = none := by
  refine List.find?_eq_none.2 fun x hx hxf => ?_
  unfold feF at hxf
  rw [Bool.and_eq_true, eqB_iff, eqB_iff] at hxf
  exact ((fe_rise (feE_zero h0).1).2.2 x hx).2 (by rw [hxf.1, hxf.2]; exact eqB_iff.1 h)
/-! ### The reference's FeeFrom -/
def ffF (l : List Fe) (a b : ByteArray) : Int × Bool := match l.find? (feF a b) with | some x => (x.2.2, true) | none => (0, eqB a b)
def FfRel (w : World) (l : List Fe) (a b : ByteArray) (i : Value) (wr : World) : Prop :=
  ∃ n : Nat, n ≤ l.length ∧ i = .int .i64 n ∧ l.find? (feF a b) = (l.drop n).find? (feF a b) ∧ G w wr none
end Go.Proofs.YtndeidcddlmhbaaDoor
