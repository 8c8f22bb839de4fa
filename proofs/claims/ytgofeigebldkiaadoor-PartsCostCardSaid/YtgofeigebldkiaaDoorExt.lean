/- Extras: CheckExtras, its reference, ExtraCost, its reference. -/
import Derived.Test.YtgofeigebldkiaaDoorRow
import Derived.Test.YtgofeigebldkiaaDoorErrs
import Derived.Test.YtgofeigebldkiaaDoorOrd
import Derived.Test.YtgofeigebldkiaaDoorRkey
namespace Go.Proofs.YtgofeigebldkiaaDoor
open Go.RowKit

/-- An extra: its key, Once, Day, Most. -/
abbrev Ext := ByteArray × Int × Int × Int
def exC (x : Ext) : Array Value := #[.string x.1, .int .i64 x.2.1, .int .i64 x.2.2.1, .int .i64 x.2.2.2]
theorem exC_sz (x : Ext) : (exC x).size = 4 := rfl
theorem ex_info (x : Ext) : (Tryd.prog.info? 106).map (·.size) = some (exC x).size := (by kernel_rfl : (Tryd.prog.info? 106).map (·.size) = some 4)
def ExOk (l : List Ext) : Prop := ∀ x ∈ l, Small x.1 ∧ bnd x.2.1 ∧ bnd x.2.2.1 ∧ bnd x.2.2.2
def exBad (x : Ext) : Bool := !inB x.2.1 0 1000000 || (!inB x.2.2.1 0 1000000 || !inB x.2.2.2 (-1) 1000000)
def exErr (b : ByteArray) : List Ext → Int
  | [] => 0
  | x :: r => if keyB x.1 = false then 5 else if leB x.1 b = true then 7 else if exBad x = true then 1 else exErr x.1 r
def exE (l : List Ext) : Int := if 30 < l.length then 2 else exErr ⟨#[]⟩ l
def ExRel (w : World) (l : List Ext) (v i : Value) (wr : World) : Prop :=
  ∃ (k : Nat) (b : ByteArray), k ≤ l.length ∧ i = .int .i64 k ∧ v = .string b ∧ exErr ⟨#[]⟩ l = exErr b (l.drop k) ∧ G w wr none
set_option maxRecDepth 100000 in
set_option maxHeartbeats 4000000 in
theorem checkExtras_c (v : Value) (l : List Ext) (w : World) (hr : RdR w 4 exC v l) (hl : ExOk l) (hn : l.length ≤ 1000) :
    Calls Tryd.prog 29 #[v] w fun e w' => e = .returned (.int .i64 (exE l)) ∧ G w w' none := by
  have HR := Lib.hid hr
  obtain ⟨a, cap, rfl, hcap, hm⟩ := RdR.form hr
  clear hr
  by_cases h30 : 30 < l.length
  · have H := Lib.hid (show exE l = 2 by simp [exE, h30])
    go_enter Tryd.func29, Tryd.ntmps29
    go_wp2_with fail
    go_ret
    exact ⟨by rw [H.out]; rfl, G.refl _ _⟩
  · have H := Lib.hid (show exE l = exErr ⟨#[]⟩ l by simp [exE, h30])
    go_enter Tryd.func29, Tryd.ntmps29
    go_wp2_with fail
    go_loopw [3, 11] (ExRel w l) (fun _ i _ => l.length - (intOf i).toNat)
    case atStart => exact ⟨0, ⟨#[]⟩, by omega, rfl, rfl, rfl, G.refl _ _⟩
    case round =>
      obtain ⟨k, b, hkl, rfl, rfl, heq, hG⟩ := hrel
      have HE := Lib.hid heq
      clear heq
      by_cases hk : k < l.length
      · obtain ⟨p, hp⟩ : ∃ p, l[k]? = some p := ⟨_, List.getElem?_eq_getElem hk⟩
        have hdrop : l.drop k = p :: l.drop (k + 1) := by rw [List.drop_eq_getElem_cons hk, ← (List.getElem?_eq_some_iff.1 hp).2]
        have hpl := hl p (List.mem_of_getElem? hp)
        obtain ⟨bb, bo, rfl, hbb, hrow⟩ := RdR.elem exC_sz HR.out hG hp
        have HW := Lib.hid hrow
        have hs1 := hpl.1
        unfold Small at hs1
        have HS : Hid (exErr b (l.drop k) = if keyB p.1 = false then 5 else if leB p.1 b = true then 7 else if exBad p = true then 1 else exErr p.1 (l.drop (k + 1))) := Lib.hid (by rw [hdrop]; rfl)
        clear hrow hdrop hp hpl
        have hbe : exBad p = (!inB p.2.1 0 1000000 || (!inB p.2.2.1 0 1000000 || !inB p.2.2.2 (-1) 1000000)) := rfl
        have HBE := Lib.hid hbe
        clear hbe
        go_wp2_with (refine wpList_load_at rfl 106 _ rfl ⟨bb, bo + k * 4, none⟩ rfl #[.string p.1, .int .i64 p.2.1, .int .i64 p.2.2.1, .int .i64 p.2.2.2] _ HW.out Tryd.underlying106 rfl (ex_info p) ?_)
        refine (isKey_c _ _ hs1).mono ?_; rintro e w1 ⟨rfl, rfl⟩
        have hG1 := G.refl (wr.alloc (.cells (exC p) 106)) none
        have hB5 := (Bk.new wr 106 (exC p)).quiet hG1
        have hc0 := hB5.cell 0
        have hc1 := hB5.cell 1
        have hc2 := hB5.cell 2
        have hc3 := hB5.cell 3
        rw [show (exC p)[0]? = some (.string p.1) from rfl] at hc0
        rw [show (exC p)[1]? = some (.int .i64 p.2.1) from rfl] at hc1
        rw [show (exC p)[2]? = some (.int .i64 p.2.2.1) from rfl] at hc2
        rw [show (exC p)[3]? = some (.int .i64 p.2.2.2) from rfl] at hc3
        have hG01 := (hG.alloc (.cells (exC p) 106)).trans hG1
        clear hG hG1 HW hB5
        cases hkb : keyB p.1 with
        | false =>
          have HF : Hid (exE l = 5) := Lib.hid (by rw [H.out, HE.out, HS.out, if_pos hkb])
          clear hkb
          go_wp2_with fail
          go_ret
          exact ⟨by rw [HF.out]; rfl, hG01⟩
        | true =>
          cases hle : leB p.1 b with
          | true =>
            have HF : Hid (exE l = 7) := Lib.hid (by rw [H.out, HE.out, HS.out, if_neg (by simp [hkb]), if_pos hle])
            unfold leB at hle
            clear hkb
            go_wp2_with fail
            go_ret
            exact ⟨by rw [HF.out]; rfl, hG01⟩
          | false =>
            have HL := Lib.hid hle
            have HK := Lib.hid hkb
            unfold leB at hle
            clear hkb
            cases h1 : inB p.2.1 0 1000000 with
            | false =>
              have HF : Hid (exE l = 1) := Lib.hid (by rw [H.out, HE.out, HS.out, if_neg (by simp [HK.out]), if_neg (by simp [HL.out]), if_pos (by simp [HBE.out, h1])])
              go_wp2_with fail
              refine (within_c _ _ _ _).mono ?_; rintro e w' ⟨rfl, rfl⟩
              rw [h1]
              go_wp2_with fail
              go_ret
              exact ⟨by rw [HF.out]; rfl, hG01⟩
            | true =>
              cases h2 : inB p.2.2.1 0 1000000 with
              | false =>
                have HF : Hid (exE l = 1) := Lib.hid (by rw [H.out, HE.out, HS.out, if_neg (by simp [HK.out]), if_neg (by simp [HL.out]), if_pos (by simp [HBE.out, h2])])
                go_wp2_with fail
                refine (within_c _ _ _ _).mono ?_; rintro e w' ⟨rfl, rfl⟩
                rw [h1]
                go_wp2_with fail
                refine (within_c _ _ _ _).mono ?_; rintro e w' ⟨rfl, rfl⟩
                rw [h2]
                go_wp2_with fail
                go_ret
                exact ⟨by rw [HF.out]; rfl, hG01⟩
              | true =>
                go_wp2_with fail
                refine (within_c _ _ _ _).mono ?_; rintro e w' ⟨rfl, rfl⟩
                rw [h1]
                go_wp2_with fail
                refine (within_c _ _ _ _).mono ?_; rintro e w' ⟨rfl, rfl⟩
                rw [h2]
                go_wp2_with fail
                refine (within_c _ _ _ _).mono ?_; rintro e w' ⟨rfl, rfl⟩
                cases h3 : inB p.2.2.2 (-1) 1000000 with
                | false =>
                  have HF : Hid (exE l = 1) := Lib.hid (by rw [H.out, HE.out, HS.out, if_neg (by simp [HK.out]), if_neg (by simp [HL.out]), if_pos (by simp [HBE.out, h3])])
                  go_wp2_with fail
                  go_ret
                  exact ⟨by rw [HF.out]; rfl, hG01⟩
                | true =>
                  have HF : Hid (exErr ⟨#[]⟩ l = exErr p.1 (l.drop (k + 1))) := Lib.hid (by rw [HE.out, HS.out, if_neg (by simp [HK.out]), if_neg (by simp [HL.out]), if_neg (by simp [HBE.out, h1, h2, h3])])
                  go_wp2_with fail
                  go_roundw
                  case rel => exact ⟨k + 1, p.1, by omega, by go_num, rfl, HF.out, hG01⟩
                  case measure => simp [intOf]; omega
      · obtain rfl : k = l.length := by omega
        have HE2 : Hid (exE l = 0) := Lib.hid (by rw [H.out, HE.out, List.drop_length]; rfl)
        go_wp2_with fail
        go_ret
        exact ⟨by rw [HE2.out]; rfl, hG⟩
set_option maxRecDepth 100000 in
set_option maxHeartbeats 4000000 in
theorem extrasFault_c (v : Value) (l : List Ext) (w : World) (hr : RdR w 4 exC v l) (hl : ExOk l) (hn : l.length ≤ 1000) :
    Calls Tryd.prog 27 #[v] w fun e w' => e = .returned (.int .i64 (exE l)) ∧ G w w' none := by
  have HR := Lib.hid hr
  obtain ⟨a, cap, rfl, hcap, hm⟩ := RdR.form hr
  clear hr
  by_cases h30 : 30 < l.length
  · have H := Lib.hid (show exE l = 2 by simp [exE, h30])
    go_enter Tryd.func27, Tryd.ntmps27
    go_wp2_with fail
    go_ret
    exact ⟨by rw [H.out]; rfl, G.refl _ _⟩
  · have H := Lib.hid (show exE l = exErr ⟨#[]⟩ l by simp [exE, h30])
    go_enter Tryd.func27, Tryd.ntmps27
    go_wp2_with fail
    go_loopw [3, 11] (ExRel w l) (fun _ i _ => l.length - (intOf i).toNat)
    case atStart => exact ⟨0, ⟨#[]⟩, by omega, rfl, rfl, rfl, G.refl _ _⟩
    case round =>
      obtain ⟨k, b, hkl, rfl, rfl, heq, hG⟩ := hrel
      have HE := Lib.hid heq
      clear heq
      by_cases hk : k < l.length
      · obtain ⟨p, hp⟩ : ∃ p, l[k]? = some p := ⟨_, List.getElem?_eq_getElem hk⟩
        have hdrop : l.drop k = p :: l.drop (k + 1) := by rw [List.drop_eq_getElem_cons hk, ← (List.getElem?_eq_some_iff.1 hp).2]
        have hpl := hl p (List.mem_of_getElem? hp)
        obtain ⟨bb, bo, rfl, hbb, hrow⟩ := RdR.elem exC_sz HR.out hG hp
        have HW := Lib.hid hrow
        have hs1 := hpl.1
        unfold Small at hs1
        have HS : Hid (exErr b (l.drop k) = if keyB p.1 = false then 5 else if leB p.1 b = true then 7 else if exBad p = true then 1 else exErr p.1 (l.drop (k + 1))) := Lib.hid (by rw [hdrop]; rfl)
        clear hrow hdrop hp hpl
        have hbe : exBad p = (!inB p.2.1 0 1000000 || (!inB p.2.2.1 0 1000000 || !inB p.2.2.2 (-1) 1000000)) := rfl
        have HBE := Lib.hid hbe
        clear hbe
        go_wp2_with (refine wpList_load_at rfl 106 _ rfl ⟨bb, bo + k * 4, none⟩ rfl #[.string p.1, .int .i64 p.2.1, .int .i64 p.2.2.1, .int .i64 p.2.2.2] _ HW.out Tryd.underlying106 rfl (ex_info p) ?_)
        refine (rkey_c _ _ hs1).mono ?_; rintro e w1 ⟨rfl, hG1⟩
        have hB5 := (Bk.new wr 106 (exC p)).quiet hG1
        have hc0 := hB5.cell 0
        have hc1 := hB5.cell 1
        have hc2 := hB5.cell 2
        have hc3 := hB5.cell 3
        rw [show (exC p)[0]? = some (.string p.1) from rfl] at hc0
        rw [show (exC p)[1]? = some (.int .i64 p.2.1) from rfl] at hc1
        rw [show (exC p)[2]? = some (.int .i64 p.2.2.1) from rfl] at hc2
        rw [show (exC p)[3]? = some (.int .i64 p.2.2.2) from rfl] at hc3
        have hG01 := (hG.alloc (.cells (exC p) 106)).trans hG1
        clear hG hG1 HW hB5
        cases hkb : keyB p.1 with
        | false =>
          have HF : Hid (exE l = 5) := Lib.hid (by rw [H.out, HE.out, HS.out, if_pos hkb])
          clear hkb
          go_wp2_with fail
          go_ret
          exact ⟨by rw [HF.out]; rfl, hG01⟩
        | true =>
          cases hle : leB p.1 b with
          | true =>
            have HF : Hid (exE l = 7) := Lib.hid (by rw [H.out, HE.out, HS.out, if_neg (by simp [hkb]), if_pos hle])
            unfold leB at hle
            clear hkb
            go_wp2_with fail
            go_ret
            exact ⟨by rw [HF.out]; rfl, hG01⟩
          | false =>
            have HL := Lib.hid hle
            have HK := Lib.hid hkb
            unfold leB at hle
            clear hkb
            cases h1 : inB p.2.1 0 1000000 with
            | false =>
              have HF : Hid (exE l = 1) := Lib.hid (by rw [H.out, HE.out, HS.out, if_neg (by simp [HK.out]), if_neg (by simp [HL.out]), if_pos (by simp [HBE.out, h1])])
              go_wp2_with fail
              refine (in_c _ _ _ _).mono ?_; rintro e w' ⟨rfl, rfl⟩
              rw [h1]
              go_wp2_with fail
              go_ret
              exact ⟨by rw [HF.out]; rfl, hG01⟩
            | true =>
              cases h2 : inB p.2.2.1 0 1000000 with
              | false =>
                have HF : Hid (exE l = 1) := Lib.hid (by rw [H.out, HE.out, HS.out, if_neg (by simp [HK.out]), if_neg (by simp [HL.out]), if_pos (by simp [HBE.out, h2])])
                go_wp2_with fail
                refine (in_c _ _ _ _).mono ?_; rintro e w' ⟨rfl, rfl⟩
                rw [h1]
                go_wp2_with fail
                refine (in_c _ _ _ _).mono ?_; rintro e w' ⟨rfl, rfl⟩
                rw [h2]
                go_wp2_with fail
                go_ret
                exact ⟨by rw [HF.out]; rfl, hG01⟩
              | true =>
                go_wp2_with fail
                refine (in_c _ _ _ _).mono ?_; rintro e w' ⟨rfl, rfl⟩
                rw [h1]
                go_wp2_with fail
                refine (in_c _ _ _ _).mono ?_; rintro e w' ⟨rfl, rfl⟩
                rw [h2]
                go_wp2_with fail
                refine (in_c _ _ _ _).mono ?_; rintro e w' ⟨rfl, rfl⟩
                cases h3 : inB p.2.2.2 (-1) 1000000 with
                | false =>
                  have HF : Hid (exE l = 1) := Lib.hid (by rw [H.out, HE.out, HS.out, if_neg (by simp [HK.out]), if_neg (by simp [HL.out]), if_pos (by simp [HBE.out, h3])])
                  go_wp2_with fail
                  go_ret
                  exact ⟨by rw [HF.out]; rfl, hG01⟩
                | true =>
                  have HF : Hid (exErr ⟨#[]⟩ l = exErr p.1 (l.drop (k + 1))) := Lib.hid (by rw [HE.out, HS.out, if_neg (by simp [HK.out]), if_neg (by simp [HL.out]), if_neg (by simp [HBE.out, h1, h2, h3])])
                  go_wp2_with fail
                  go_roundw
                  case rel => exact ⟨k + 1, p.1, by omega, by go_num, rfl, HF.out, hG01⟩
                  case measure => simp [intOf]; omega
      · obtain rfl : k = l.length := by omega
        have HE2 : Hid (exE l = 0) := Lib.hid (by rw [H.out, HE.out, List.drop_length]; rfl)
        go_wp2_with fail
        go_ret
        exact ⟨by rw [HE2.out]; rfl, hG⟩
end Go.Proofs.YtgofeigebldkiaaDoor
