/- Codes: CheckCodes; the reference's CodesFault. -/
import Derived.Test.YtgofeigebldkiaaDoorRow
import Derived.Test.YtgofeigebldkiaaDoorErrs
import Derived.Test.YtgofeigebldkiaaDoorOrd
import Derived.Test.YtgofeigebldkiaaDoorTmb
namespace Go.Proofs.YtgofeigebldkiaaDoor
open Go.RowKit

/-- A code: key, class, from, to, days, permille. -/
abbrev Cd := ByteArray × ByteArray × Int × Int × Int × Int
def cdC (x : Cd) : Array Value := #[.string x.1, .string x.2.1, .int .i64 x.2.2.1, .int .i64 x.2.2.2.1, .int .i64 x.2.2.2.2.1, .int .i64 x.2.2.2.2.2]
theorem cdC_sz (x : Cd) : (cdC x).size = 6 := rfl
theorem cd_info (x : Cd) : (Tryd.prog.info? 116).map (·.size) = some (cdC x).size := (by kernel_rfl : (Tryd.prog.info? 116).map (·.size) = some 6)
def cdB (x : Cd) : Prop := Small x.1 ∧ Small x.2.1 ∧ bnd x.2.2.1 ∧ bnd x.2.2.2.1 ∧ bnd x.2.2.2.2.1 ∧ bnd x.2.2.2.2.2
def CdOk (l : List Cd) : Prop := ∀ x ∈ l, cdB x
def cdBadC (x : Cd) : Bool := !x.2.1.toList.isEmpty && !keyB x.2.1
def cdBadN (x : Cd) : Bool := !(inB x.2.2.1 0 x.2.2.2.1 && (decide (x.2.2.2.1 ≤ 4001) && (inB x.2.2.2.2.1 1 120 && inB x.2.2.2.2.2 1 1000)))
def cdErr (b : ByteArray) : List Cd → Int
  | [] => 0
  | x :: r => if keyB x.1 = false then 5 else if leB x.1 b = true then 7 else if cdBadC x = true then 5 else if cdBadN x = true then 1 else cdErr x.1 r
def cdE (l : List Cd) : Int := if 50 < l.length then 2 else cdErr ⟨#[]⟩ l
def CdRel (w : World) (l : List Cd) (v i : Value) (wr : World) : Prop :=
  ∃ (k : Nat) (b : ByteArray), k ≤ l.length ∧ i = .int .i64 k ∧ v = .string b ∧ cdErr ⟨#[]⟩ l = cdErr b (l.drop k) ∧ G w wr none
theorem cdRow {W w : World} {bb bo n cap : Nat} {l : List Cd} (h : RdR W 6 cdC (.slice (some ⟨bb, bo, none⟩) n cap) l) (hG : G W w none) {k : Nat} {p : Cd} (hp : l[k]? = some p) :
    ∀ j v, (cdC p).toList[j]? = some v → w.cell? ((⟨bb, bo + k * 6, none⟩ : Addr).add j) = some v := fun j v hv => by
  rw [add_at]
  exact RdR.cell cdC_sz h hG hp j v hv
set_option maxRecDepth 100000 in
set_option maxHeartbeats 4000000 in
theorem checkCodes_c (v : Value) (l : List Cd) (w : World) (hr : RdR w 6 cdC v l) (hl : CdOk l) (hn : l.length ≤ 1000) :
    Calls Tryd.prog 37 #[v] w fun e w' => e = .returned (.int .i64 (cdE l)) ∧ G w w' none := by
  have HR := Lib.hid hr
  obtain ⟨a, cap, rfl, hcap, hm⟩ := RdR.form hr
  clear hr
  by_cases h30 : 50 < l.length
  · have H := Lib.hid (show cdE l = 2 by simp [cdE, h30])
    go_enter Tryd.func37, Tryd.ntmps37
    go_wp2_with fail
    go_ret
    exact ⟨by rw [H.out]; rfl, G.refl _ _⟩
  · have H := Lib.hid (show cdE l = cdErr ⟨#[]⟩ l by simp [cdE, h30])
    go_enter Tryd.func37, Tryd.ntmps37
    go_wp2_with fail
    go_loopw [3, 11] (CdRel w l) (fun _ i _ => l.length - (intOf i).toNat)
    case atStart => exact ⟨0, ⟨#[]⟩, by omega, rfl, rfl, rfl, G.refl _ _⟩
    case round =>
      obtain ⟨k, b, hkl, rfl, rfl, heq, hG⟩ := hrel
      have HE := Lib.hid heq
      clear heq
      by_cases hk : k < l.length
      · obtain ⟨p, hp⟩ : ∃ p, l[k]? = some p := ⟨_, List.getElem?_eq_getElem hk⟩
        have hdrop : l.drop k = p :: l.drop (k + 1) := by rw [List.drop_eq_getElem_cons hk, ← (List.getElem?_eq_some_iff.1 hp).2]
        have hpl := hl p (List.mem_of_getElem? hp)
        obtain ⟨bb, bo, rfl, hbb, _⟩ := RdR.elem cdC_sz HR.out hG hp
        have HW := Lib.hid (cdRow HR.out hG hp)
        have hs1 := hpl.1
        have hs2 := hpl.2.1
        unfold Small at hs1 hs2
        have HS : Hid (cdErr b (l.drop k) = if keyB p.1 = false then 5 else if leB p.1 b = true then 7 else if cdBadC p = true then 5 else if cdBadN p = true then 1 else cdErr p.1 (l.drop (k + 1))) := Lib.hid (by rw [hdrop]; rfl)
        have hB5 := Bk.new wr 116 (cdC p)
        have hG5 := hG.alloc (.cells (cdC p) 116)
        clear hdrop hp hpl hG
        go_wp2_with (refine wpList_load_at rfl 116 _ rfl ⟨bb, bo + k * 6, none⟩ rfl #[.string p.1, .string p.2.1, .int .i64 p.2.2.1, .int .i64 p.2.2.2.1, .int .i64 p.2.2.2.2.1, .int .i64 p.2.2.2.2.2] _ HW.out Tryd.underlying116 rfl (cd_info p) ?_)
        have hB5 : Bk (wr.alloc (.cells #[.string p.1, .string p.2.1, .int .i64 p.2.2.1, .int .i64 p.2.2.2.1, .int .i64 p.2.2.2.2.1, .int .i64 p.2.2.2.2.2] 116)) wr.heap.size 116 (cdC p) := hB5
        have hG5 : G w (wr.alloc (.cells #[.string p.1, .string p.2.1, .int .i64 p.2.2.1, .int .i64 p.2.2.2.1, .int .i64 p.2.2.2.2.1, .int .i64 p.2.2.2.2.2] 116)) none := hG5
        have hg5 := hB5.lt
        generalize wr.alloc (.cells #[.string p.1, .string p.2.1, .int .i64 p.2.2.1, .int .i64 p.2.2.2.1, .int .i64 p.2.2.2.2.1, .int .i64 p.2.2.2.2.2] 116) = w5 at hB5 hG5 hg5 ⊢
        generalize wr.heap.size = g at hB5 hg5 ⊢
        refine (isKey_c _ _ hs1).mono ?_; rintro e w6 ⟨rfl, rfl⟩
        have c0 : w5.cell? ⟨g, 0, none⟩ = some (.string p.1) := hB5.cell 0
        have c1 : w5.cell? ⟨g, 1, none⟩ = some (.string p.2.1) := hB5.cell 1
        have c2 : w5.cell? ⟨g, 2, none⟩ = some (.int .i64 p.2.2.1) := hB5.cell 2
        have c3 : w5.cell? ⟨g, 3, none⟩ = some (.int .i64 p.2.2.2.1) := hB5.cell 3
        have c4 : w5.cell? ⟨g, 4, none⟩ = some (.int .i64 p.2.2.2.2.1) := hB5.cell 4
        have c5 : w5.cell? ⟨g, 5, none⟩ = some (.int .i64 p.2.2.2.2.2) := hB5.cell 5
        cases hkb : keyB p.1 with
        | false =>
          have HF : Hid (cdE l = 5) := Lib.hid (by rw [H.out, HE.out, HS.out, if_pos hkb])
          clear hkb
          go_wp2_with fail
          go_ret
          exact ⟨by rw [HF.out]; rfl, hG5⟩
        | true =>
          have HK := Lib.hid hkb
          clear hkb
          cases hle : leB p.1 b with
          | true =>
            have HF : Hid (cdE l = 7) := Lib.hid (by rw [H.out, HE.out, HS.out, if_neg (by simp [HK.out]), if_pos hle])
            unfold leB at hle
            go_wp2_with fail
            go_ret
            exact ⟨by rw [HF.out]; rfl, hG5⟩
          | false =>
            have HS2 : Hid (cdErr ⟨#[]⟩ l = if cdBadC p = true then 5 else if cdBadN p = true then 1 else cdErr p.1 (l.drop (k + 1))) := Lib.hid (by rw [HE.out, HS.out, if_neg (by simp [HK.out]), if_neg (by simp [hle])])
            unfold leB at hle
            clear HS HE
            have HBC : Hid (cdBadC p = (!p.2.1.toList.isEmpty && !keyB p.2.1)) := Lib.hid rfl
            cases hem : p.2.1.toList.isEmpty with
            | true =>
              have HS3 : Hid (cdErr ⟨#[]⟩ l = if cdBadN p = true then 1 else cdErr p.1 (l.drop (k + 1))) := Lib.hid (by rw [HS2.out, if_neg (by simp [HBC.out, hem])])
              clear HS2 HBC
              rcases (show p.2.2.1 < 0 ∨ (0 ≤ p.2.2.1 ∧ p.2.2.2.1 < p.2.2.1) ∨ (0 ≤ p.2.2.1 ∧ p.2.2.1 ≤ p.2.2.2.1 ∧ 4001 < p.2.2.2.1) ∨ (0 ≤ p.2.2.1 ∧ p.2.2.1 ≤ p.2.2.2.1 ∧ p.2.2.2.1 ≤ 4001) by omega) with t1 | ⟨t1, t2⟩ | ⟨t1, t2, t3⟩ | ⟨t1, t2, t3⟩
              · have HF : Hid (cdE l = 1) := Lib.hid (by rw [H.out, HS3.out, if_pos (by rw [cdBadN, inB, decide_eq_false (show ¬ 0 ≤ p.2.2.1 by omega)]; simp)])
                go_wp2_with fail
                go_ret
                exact ⟨by rw [HF.out]; rfl, hG5⟩
              · have HF : Hid (cdE l = 1) := Lib.hid (by rw [H.out, HS3.out, if_pos (by rw [cdBadN, inB, decide_eq_false (show ¬ p.2.2.1 ≤ p.2.2.2.1 by omega)]; simp)])
                go_wp2_with fail
                go_ret
                exact ⟨by rw [HF.out]; rfl, hG5⟩
              · have HF : Hid (cdE l = 1) := Lib.hid (by rw [H.out, HS3.out, if_pos (by rw [cdBadN, inB, decide_eq_false (show ¬ p.2.2.2.1 ≤ 4001 by omega)]; simp)])
                go_wp2_with fail
                go_ret
                exact ⟨by rw [HF.out]; rfl, hG5⟩
              · have HIN : Hid (inB p.2.2.1 0 p.2.2.2.1 = true) := Lib.hid (by simp [inB, t1, t2])
                have hn1 : ¬ p.2.2.2.1 < p.2.2.1 := by omega
                have hn2 : ¬ 4001 < p.2.2.2.1 := by omega
                go_wp2_with fail
                refine (within_c _ _ _ _).mono ?_; rintro e w' ⟨rfl, rfl⟩
                cases hd1 : inB p.2.2.2.2.1 1 120 with
                | false =>
                  have HF : Hid (cdE l = 1) := Lib.hid (by rw [H.out, HS3.out, if_pos (by simp [cdBadN, hd1])])
                  go_wp2_with fail
                  go_ret
                  exact ⟨by rw [HF.out]; rfl, hG5⟩
                | true =>
                  have HD := Lib.hid hd1
                  clear hd1
                  go_wp2_with fail
                  refine (within_c _ _ _ _).mono ?_; rintro e w' ⟨rfl, rfl⟩
                  cases hp1 : inB p.2.2.2.2.2 1 1000 with
                  | false =>
                    have HF : Hid (cdE l = 1) := Lib.hid (by rw [H.out, HS3.out, if_pos (by simp [cdBadN, hp1])])
                    go_wp2_with fail
                    go_ret
                    exact ⟨by rw [HF.out]; rfl, hG5⟩
                  | true =>
                    have HF : Hid (cdErr ⟨#[]⟩ l = cdErr p.1 (l.drop (k + 1))) := Lib.hid (by rw [HS3.out, if_neg (by simp [cdBadN, HIN.out, HD.out, hp1, t3])])
                    clear hp1
                    go_wp2_with fail
                    go_roundw
                    case rel => exact ⟨k + 1, p.1, by omega, by go_num, rfl, HF.out, hG5⟩
                    case measure => simp [intOf]; omega
            | false =>
              have HEM := Lib.hid hem
              go_wp2_with fail
              refine (isKey_c _ _ hs2).mono ?_; rintro e w6 ⟨rfl, rfl⟩
              have c0 : w5.cell? ⟨g, 0, none⟩ = some (.string p.1) := hB5.cell 0
              have c1 : w5.cell? ⟨g, 1, none⟩ = some (.string p.2.1) := hB5.cell 1
              have c2 : w5.cell? ⟨g, 2, none⟩ = some (.int .i64 p.2.2.1) := hB5.cell 2
              have c3 : w5.cell? ⟨g, 3, none⟩ = some (.int .i64 p.2.2.2.1) := hB5.cell 3
              have c4 : w5.cell? ⟨g, 4, none⟩ = some (.int .i64 p.2.2.2.2.1) := hB5.cell 4
              have c5 : w5.cell? ⟨g, 5, none⟩ = some (.int .i64 p.2.2.2.2.2) := hB5.cell 5
              cases hkb : keyB p.2.1 with
              | false =>
                have HF : Hid (cdE l = 5) := Lib.hid (by rw [H.out, HS2.out, if_pos (by simp [HBC.out, HEM.out, hkb])])
                clear hkb
                go_wp2_with fail
                go_ret
                exact ⟨by rw [HF.out]; rfl, hG5⟩
              | true =>
                have HS3 : Hid (cdErr ⟨#[]⟩ l = if cdBadN p = true then 1 else cdErr p.1 (l.drop (k + 1))) := Lib.hid (by rw [HS2.out, if_neg (by simp [HBC.out, hkb])])
                clear HS2 HBC hkb
                rcases (show p.2.2.1 < 0 ∨ (0 ≤ p.2.2.1 ∧ p.2.2.2.1 < p.2.2.1) ∨ (0 ≤ p.2.2.1 ∧ p.2.2.1 ≤ p.2.2.2.1 ∧ 4001 < p.2.2.2.1) ∨ (0 ≤ p.2.2.1 ∧ p.2.2.1 ≤ p.2.2.2.1 ∧ p.2.2.2.1 ≤ 4001) by omega) with t1 | ⟨t1, t2⟩ | ⟨t1, t2, t3⟩ | ⟨t1, t2, t3⟩
                · have HF : Hid (cdE l = 1) := Lib.hid (by rw [H.out, HS3.out, if_pos (by rw [cdBadN, inB, decide_eq_false (show ¬ 0 ≤ p.2.2.1 by omega)]; simp)])
                  go_wp2_with fail
                  go_ret
                  exact ⟨by rw [HF.out]; rfl, hG5⟩
                · have HF : Hid (cdE l = 1) := Lib.hid (by rw [H.out, HS3.out, if_pos (by rw [cdBadN, inB, decide_eq_false (show ¬ p.2.2.1 ≤ p.2.2.2.1 by omega)]; simp)])
                  go_wp2_with fail
                  go_ret
                  exact ⟨by rw [HF.out]; rfl, hG5⟩
                · have HF : Hid (cdE l = 1) := Lib.hid (by rw [H.out, HS3.out, if_pos (by rw [cdBadN, inB, decide_eq_false (show ¬ p.2.2.2.1 ≤ 4001 by omega)]; simp)])
                  go_wp2_with fail
                  go_ret
                  exact ⟨by rw [HF.out]; rfl, hG5⟩
                · have HIN : Hid (inB p.2.2.1 0 p.2.2.2.1 = true) := Lib.hid (by simp [inB, t1, t2])
                  have hn1 : ¬ p.2.2.2.1 < p.2.2.1 := by omega
                  have hn2 : ¬ 4001 < p.2.2.2.1 := by omega
                  go_wp2_with fail
                  refine (within_c _ _ _ _).mono ?_; rintro e w' ⟨rfl, rfl⟩
                  cases hd1 : inB p.2.2.2.2.1 1 120 with
                  | false =>
                    have HF : Hid (cdE l = 1) := Lib.hid (by rw [H.out, HS3.out, if_pos (by simp [cdBadN, hd1])])
                    go_wp2_with fail
                    go_ret
                    exact ⟨by rw [HF.out]; rfl, hG5⟩
                  | true =>
                    have HD := Lib.hid hd1
                    clear hd1
                    go_wp2_with fail
                    refine (within_c _ _ _ _).mono ?_; rintro e w' ⟨rfl, rfl⟩
                    cases hp1 : inB p.2.2.2.2.2 1 1000 with
                    | false =>
                      have HF : Hid (cdE l = 1) := Lib.hid (by rw [H.out, HS3.out, if_pos (by simp [cdBadN, hp1])])
                      go_wp2_with fail
                      go_ret
                      exact ⟨by rw [HF.out]; rfl, hG5⟩
                    | true =>
                      have HF : Hid (cdErr ⟨#[]⟩ l = cdErr p.1 (l.drop (k + 1))) := Lib.hid (by rw [HS3.out, if_neg (by simp [cdBadN, HIN.out, HD.out, hp1, t3])])
                      clear hp1
                      go_wp2_with fail
                      go_roundw
                      case rel => exact ⟨k + 1, p.1, by omega, by go_num, rfl, HF.out, hG5⟩
                      case measure => simp [intOf]; omega
      · obtain rfl : k = l.length := by omega
        have HE2 : Hid (cdE l = 0) := Lib.hid (by rw [H.out, HE.out, List.drop_length]; rfl)
        go_wp2_with fail
        go_ret
        exact ⟨by rw [HE2.out]; rfl, hG⟩
set_option maxRecDepth 100000 in
set_option maxHeartbeats 4000000 in
theorem codesFault_c (v : Value) (l : List Cd) (w : World) (hr : RdR w 6 cdC v l) (hl : CdOk l) (hn : l.length ≤ 1000) :
    Calls Tryd.prog 36 #[v] w fun e w' => e = .returned (.int .i64 (cdE l)) ∧ G w w' none := by
  have HR := Lib.hid hr
  obtain ⟨a, cap, rfl, hcap, hm⟩ := RdR.form hr
  clear hr
  by_cases h30 : 50 < l.length
  · have H := Lib.hid (show cdE l = 2 by simp [cdE, h30])
    go_enter Tryd.func36, Tryd.ntmps36
    go_wp2_with fail
    go_ret
    exact ⟨by rw [H.out]; rfl, G.refl _ _⟩
  · have H := Lib.hid (show cdE l = cdErr ⟨#[]⟩ l by simp [cdE, h30])
    go_enter Tryd.func36, Tryd.ntmps36
    go_wp2_with fail
    go_loopw [3, 11] (CdRel w l) (fun _ i _ => l.length - (intOf i).toNat)
    case atStart => exact ⟨0, ⟨#[]⟩, by omega, rfl, rfl, rfl, G.refl _ _⟩
    case round =>
      obtain ⟨k, b, hkl, rfl, rfl, heq, hG⟩ := hrel
      have HE := Lib.hid heq
      clear heq
      by_cases hk : k < l.length
      · obtain ⟨p, hp⟩ : ∃ p, l[k]? = some p := ⟨_, List.getElem?_eq_getElem hk⟩
        have hdrop : l.drop k = p :: l.drop (k + 1) := by rw [List.drop_eq_getElem_cons hk, ← (List.getElem?_eq_some_iff.1 hp).2]
        have hpl := hl p (List.mem_of_getElem? hp)
        obtain ⟨bb, bo, rfl, hbb, _⟩ := RdR.elem cdC_sz HR.out hG hp
        have HW := Lib.hid (cdRow HR.out hG hp)
        have hs1 := hpl.1
        have hs2 := hpl.2.1
        unfold Small at hs1 hs2
        have HS : Hid (cdErr b (l.drop k) = if keyB p.1 = false then 5 else if leB p.1 b = true then 7 else if cdBadC p = true then 5 else if cdBadN p = true then 1 else cdErr p.1 (l.drop (k + 1))) := Lib.hid (by rw [hdrop]; rfl)
        have hB5 := Bk.new wr 116 (cdC p)
        have hG5 := hG.alloc (.cells (cdC p) 116)
        clear hdrop hp hpl hG
        go_wp2_with (refine wpList_load_at rfl 116 _ rfl ⟨bb, bo + k * 6, none⟩ rfl #[.string p.1, .string p.2.1, .int .i64 p.2.2.1, .int .i64 p.2.2.2.1, .int .i64 p.2.2.2.2.1, .int .i64 p.2.2.2.2.2] _ HW.out Tryd.underlying116 rfl (cd_info p) ?_)
        have hB5 : Bk (wr.alloc (.cells #[.string p.1, .string p.2.1, .int .i64 p.2.2.1, .int .i64 p.2.2.2.1, .int .i64 p.2.2.2.2.1, .int .i64 p.2.2.2.2.2] 116)) wr.heap.size 116 (cdC p) := hB5
        have hG5 : G w (wr.alloc (.cells #[.string p.1, .string p.2.1, .int .i64 p.2.2.1, .int .i64 p.2.2.2.1, .int .i64 p.2.2.2.2.1, .int .i64 p.2.2.2.2.2] 116)) none := hG5
        have hg5 := hB5.lt
        generalize wr.alloc (.cells #[.string p.1, .string p.2.1, .int .i64 p.2.2.1, .int .i64 p.2.2.2.1, .int .i64 p.2.2.2.2.1, .int .i64 p.2.2.2.2.2] 116) = w5 at hB5 hG5 hg5 ⊢
        generalize wr.heap.size = g at hB5 hg5 ⊢
        refine (rkey_c _ _ hs1).mono ?_; rintro e w6 ⟨rfl, hG1⟩
        have hB5 := hB5.quiet hG1
        have hG5 := hG5.trans hG1
        clear hG1
        have c0 : w6.cell? ⟨g, 0, none⟩ = some (.string p.1) := hB5.cell 0
        have c1 : w6.cell? ⟨g, 1, none⟩ = some (.string p.2.1) := hB5.cell 1
        have c2 : w6.cell? ⟨g, 2, none⟩ = some (.int .i64 p.2.2.1) := hB5.cell 2
        have c3 : w6.cell? ⟨g, 3, none⟩ = some (.int .i64 p.2.2.2.1) := hB5.cell 3
        have c4 : w6.cell? ⟨g, 4, none⟩ = some (.int .i64 p.2.2.2.2.1) := hB5.cell 4
        have c5 : w6.cell? ⟨g, 5, none⟩ = some (.int .i64 p.2.2.2.2.2) := hB5.cell 5
        cases hkb : keyB p.1 with
        | false =>
          have HF : Hid (cdE l = 5) := Lib.hid (by rw [H.out, HE.out, HS.out, if_pos hkb])
          clear hkb
          go_wp2_with fail
          go_ret
          exact ⟨by rw [HF.out]; rfl, hG5⟩
        | true =>
          have HK := Lib.hid hkb
          clear hkb
          cases hle : leB p.1 b with
          | true =>
            have HF : Hid (cdE l = 7) := Lib.hid (by rw [H.out, HE.out, HS.out, if_neg (by simp [HK.out]), if_pos hle])
            unfold leB at hle
            go_wp2_with fail
            go_ret
            exact ⟨by rw [HF.out]; rfl, hG5⟩
          | false =>
            have HS2 : Hid (cdErr ⟨#[]⟩ l = if cdBadC p = true then 5 else if cdBadN p = true then 1 else cdErr p.1 (l.drop (k + 1))) := Lib.hid (by rw [HE.out, HS.out, if_neg (by simp [HK.out]), if_neg (by simp [hle])])
            unfold leB at hle
            clear HS HE
            have HBC : Hid (cdBadC p = (!p.2.1.toList.isEmpty && !keyB p.2.1)) := Lib.hid rfl
            cases hem : p.2.1.toList.isEmpty with
            | true =>
              have HS3 : Hid (cdErr ⟨#[]⟩ l = if cdBadN p = true then 1 else cdErr p.1 (l.drop (k + 1))) := Lib.hid (by rw [HS2.out, if_neg (by simp [HBC.out, hem])])
              clear HS2 HBC
              go_wp2_with fail
              refine (in_c _ _ _ _).mono ?_; rintro e w' ⟨rfl, rfl⟩
              cases hin : inB p.2.2.1 0 p.2.2.2.1 with
              | false =>
                have HF : Hid (cdE l = 1) := Lib.hid (by rw [H.out, HS3.out, if_pos (by simp [cdBadN, hin])])
                go_wp2_with fail
                go_ret
                exact ⟨by rw [HF.out]; rfl, hG5⟩
              | true =>
                have HIN := Lib.hid hin
                clear hin
                rcases (show 4001 < p.2.2.2.1 ∨ p.2.2.2.1 ≤ 4001 by omega) with t3 | t3
                · have HF : Hid (cdE l = 1) := Lib.hid (by rw [H.out, HS3.out, if_pos (by rw [cdBadN, decide_eq_false (show ¬ p.2.2.2.1 ≤ 4001 by omega)]; simp)])
                  go_wp2_with fail
                  go_ret
                  exact ⟨by rw [HF.out]; rfl, hG5⟩
                · have hn2 : ¬ 4001 < p.2.2.2.1 := by omega
                  go_wp2_with fail
                  refine (in_c _ _ _ _).mono ?_; rintro e w' ⟨rfl, rfl⟩
                  cases hd1 : inB p.2.2.2.2.1 1 120 with
                  | false =>
                    have HF : Hid (cdE l = 1) := Lib.hid (by rw [H.out, HS3.out, if_pos (by simp [cdBadN, hd1])])
                    go_wp2_with fail
                    go_ret
                    exact ⟨by rw [HF.out]; rfl, hG5⟩
                  | true =>
                    have HD := Lib.hid hd1
                    clear hd1
                    go_wp2_with fail
                    refine (in_c _ _ _ _).mono ?_; rintro e w' ⟨rfl, rfl⟩
                    cases hp1 : inB p.2.2.2.2.2 1 1000 with
                    | false =>
                      have HF : Hid (cdE l = 1) := Lib.hid (by rw [H.out, HS3.out, if_pos (by simp [cdBadN, hp1])])
                      go_wp2_with fail
                      go_ret
                      exact ⟨by rw [HF.out]; rfl, hG5⟩
                    | true =>
                      have HF : Hid (cdErr ⟨#[]⟩ l = cdErr p.1 (l.drop (k + 1))) := Lib.hid (by rw [HS3.out, if_neg (by simp [cdBadN, HIN.out, HD.out, hp1, t3])])
                      clear hp1
                      go_wp2_with fail
                      go_roundw
                      case rel => exact ⟨k + 1, p.1, by omega, by go_num, rfl, HF.out, hG5⟩
                      case measure => simp [intOf]; omega
            | false =>
              have HEM := Lib.hid hem
              go_wp2_with fail
              refine (rkey_c _ _ hs2).mono ?_; rintro e w6 ⟨rfl, hG1⟩
              have hB5 := hB5.quiet hG1
              have hG5 := hG5.trans hG1
              clear hG1
              have c0 : w6.cell? ⟨g, 0, none⟩ = some (.string p.1) := hB5.cell 0
              have c1 : w6.cell? ⟨g, 1, none⟩ = some (.string p.2.1) := hB5.cell 1
              have c2 : w6.cell? ⟨g, 2, none⟩ = some (.int .i64 p.2.2.1) := hB5.cell 2
              have c3 : w6.cell? ⟨g, 3, none⟩ = some (.int .i64 p.2.2.2.1) := hB5.cell 3
              have c4 : w6.cell? ⟨g, 4, none⟩ = some (.int .i64 p.2.2.2.2.1) := hB5.cell 4
              have c5 : w6.cell? ⟨g, 5, none⟩ = some (.int .i64 p.2.2.2.2.2) := hB5.cell 5
              cases hkb : keyB p.2.1 with
              | false =>
                have HF : Hid (cdE l = 5) := Lib.hid (by rw [H.out, HS2.out, if_pos (by simp [HBC.out, HEM.out, hkb])])
                clear hkb
                go_wp2_with fail
                go_ret
                exact ⟨by rw [HF.out]; rfl, hG5⟩
              | true =>
                have HS3 : Hid (cdErr ⟨#[]⟩ l = if cdBadN p = true then 1 else cdErr p.1 (l.drop (k + 1))) := Lib.hid (by rw [HS2.out, if_neg (by simp [HBC.out, hkb])])
                clear HS2 HBC hkb
                go_wp2_with fail
                refine (in_c _ _ _ _).mono ?_; rintro e w' ⟨rfl, rfl⟩
                cases hin : inB p.2.2.1 0 p.2.2.2.1 with
                | false =>
                  have HF : Hid (cdE l = 1) := Lib.hid (by rw [H.out, HS3.out, if_pos (by simp [cdBadN, hin])])
                  go_wp2_with fail
                  go_ret
                  exact ⟨by rw [HF.out]; rfl, hG5⟩
                | true =>
                  have HIN := Lib.hid hin
                  clear hin
                  rcases (show 4001 < p.2.2.2.1 ∨ p.2.2.2.1 ≤ 4001 by omega) with t3 | t3
                  · have HF : Hid (cdE l = 1) := Lib.hid (by rw [H.out, HS3.out, if_pos (by rw [cdBadN, decide_eq_false (show ¬ p.2.2.2.1 ≤ 4001 by omega)]; simp)])
                    go_wp2_with fail
                    go_ret
                    exact ⟨by rw [HF.out]; rfl, hG5⟩
                  · have hn2 : ¬ 4001 < p.2.2.2.1 := by omega
                    go_wp2_with fail
                    refine (in_c _ _ _ _).mono ?_; rintro e w' ⟨rfl, rfl⟩
                    cases hd1 : inB p.2.2.2.2.1 1 120 with
                    | false =>
                      have HF : Hid (cdE l = 1) := Lib.hid (by rw [H.out, HS3.out, if_pos (by simp [cdBadN, hd1])])
                      go_wp2_with fail
                      go_ret
                      exact ⟨by rw [HF.out]; rfl, hG5⟩
                    | true =>
                      have HD := Lib.hid hd1
                      clear hd1
                      go_wp2_with fail
                      refine (in_c _ _ _ _).mono ?_; rintro e w' ⟨rfl, rfl⟩
                      cases hp1 : inB p.2.2.2.2.2 1 1000 with
                      | false =>
                        have HF : Hid (cdE l = 1) := Lib.hid (by rw [H.out, HS3.out, if_pos (by simp [cdBadN, hp1])])
                        go_wp2_with fail
                        go_ret
                        exact ⟨by rw [HF.out]; rfl, hG5⟩
                      | true =>
                        have HF : Hid (cdErr ⟨#[]⟩ l = cdErr p.1 (l.drop (k + 1))) := Lib.hid (by rw [HS3.out, if_neg (by simp [cdBadN, HIN.out, HD.out, hp1, t3])])
                        clear hp1
                        go_wp2_with fail
                        go_roundw
                        case rel => exact ⟨k + 1, p.1, by omega, by go_num, rfl, HF.out, hG5⟩
                        case measure => simp [intOf]; omega
      · obtain rfl : k = l.length := by omega
        have HE2 : Hid (cdE l = 0) := Lib.hid (by rw [H.out, HE.out, List.drop_length]; rfl)
        go_wp2_with fail
        go_ret
        exact ⟨by rw [HE2.out]; rfl, hG⟩
end Go.Proofs.YtgofeigebldkiaaDoor
