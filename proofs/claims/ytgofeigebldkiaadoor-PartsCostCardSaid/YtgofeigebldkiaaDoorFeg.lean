/- The reference's FeesFault. -/
import Derived.Test.YtgofeigebldkiaaDoorFee
namespace Go.Proofs.YtgofeigebldkiaaDoor
open Go.RowKit

set_option maxRecDepth 100000 in
set_option maxHeartbeats 4000000 in
theorem feesFault_c (v : Value) (l : List Fe) (w : World) (hr : RdR w 3 feC v l) (hl : FeOk l) (hn : l.length ≤ 1000) :
    Calls Tryd.prog 28 #[v] w fun e w' => e = .returned (.int .i64 (feE l)) ∧ G w w' none := by
  have HR := Lib.hid hr
  obtain ⟨a, cap, rfl, hcap, hm⟩ := RdR.form hr
  clear hr
  by_cases h30 : 500 < l.length
  · have H := Lib.hid (show feE l = 2 by simp [feE, h30])
    go_enter Tryd.func28, Tryd.ntmps28
    go_wp2_with fail
    go_ret
    exact ⟨by rw [H.out]; rfl, G.refl _ _⟩
  · have H := Lib.hid (show feE l = feErr none l by simp [feE, h30])
    go_enter Tryd.func28, Tryd.ntmps28
    go_wp2_with fail
    go_loopw [10] (FeRel w l) (fun i _ => l.length - (intOf i).toNat)
    case atStart => exact ⟨0, by omega, rfl, rfl, G.refl _ _⟩
    case round =>
      obtain ⟨k, hkl, rfl, heq, hG⟩ := hrel
      have HE := Lib.hid heq
      clear heq
      by_cases hk : k < l.length
      · obtain ⟨p, hp⟩ : ∃ p, l[k]? = some p := ⟨_, List.getElem?_eq_getElem hk⟩
        have hdrop : l.drop k = p :: l.drop (k + 1) := by rw [List.drop_eq_getElem_cons hk, ← (List.getElem?_eq_some_iff.1 hp).2]
        have hpl := hl p (List.mem_of_getElem? hp)
        obtain ⟨bb, bo, rfl, hbb, hrow⟩ := RdR.elem feC_sz HR.out hG hp
        have HW := Lib.hid hrow
        have HP := Lib.hid hp
        have hs1 := hpl.1
        have hs2 := hpl.2.1
        unfold Small at hs1 hs2
        have HS : Hid (feErr (prevAt l k) (l.drop k) = if keyB p.1 = false then 5 else if keyB p.2.1 = false then 5 else if eqB p.1 p.2.1 = true then 14 else if feAfter (prevAt l k) p = true then 7 else if inB p.2.2 0 1000000 = false then 1 else feErr (some p) (l.drop (k + 1))) := Lib.hid (by rw [hdrop]; rfl)
        clear hrow hdrop hp hpl
        go_wp2_with (refine wpList_load_at rfl 110 _ rfl ⟨bb, bo + k * 3, none⟩ rfl #[.string p.1, .string p.2.1, .int .i64 p.2.2] _ HW.out Tryd.underlying110 rfl (fe_info p) ?_)
        refine (rkey_c _ _ hs1).mono ?_; rintro e w1 ⟨rfl, hG1⟩
        have hB5 := (Bk.new wr 110 (feC p)).quiet hG1
        have hc0 := hB5.cell 0
        have hc1 := hB5.cell 1
        have hc2 := hB5.cell 2
        rw [show (feC p)[0]? = some (.string p.1) from rfl] at hc0
        rw [show (feC p)[1]? = some (.string p.2.1) from rfl] at hc1
        rw [show (feC p)[2]? = some (.int .i64 p.2.2) from rfl] at hc2
        have hG01 := (hG.alloc (.cells (feC p) 110)).trans hG1
        clear hG hG1 HW
        cases hkb : keyB p.1 with
        | false =>
          have HF : Hid (feE l = 5) := Lib.hid (by rw [H.out, HE.out, HS.out, if_pos hkb])
          clear hkb
          go_wp2_with fail
          go_ret
          exact ⟨by rw [HF.out]; rfl, hG01⟩
        | true =>
          go_wp2_with fail
          refine (rkey_c _ _ hs2).mono ?_; rintro e w2 ⟨rfl, hG2⟩
          have hB6 := hB5.quiet hG2
          have hc0 := hB6.cell 0
          have hc1 := hB6.cell 1
          have hc2 := hB6.cell 2
          rw [show (feC p)[0]? = some (.string p.1) from rfl] at hc0
          rw [show (feC p)[1]? = some (.string p.2.1) from rfl] at hc1
          rw [show (feC p)[2]? = some (.int .i64 p.2.2) from rfl] at hc2
          have hG02 := hG01.trans hG2
          clear hG01 hG2 hB5
          cases hkb2 : keyB p.2.1 with
          | false =>
            have HF : Hid (feE l = 5) := Lib.hid (by rw [H.out, HE.out, HS.out, if_neg (by simp [hkb]), if_pos hkb2])
            clear hkb2
            go_wp2_with fail
            go_ret
            exact ⟨by rw [HF.out]; rfl, hG02⟩
          | true =>
            have HK := Lib.hid hkb
            have HK2 := Lib.hid hkb2
            clear hkb hkb2
            cases hq : eqB p.1 p.2.1 with
            | true =>
              have HF : Hid (feE l = 14) := Lib.hid (by rw [H.out, HE.out, HS.out, if_neg (by simp [HK.out]), if_neg (by simp [HK2.out]), if_pos hq])
              unfold eqB at hq
              go_wp2_with fail
              go_ret
              exact ⟨by rw [HF.out]; rfl, hG02⟩
            | false =>
              have HQ := Lib.hid hq
              unfold eqB at hq
              go_wp2_with fail
              have hB7 := hB6
              have hG7 := hG02
              have hg7 := hB7.lt
              clear hB6 hG02 hc0 hc1 hc2
              generalize wr.heap.size = g at hB7 hg7 ⊢
              cases k with
              | zero =>
                have HA : Hid (feAfter (prevAt l 0) p = false) := Lib.hid rfl
                have hc2 : w2.cell? ⟨g, 2, none⟩ = some (.int .i64 p.2.2) := hB7.cell 2
                go_quiet (fail)
                have hGq := hG7.drewN nq
                cases h3 : inB p.2.2 0 1000000 with
                | false =>
                  have HF : Hid (feE l = 1) := Lib.hid (by rw [H.out, HE.out, HS.out, if_neg (by simp [HK.out]), if_neg (by simp [HK2.out]), if_neg (by simp [HQ.out]), if_neg (by simp [HA.out]), if_pos h3])
                  go_wp2_with fail
                  refine (in_c _ _ _ _).mono ?_; rintro e w' ⟨rfl, rfl⟩
                  rw [h3]
                  go_wp2_with fail
                  go_ret
                  exact ⟨by rw [HF.out]; rfl, hGq⟩
                | true =>
                  have HF : Hid (feErr none l = feErr (prevAt l (0 + 1)) (l.drop (0 + 1))) := Lib.hid (by rw [HE.out, HS.out, if_neg (by simp [HK.out]), if_neg (by simp [HK2.out]), if_neg (by simp [HQ.out]), if_neg (by simp [HA.out]), if_neg (by simp [h3]), prevAt_succ l 0 p HP.out])
                  go_wp2_with fail
                  refine (in_c _ _ _ _).mono ?_; rintro e w' ⟨rfl, rfl⟩
                  rw [h3]
                  go_wp2_with fail
                  go_roundw
                  case rel => exact ⟨0 + 1, by omega, by go_num, HF.out, hGq⟩
                  case measure => simp [intOf]; omega

              | succ m =>
                obtain ⟨q, hq2⟩ : ∃ q, l[m]? = some q := ⟨_, List.getElem?_eq_getElem (by omega)⟩
                have HA1 : Hid (feAfter (prevAt l (m + 1)) p = decide (0 ≤ cmpF q p)) := Lib.hid (by rw [prevAt_succ l m q hq2]; rfl)
                have hsub : IntKind.i64.wrap (((m + 1 : Nat) : Int) - 1) = (m : Int) := by rw [show ((m + 1 : Nat) : Int) - 1 = (m : Int) by omega]; rw [IntKind.wrap_i64]; omega
                have d0 := RdR.cell feC_sz HR.out hG7 hq2 0 (.string q.1) rfl
                have d1 := RdR.cell feC_sz HR.out hG7 hq2 1 (.string q.2.1) rfl
                have d2 := RdR.cell feC_sz HR.out hG7 hq2 2 (.int .i64 q.2.2) rfl
                have c0 : w2.cell? ⟨g, 0, none⟩ = some (.string p.1) := hB7.cell 0
                have c1 : w2.cell? ⟨g, 1, none⟩ = some (.string p.2.1) := hB7.cell 1
                have c2 : w2.cell? ⟨g, 2, none⟩ = some (.int .i64 p.2.2) := hB7.cell 2
                have hsub2 : IntKind.i64.wrap (m : Int) = (m : Int) := by rw [IntKind.wrap_i64]; omega
                have hsub3 : IntKind.i64.wrap ((m : Int) + 1 - 1) = (m : Int) := by rw [IntKind.wrap_i64]; omega
                have hm0 : (0 : Int) ≤ (m : Int) := Int.natCast_nonneg m
                have hml : (m : Int) < (l.length : Int) := by omega
                simp only [Nat.add_zero] at d0
                clear hq2
                have hneg := cmpI_neg p.1 q.1
                have hneg2 := cmpI_neg p.2.1 q.2.1
                have hl1 : Op.bytesLess p.1.toList q.1.toList = decide (cmpI p.1 q.1 < 0) := by rw [less_cL, ByteArray.toList_eq, ByteArray.toList_eq]; rfl
                have he1 := eqB_cmp p.1 q.1
                have hle2 := leB_cmp p.2.1 q.2.1
                have hor : cmpF q p = if cmpI q.1 p.1 = 0 then cmpI q.2.1 p.2.1 else cmpI q.1 p.1 := rfl
                rcases (show cmpI p.1 q.1 < 0 ∨ 0 < cmpI p.1 q.1 ∨ cmpI p.1 q.1 = 0 by omega) with hc | hc | hc
                ·
                  have HF : Hid (feE l = 7) := Lib.hid (by rw [H.out, HE.out, HS.out, if_neg (by simp [HK.out]), if_neg (by simp [HK2.out]), if_neg (by simp [HQ.out]), if_pos (by rw [HA1.out]; exact decide_eq_true (by rw [hor]; rw [if_neg (by omega)]; omega))])
                  have g1 : Op.bytesLess p.1.toList q.1.toList = true := by rw [hl1]; exact decide_eq_true hc
                  clear hl1 he1 hle2 hor hneg hneg2
                  go_quiet (fail)
                  have hGq := hG7.drewN nq
                  go_wp2_with fail
                  go_ret
                  exact ⟨by rw [HF.out]; rfl, hGq⟩
                ·
                  have HA : Hid (feAfter (prevAt l (m + 1)) p = false) := Lib.hid (by rw [HA1.out]; exact decide_eq_false (by rw [hor]; rw [if_neg (by omega)]; omega))
                  have g1 : Op.bytesLess p.1.toList q.1.toList = false := by rw [hl1]; exact decide_eq_false (by omega)
                  have g2 : eqB p.1 q.1 = false := by rw [he1]; exact decide_eq_false (by omega)
                  unfold eqB at g2
                  clear hl1 he1 hle2 hor hneg hneg2
                  go_quiet (fail)
                  have hGq := hG7.drewN nq
                  cases h3 : inB p.2.2 0 1000000 with
                  | false =>
                    have HF : Hid (feE l = 1) := Lib.hid (by rw [H.out, HE.out, HS.out, if_neg (by simp [HK.out]), if_neg (by simp [HK2.out]), if_neg (by simp [HQ.out]), if_neg (by simp [HA.out]), if_pos h3])
                    go_wp2_with fail
                    refine (in_c _ _ _ _).mono ?_; rintro e w' ⟨rfl, rfl⟩
                    rw [h3]
                    go_wp2_with fail
                    go_ret
                    exact ⟨by rw [HF.out]; rfl, hGq⟩
                  | true =>
                    have HF : Hid (feErr none l = feErr (prevAt l ((m + 1) + 1)) (l.drop ((m + 1) + 1))) := Lib.hid (by rw [HE.out, HS.out, if_neg (by simp [HK.out]), if_neg (by simp [HK2.out]), if_neg (by simp [HQ.out]), if_neg (by simp [HA.out]), if_neg (by simp [h3]), prevAt_succ l (m + 1) p HP.out])
                    go_wp2_with fail
                    refine (in_c _ _ _ _).mono ?_; rintro e w' ⟨rfl, rfl⟩
                    rw [h3]
                    go_wp2_with fail
                    go_roundw
                    case rel => exact ⟨(m + 1) + 1, by omega, by go_num, HF.out, hGq⟩
                    case measure => simp [intOf]; omega
                ·
                  have g1 : Op.bytesLess p.1.toList q.1.toList = false := by rw [hl1]; exact decide_eq_false (by omega)
                  have g2 : eqB p.1 q.1 = true := by rw [he1]; exact decide_eq_true hc
                  unfold eqB at g2
                  cases hle : leB p.2.1 q.2.1 with
                  | true =>
                    rw [hle] at hle2
                    have hx := of_decide_eq_true hle2.symm
                    have HF : Hid (feE l = 7) := Lib.hid (by rw [H.out, HE.out, HS.out, if_neg (by simp [HK.out]), if_neg (by simp [HK2.out]), if_neg (by simp [HQ.out]), if_pos (by rw [HA1.out]; exact decide_eq_true (by rw [hor]; rw [if_pos (by omega)]; omega))])
                    unfold leB at hle
                    clear hl1 he1 hle2 hor hneg hneg2
                    go_quiet (fail)
                    have hGq := hG7.drewN nq
                    go_wp2_with fail
                    go_ret
                    exact ⟨by rw [HF.out]; rfl, hGq⟩
                  | false =>
                    rw [hle] at hle2
                    have hx := of_decide_eq_false hle2.symm
                    have HA : Hid (feAfter (prevAt l (m + 1)) p = false) := Lib.hid (by rw [HA1.out]; exact decide_eq_false (by rw [hor]; rw [if_pos (by omega)]; omega))
                    unfold leB at hle
                    clear hl1 he1 hle2 hor hneg hneg2
                    go_quiet (fail)
                    have hGq := hG7.drewN nq
                    cases h3 : inB p.2.2 0 1000000 with
                    | false =>
                      have HF : Hid (feE l = 1) := Lib.hid (by rw [H.out, HE.out, HS.out, if_neg (by simp [HK.out]), if_neg (by simp [HK2.out]), if_neg (by simp [HQ.out]), if_neg (by simp [HA.out]), if_pos h3])
                      go_wp2_with fail
                      refine (in_c _ _ _ _).mono ?_; rintro e w' ⟨rfl, rfl⟩
                      rw [h3]
                      go_wp2_with fail
                      go_ret
                      exact ⟨by rw [HF.out]; rfl, hGq⟩
                    | true =>
                      have HF : Hid (feErr none l = feErr (prevAt l ((m + 1) + 1)) (l.drop ((m + 1) + 1))) := Lib.hid (by rw [HE.out, HS.out, if_neg (by simp [HK.out]), if_neg (by simp [HK2.out]), if_neg (by simp [HQ.out]), if_neg (by simp [HA.out]), if_neg (by simp [h3]), prevAt_succ l (m + 1) p HP.out])
                      go_wp2_with fail
                      refine (in_c _ _ _ _).mono ?_; rintro e w' ⟨rfl, rfl⟩
                      rw [h3]
                      go_wp2_with fail
                      go_roundw
                      case rel => exact ⟨(m + 1) + 1, by omega, by go_num, HF.out, hGq⟩
                      case measure => simp [intOf]; omega

      · obtain rfl : k = l.length := by omega
        have HE2 : Hid (feE l = 0) := Lib.hid (by rw [H.out, HE.out, List.drop_length]; rfl)
        go_wp2_with fail
        go_ret
        exact ⟨by rw [HE2.out]; rfl, hG⟩
end Go.Proofs.YtgofeigebldkiaaDoor
