/- Rates: the reference's RatesFault. -/
import Derived.Test.YtgofeigebldkiaaDoorRac
namespace Go.Proofs.YtgofeigebldkiaaDoor
open Go.RowKit

theorem eqB_comm (a b : ByteArray) : eqB a b = eqB b a := by
  cases h : eqB b a with
  | true => exact eqB_iff.2 (eqB_iff.1 h).symm
  | false =>
    cases k : eqB a b with
    | false => rfl
    | true => rw [← eqB_iff.1 k, eqB_iff.2 rfl] at h; exact h
theorem priceB_iff (h d e v : Int) : priceB h d e v = decide (-1 ≤ min (min (min h d) e) v ∧ max (max (max h d) e) v ≤ 1000000) := by
  unfold priceB inB
  rw [Bool.eq_iff_iff]
  simp only [Bool.and_eq_true, decide_eq_true_eq]
  omega
theorem chE_key {x : Ra} (h : keyB x.1 = false) : chE x = 5 := by rw [chE, if_pos h]
theorem chE_span {x : Ra} (h : keyB x.1 = true) (h2 : spanB x.2.1 x.2.2.1 = false) : chE x = 1 := by rw [chE, if_neg (by simp [h]), if_pos h2]
theorem chE_price {x : Ra} (h : keyB x.1 = true) (h2 : priceB x.2.2.2.1 x.2.2.2.2.1 x.2.2.2.2.2.1 x.2.2.2.2.2.2 = false) : chE x = 1 := by
  rw [chE, if_neg (by simp [h])]
  cases hs : spanB x.2.1 x.2.2.1 with
  | false => rfl
  | true => rw [h2]; rfl
theorem chE_ok {x : Ra} (h : keyB x.1 = true) (h1 : spanB x.2.1 x.2.2.1 = true) (h2 : priceB x.2.2.2.1 x.2.2.2.2.1 x.2.2.2.2.2.1 x.2.2.2.2.2.2 = true) : chE x = 0 := by
  rw [chE, if_neg (by simp [h]), if_neg (by simp [h1]), if_neg (by simp [h2])]
theorem min4 (x y z u : Int) (w : World) : (Builtin.min_ #[3, 3, 3, 3] 3 #[.int .i64 x, .int .i64 y, .int .i64 z, .int .i64 u]).run Tryd.prog w = .ok (.int .i64 (min (min (min x y) z) u)) w := by
  have e : ∀ a b : Int, (if b < a then b else a) = min a b := fun a b => by
    rw [Int.min_def]
    split <;> split <;> omega
  simp [Builtin.min_, Builtin.min2, e]
theorem max4 (x y z u : Int) (w : World) : (Builtin.max_ #[3, 3, 3, 3] 3 #[.int .i64 x, .int .i64 y, .int .i64 z, .int .i64 u]).run Tryd.prog w = .ok (.int .i64 (max (max (max x y) z) u)) w := by
  have e : ∀ a b : Int, (if a < b then b else a) = max a b := fun a b => by
    rw [Int.max_def]
    split <;> split <;> omega
  simp [Builtin.max_, Builtin.max2, e]
set_option maxRecDepth 100000 in
set_option maxHeartbeats 4000000 in
theorem ratesFault_c (v : Value) (l : List Ra) (w : World) (hr : RdR w 7 raC v l) (hl : RaOk l) (hn : l.length ≤ 1000) :
    Calls Tryd.prog 13 #[v] w fun e w' => e = .returned (.int .i64 (raE l)) ∧ G w w' none := by
  have HR := Lib.hid hr
  obtain ⟨a, cap, rfl, hcap, hm⟩ := RdR.form hr
  clear hr
  by_cases h30 : 200 < l.length
  · have H := Lib.hid (show raE l = 2 by simp [raE, h30])
    go_enter Tryd.func13, Tryd.ntmps13
    go_wp2_with fail
    go_ret
    exact ⟨by rw [H.out]; rfl, G.refl _ _⟩
  · have H := Lib.hid (show raE l = raErr none l by simp [raE, h30])
    go_enter Tryd.func13, Tryd.ntmps13
    go_wp2_with fail
    go_loopw [13] (RaRel w l) (fun i _ => l.length - (intOf i).toNat)
    case atStart => exact ⟨0, by omega, rfl, rfl, G.refl _ _⟩
    case round =>
      obtain ⟨k, hkl, rfl, heq, hG⟩ := hrel
      have HE := Lib.hid heq
      clear heq
      by_cases hk : k < l.length
      · obtain ⟨p, hp⟩ : ∃ p, l[k]? = some p := ⟨_, List.getElem?_eq_getElem hk⟩
        have hdrop : l.drop k = p :: l.drop (k + 1) := by rw [List.drop_eq_getElem_cons hk, ← (List.getElem?_eq_some_iff.1 hp).2]
        have hpl := hl p (List.mem_of_getElem? hp)
        obtain ⟨bb, bo, rfl, hbb, _⟩ := RdR.elem raC_sz HR.out hG hp
        have HW := Lib.hid (raRow HR.out hG hp)
        have HP := Lib.hid hp
        have hs1 := hpl.1
        unfold Small at hs1
        have HS : Hid (raErr (prevAt l k) (l.drop k) = if chE p = 0 then (if raAfter (prevAt l k) p = true then 7 else if raHits (prevAt l k) p = true then 13 else raErr (some p) (l.drop (k + 1))) else chE p) := Lib.hid (by rw [hdrop]; rfl)
        have HB5 := Lib.hid (Bk.new wr 37 (raC p))
        have HG5 := Lib.hid (hG.alloc (.cells (raC p) 37))
        clear hdrop hp hpl
        go_wp2_with (refine wpList_load_at rfl 37 _ rfl ⟨bb, bo + k * 7, none⟩ rfl #[.string p.1, .int .i64 p.2.1, .int .i64 p.2.2.1, .int .i64 p.2.2.2.1, .int .i64 p.2.2.2.2.1, .int .i64 p.2.2.2.2.2.1, .int .i64 p.2.2.2.2.2.2] _ HW.out Tryd.underlying37 rfl (ra_info p) ?_)
        have hB5 : Bk (wr.alloc (.cells #[.string p.1, .int .i64 p.2.1, .int .i64 p.2.2.1, .int .i64 p.2.2.2.1, .int .i64 p.2.2.2.2.1, .int .i64 p.2.2.2.2.2.1, .int .i64 p.2.2.2.2.2.2] 37)) wr.heap.size 37 (raC p) := HB5.out
        have hG5 : G w (wr.alloc (.cells #[.string p.1, .int .i64 p.2.1, .int .i64 p.2.2.1, .int .i64 p.2.2.2.1, .int .i64 p.2.2.2.2.1, .int .i64 p.2.2.2.2.2.1, .int .i64 p.2.2.2.2.2.2] 37)) none := HG5.out
        clear HB5 HG5 HW hG
        have hg5 := hB5.lt
        generalize wr.alloc (.cells #[.string p.1, .int .i64 p.2.1, .int .i64 p.2.2.1, .int .i64 p.2.2.2.1, .int .i64 p.2.2.2.2.1, .int .i64 p.2.2.2.2.2.1, .int .i64 p.2.2.2.2.2.2] 37) = w5 at hB5 hG5 hg5 ⊢
        generalize wr.heap.size = g at hB5 hg5 ⊢
        have c0 : w5.cell? ⟨g, 0, none⟩ = some (.string p.1) := hB5.cell 0
        have c1 : w5.cell? ⟨g, 1, none⟩ = some (.int .i64 p.2.1) := hB5.cell 1
        have c2 : w5.cell? ⟨g, 2, none⟩ = some (.int .i64 p.2.2.1) := hB5.cell 2
        have c3 : w5.cell? ⟨g, 3, none⟩ = some (.int .i64 p.2.2.2.1) := hB5.cell 3
        have c4 : w5.cell? ⟨g, 4, none⟩ = some (.int .i64 p.2.2.2.2.1) := hB5.cell 4
        have c5 : w5.cell? ⟨g, 5, none⟩ = some (.int .i64 p.2.2.2.2.2.1) := hB5.cell 5
        have c6 : w5.cell? ⟨g, 6, none⟩ = some (.int .i64 p.2.2.2.2.2.2) := hB5.cell 6
        obtain ⟨L, hL⟩ : ∃ L, min (min (min p.2.2.2.1 p.2.2.2.2.1) p.2.2.2.2.2.1) p.2.2.2.2.2.2 = L := ⟨_, rfl⟩
        obtain ⟨M, hM⟩ : ∃ M, max (max (max p.2.2.2.1 p.2.2.2.2.1) p.2.2.2.2.2.1) p.2.2.2.2.2.2 = M := ⟨_, rfl⟩
        have hmin := fun w : World => min4 p.2.2.2.1 p.2.2.2.2.1 p.2.2.2.2.2.1 p.2.2.2.2.2.2 w
        have hmax := fun w : World => max4 p.2.2.2.1 p.2.2.2.2.1 p.2.2.2.2.2.1 p.2.2.2.2.2.2 w
        rw [hL] at hmin
        rw [hM] at hmax
        have HPR : Hid (priceB p.2.2.2.1 p.2.2.2.2.1 p.2.2.2.2.2.1 p.2.2.2.2.2.2 = decide (-1 ≤ L ∧ M ≤ 1000000)) := Lib.hid (by rw [priceB_iff, hL, hM])
        clear hL hM
        go_quiet (fail)
        have hGd := hG5.drewN nq
        have hBd := hB5.drewN nq
        clear hG5 hB5 hmin hmax c3 c4 c5 c6
        go_wp2_with fail
        refine (rkey_c _ _ hs1).mono ?_; rintro e w6 ⟨rfl, hG6⟩
        have hG06 := hGd.trans hG6
        have hB6 := hBd.quiet hG6
        clear hGd hBd hG6 c0 c1 c2
        have c0 : w6.cell? ⟨g, 0, none⟩ = some (.string p.1) := hB6.cell 0
        have c1 : w6.cell? ⟨g, 1, none⟩ = some (.int .i64 p.2.1) := hB6.cell 1
        have c2 : w6.cell? ⟨g, 2, none⟩ = some (.int .i64 p.2.2.1) := hB6.cell 2
        have hg6 := hB6.lt
        cases hkb : keyB p.1 with
        | false =>
          have hch := chE_key hkb
          have HF : Hid (raE l = 5) := Lib.hid (by rw [H.out, HE.out, HS.out, if_neg (by rw [hch]; decide), hch])
          clear hch hkb
          go_wp2_with fail
          go_ret
          exact ⟨by rw [HF.out]; rfl, hG06⟩
        | true =>
          have HK := Lib.hid hkb
          clear hkb
          rcases (show p.2.1 < 0 ∨ (0 ≤ p.2.1 ∧ p.2.2.1 ≤ p.2.1) ∨ (0 ≤ p.2.1 ∧ p.2.1 < p.2.2.1 ∧ 4001 < p.2.2.1) ∨ (0 ≤ p.2.1 ∧ p.2.1 < p.2.2.1 ∧ p.2.2.1 ≤ 4001) by omega) with h1 | ⟨h1, h2⟩ | ⟨h1, h2, h3⟩ | ⟨h1, h2, h3⟩
          · have hch := chE_span HK.out (by rw [spanB, decide_eq_false (show ¬ 0 ≤ p.2.1 by omega)]; rfl)
            have HF : Hid (raE l = 1) := Lib.hid (by rw [H.out, HE.out, HS.out, if_neg (by rw [hch]; decide), hch])
            clear hch
            go_wp2_with fail
            go_ret
            exact ⟨by rw [HF.out]; rfl, hG06⟩
          · have hch := chE_span HK.out (by rw [spanB, decide_eq_false (show ¬ p.2.1 < p.2.2.1 by omega)]; simp)
            have HF : Hid (raE l = 1) := Lib.hid (by rw [H.out, HE.out, HS.out, if_neg (by rw [hch]; decide), hch])
            clear hch
            go_wp2_with fail
            go_ret
            exact ⟨by rw [HF.out]; rfl, hG06⟩
          · have hch := chE_span HK.out (by rw [spanB, decide_eq_false (show ¬ p.2.2.1 ≤ 4001 by omega)]; simp)
            have HF : Hid (raE l = 1) := Lib.hid (by rw [H.out, HE.out, HS.out, if_neg (by rw [hch]; decide), hch])
            clear hch
            go_wp2_with fail
            go_ret
            exact ⟨by rw [HF.out]; rfl, hG06⟩
          · have HSP : Hid (spanB p.2.1 p.2.2.1 = true) := Lib.hid (by simp [spanB, h1, h2, h3])
            rcases (show L < -1 ∨ (-1 ≤ L ∧ 1000000 < M) ∨ (-1 ≤ L ∧ M ≤ 1000000) by omega) with h4 | ⟨h4, h5⟩ | ⟨h4, h5⟩
            · have hch := chE_price HK.out (by rw [HPR.out]; exact decide_eq_false (by omega))
              have HF : Hid (raE l = 1) := Lib.hid (by rw [H.out, HE.out, HS.out, if_neg (by rw [hch]; decide), hch])
              clear hch
              go_wp2_with fail
              go_ret
              exact ⟨by rw [HF.out]; rfl, hG06⟩
            · have hch := chE_price HK.out (by rw [HPR.out]; exact decide_eq_false (by omega))
              have HF : Hid (raE l = 1) := Lib.hid (by rw [H.out, HE.out, HS.out, if_neg (by rw [hch]; decide), hch])
              clear hch
              go_wp2_with fail
              go_ret
              exact ⟨by rw [HF.out]; rfl, hG06⟩
            · have hch := chE_ok HK.out HSP.out (by rw [HPR.out]; exact decide_eq_true ⟨h4, h5⟩)
              cases k with
              | zero =>
                have HF : Hid (raErr none l = raErr (prevAt l (0 + 1)) (l.drop (0 + 1))) := Lib.hid (by rw [HE.out, HS.out, if_pos hch, if_neg (by simp [raAfter, prevAt]), if_neg (by simp [raHits, prevAt]), prevAt_succ l 0 p HP.out])
                clear hch HS HE HPR HSP
                go_wp2_with fail
                go_roundw
                case rel => exact ⟨0 + 1, by omega, by go_num, HF.out, hG06⟩
                case measure => simp [intOf]; omega
              | succ m =>
                obtain ⟨q, hq2⟩ : ∃ q, l[m]? = some q := ⟨_, List.getElem?_eq_getElem (by omega)⟩
                have HPA : Hid (prevAt l (m + 1) = some q) := Lib.hid (prevAt_succ l m q hq2)
                have HX : Hid (raErr none l = if 0 ≤ cmpR q p then 7 else if raHits (some q) p = true then 13 else raErr (some p) (l.drop (m + 1 + 1))) := Lib.hid (by rw [HE.out, HS.out, if_pos hch, HPA.out]; simp [raAfter])
                have hsub : IntKind.i64.wrap (((m + 1 : Nat) : Int) - 1) = (m : Int) := by rw [show ((m + 1 : Nat) : Int) - 1 = (m : Int) by omega]; rw [IntKind.wrap_i64]; omega
                have hsub2 : IntKind.i64.wrap (m : Int) = (m : Int) := by rw [IntKind.wrap_i64]; omega
                have hsub3 : IntKind.i64.wrap ((m : Int) + 1 - 1) = (m : Int) := by rw [IntKind.wrap_i64]; omega
                have hm0 : (0 : Int) ≤ (m : Int) := Int.natCast_nonneg m
                have hml : (m : Int) < (l.length : Int) := by omega
                have HW := Lib.hid (raRow HR.out hG06 hq2)
                have HG7 := Lib.hid (hG06.alloc (.cells (raC q) 37))
                have d0 := RdR.cell raC_sz HR.out hG06 hq2 0 (.string q.1) rfl
                have d1 := RdR.cell raC_sz HR.out hG06 hq2 1 (.int .i64 q.2.1) rfl
                have d2 := RdR.cell raC_sz HR.out hG06 hq2 2 (.int .i64 q.2.2.1) rfl
                have d3 := RdR.cell raC_sz HR.out hG06 hq2 3 (.int .i64 q.2.2.2.1) rfl
                have d4 := RdR.cell raC_sz HR.out hG06 hq2 4 (.int .i64 q.2.2.2.2.1) rfl
                have d5 := RdR.cell raC_sz HR.out hG06 hq2 5 (.int .i64 q.2.2.2.2.2.1) rfl
                have d6 := RdR.cell raC_sz HR.out hG06 hq2 6 (.int .i64 q.2.2.2.2.2.2) rfl
                simp only [Nat.add_zero] at d0
                clear HW
                have hneg := cmpI_neg p.1 q.1
                have hl1 : Op.bytesLess p.1.toList q.1.toList = decide (cmpI p.1 q.1 < 0) := by rw [less_cL, ByteArray.toList_eq, ByteArray.toList_eq]; rfl
                have he1 := eqB_cmp p.1 q.1
                have hor : cmpR q p = if cmpI q.1 p.1 = 0 then cmpS q.2.1 p.2.1 else cmpI q.1 p.1 := rfl
                have hcs : cmpS q.2.1 p.2.1 = if q.2.1 < p.2.1 then -1 else if p.2.1 < q.2.1 then 1 else 0 := rfl
                clear hq2 hch HS HE HPR HSP
                rcases (show cmpI p.1 q.1 < 0 ∨ 0 < cmpI p.1 q.1 ∨ cmpI p.1 q.1 = 0 by omega) with hc | hc | hc
                · have HF : Hid (raE l = 7) := Lib.hid (by rw [H.out, HX.out, if_pos (by rw [hor, if_neg (by omega)]; omega)])
                  have g1 : Op.bytesLess p.1.toList q.1.toList = true := by rw [hl1]; exact decide_eq_true hc
                  clear hl1 he1 hor hneg hcs
                  go_wp2_with fail
                  go_ret
                  exact ⟨by rw [HF.out]; rfl, HG7.out⟩
                · have g1 : Op.bytesLess p.1.toList q.1.toList = false := by rw [hl1]; exact decide_eq_false (by omega)
                  have g2 : eqB p.1 q.1 = false := by rw [he1]; exact decide_eq_false (by omega)
                  have HF : Hid (raErr none l = raErr (prevAt l (m + 1 + 1)) (l.drop (m + 1 + 1))) := Lib.hid (by rw [HX.out, if_neg (by rw [hor, if_neg (by omega)]; omega), if_neg (by simp [raHits, eqB_comm q.1 p.1, g2]), prevAt_succ l (m + 1) p HP.out])
                  unfold eqB at g2
                  clear hl1 he1 hor hneg hcs
                  go_wp2_with fail
                  go_roundw
                  case rel => exact ⟨m + 1 + 1, by omega, by go_num, HF.out, HG7.out⟩
                  case measure => simp [intOf]; omega
                · have g1 : Op.bytesLess p.1.toList q.1.toList = false := by rw [hl1]; exact decide_eq_false (by omega)
                  have g2 : eqB p.1 q.1 = true := by rw [he1]; exact decide_eq_true hc
                  have HG2 := Lib.hid g2
                  unfold eqB at g2
                  rcases (show p.2.1 ≤ q.2.1 ∨ (q.2.1 < p.2.1 ∧ p.2.1 < q.2.2.1) ∨ (q.2.1 < p.2.1 ∧ q.2.2.1 ≤ p.2.1) by omega) with h6 | ⟨h6, h7⟩ | ⟨h6, h7⟩
                  · have HF : Hid (raE l = 7) := Lib.hid (by rw [H.out, HX.out, if_pos (by rw [hor, if_pos (by omega), hcs, if_neg (by omega)]; split <;> omega)])
                    clear hl1 he1 hor hneg hcs
                    go_wp2_with fail
                    go_ret
                    exact ⟨by rw [HF.out]; rfl, HG7.out⟩
                  · have HF : Hid (raE l = 13) := Lib.hid (by rw [H.out, HX.out, if_neg (by rw [hor, if_pos (by omega), hcs, if_pos h6]; omega), if_pos (by simp [raHits, eqB_comm q.1 p.1, HG2.out, h7])])
                    clear hl1 he1 hor hneg hcs
                    go_wp2_with fail
                    go_ret
                    exact ⟨by rw [HF.out]; rfl, HG7.out⟩
                  · have HF : Hid (raErr none l = raErr (prevAt l (m + 1 + 1)) (l.drop (m + 1 + 1))) := Lib.hid (by rw [HX.out, if_neg (by rw [hor, if_pos (by omega), hcs, if_pos h6]; omega), if_neg (by simp [raHits, h7]), prevAt_succ l (m + 1) p HP.out])
                    clear hl1 he1 hor hneg hcs
                    go_wp2_with fail
                    go_roundw
                    case rel => exact ⟨m + 1 + 1, by omega, by go_num, HF.out, HG7.out⟩
                    case measure => simp [intOf]; omega
      · obtain rfl : k = l.length := by omega
        have HE2 : Hid (raE l = 0) := Lib.hid (by rw [H.out, HE.out, List.drop_length]; rfl)
        go_wp2_with fail
        go_ret
        exact ⟨by rw [HE2.out]; rfl, hG⟩
end Go.Proofs.YtgofeigebldkiaaDoor
