/- Hires: the reference's readingFault, legFault, HireFault. -/
import Derived.Test.YtbieiefbgcgogaaDoorHik
namespace Go.Proofs.YtbieiefbgcgogaaDoor
open Go.RowKit

set_option maxRecDepth 100000 in
set_option maxHeartbeats 2000000 in
theorem readingFault_c (x : Rg) (w : World) (hs : Small x.2.1) :
    Calls Tryd.prog 135 #[.agg (rgC x)] w fun e w' => e = .returned (.int .i64 (rgE x)) ∧ G w w' none := by
  have hG1 := (G.refl w none).alloc (.cells (rgC x) 57)
  have hB1 := Bk.new w 57 (rgC x)
  unfold Small at hs
  obtain ⟨t, s, m, f⟩ := x
  simp only [rgC] at hG1 hB1 hs ⊢
  have HE : Hid (rgE (t, s, m, f) = if momB t = false then 1 else if keyB s = false then 5 else if inB m 0 999999 = false then 1 else if inB f 0 8 = false then 1 else 0) := Lib.hid rfl
  generalize rgE (t, s, m, f) = R at HE ⊢
  go_enter Tryd.func135, Tryd.ntmps135
  go_wp2_with fail
  refine (rMoment_c t _).mono ?_; rintro e w1 ⟨rfl, rfl⟩
  cases k1 : momB t with
  | false =>
    have HF : Hid (R = 1) := Lib.hid (by rw [HE.out, if_pos k1])
    clear k1
    go_wp2_with fail
    go_ret
    exact ⟨ret_int HF.out.symm, hG1⟩
  | true =>
    have HE : Hid (R = if keyB s = false then 5 else if inB m 0 999999 = false then 1 else if inB f 0 8 = false then 1 else 0) := Lib.hid (by rw [HE.out, if_neg (by simp [k1])])
    clear k1
    go_wp2_with fail
    refine (rkey_c s _ hs).mono ?_; rintro e w1 ⟨rfl, hGk⟩
    have hB1 := hB1.quiet hGk
    have hG1 := hG1.trans hGk
    clear hGk
    have d2 : w1.cell? ⟨w.heap.size, 2, none⟩ = some (.int .i64 m) := hB1.cell 2
    have d3 : w1.cell? ⟨w.heap.size, 3, none⟩ = some (.int .i64 f) := hB1.cell 3
    cases k2 : keyB s with
    | false =>
      have HF : Hid (R = 5) := Lib.hid (by rw [HE.out, if_pos k2])
      clear k2
      go_wp2_with fail
      go_ret
      exact ⟨ret_int HF.out.symm, hG1⟩
    | true =>
      have HE : Hid (R = if inB m 0 999999 = false then 1 else if inB f 0 8 = false then 1 else 0) := Lib.hid (by rw [HE.out, if_neg (by simp [k2])])
      clear k2
      go_wp2_with fail
      refine (in_c m 0 999999 _).mono ?_; rintro e w1 ⟨rfl, rfl⟩
      cases k3 : inB m 0 999999 with
      | false =>
        have HF : Hid (R = 1) := Lib.hid (by rw [HE.out, if_pos k3])
        clear k3
        go_wp2_with fail
        go_ret
        exact ⟨ret_int HF.out.symm, hG1⟩
      | true =>
        have HE : Hid (R = if inB f 0 8 = false then 1 else 0) := Lib.hid (by rw [HE.out, if_neg (by simp [k3])])
        clear k3
        go_wp2_with fail
        refine (in_c f 0 8 _).mono ?_; rintro e w1 ⟨rfl, rfl⟩
        cases k4 : inB f 0 8 with
        | false =>
          have HF : Hid (R = 1) := Lib.hid (by rw [HE.out, if_pos k4])
          clear k4
          go_wp2_with fail
          go_ret
          exact ⟨ret_int HF.out.symm, hG1⟩
        | true =>
          have HF : Hid (R = 0) := Lib.hid (by rw [HE.out, if_neg (by simp [k4])])
          clear k4
          go_wp2_with fail
          go_ret
          exact ⟨ret_int HF.out.symm, hG1⟩
set_option maxRecDepth 100000 in
set_option maxHeartbeats 8000000 in
theorem legFault_c (h : Hh) (v : Value) (l : List Lg) (k : Nat) (p : Lg) (w : World) (hr : RdR w 9 lgC v l) (hp : l[k]? = some p) (hs : lgB p) (hn : l.length ≤ 1000) :
    Calls Tryd.prog 117 #[.agg (hiC h v), .int .i64 k] w fun e w' => e = .returned (.int .i64 (lgE h.2.2.1 (prevAt l k) (l.drop (k + 1)).isEmpty p)) ∧ G w w' none := by
  have hH := Bk.new w 61 (hiC h v)
  have hGH := (G.refl w none).alloc (.cells (hiC h v) 61)
  have hR := hr.quiet hGH
  obtain ⟨a, cap, rfl, hcap, hm⟩ := RdR.form hr
  clear hr
  have hk : k < l.length := (List.getElem?_eq_some_iff.1 hp).1
  have hki : (k : Int) < (l.length : Int) := by omega
  obtain ⟨bb, bo, rfl, -, -⟩ := RdR.elem lgC_sz hR (G.refl _ none) hp
  have HW := Lib.hid (lgRow hR (G.refl _ none) hp)
  obtain ⟨hs1, hs2, hs3⟩ := hs
  have hs1' := hs1
  unfold Small at hs1'
  clear hp
  obtain ⟨E, hE⟩ : ∃ E, lgE h.2.2.1 (prevAt l k) (l.drop (k + 1)).isEmpty p = E := ⟨_, rfl⟩
  have HE : Hid (E = if keyB p.1 = false then 5 else if rgE p.2.1 = 0 then (if beE h.2.2.1 (prevAt l k) p = 0 then enE (l.drop (k + 1)).isEmpty p else beE h.2.2.1 (prevAt l k) p) else rgE p.2.1) := Lib.hid hE.symm
  rw [hE]
  clear hE
  simp only [hiC] at hH hGH hR HW ⊢
  go_enter Tryd.func117, Tryd.ntmps117
  go_upto_region 2 with (refine wpList_load_at rfl 111 _ rfl ⟨bb, bo + k * 9, none⟩ rfl #[.string p.1, .int .i64 p.2.1.1, .string p.2.1.2.1, .int .i64 p.2.1.2.2.1, .int .i64 p.2.1.2.2.2, .int .i64 p.2.2.1, .string p.2.2.2.1, .int .i64 p.2.2.2.2.1, .int .i64 p.2.2.2.2.2] _ HW.out Tryd.underlying111 rfl (lg_info p) ?_)
  have hL : Bk ((w.alloc (.cells #[.string h.1, .string h.2.1, .int .i64 h.2.2.1, .int .i64 h.2.2.2, .slice (some ⟨bb, bo, none⟩) l.length cap] 61)).alloc (.cells #[.string p.1, .int .i64 p.2.1.1, .string p.2.1.2.1, .int .i64 p.2.1.2.2.1, .int .i64 p.2.1.2.2.2, .int .i64 p.2.2.1, .string p.2.2.2.1, .int .i64 p.2.2.2.2.1, .int .i64 p.2.2.2.2.2] 111)) (w.heap.size + 1) 111 (lgC p) := Bk.newAt (by simp) _ _
  have hG := hGH.alloc (.cells #[.string p.1, .int .i64 p.2.1.1, .string p.2.1.2.1, .int .i64 p.2.1.2.2.1, .int .i64 p.2.1.2.2.2, .int .i64 p.2.2.1, .string p.2.2.2.1, .int .i64 p.2.2.2.2.1, .int .i64 p.2.2.2.2.2] 111)
  have hH := hH.alloc (.cells #[.string p.1, .int .i64 p.2.1.1, .string p.2.1.2.1, .int .i64 p.2.1.2.2.1, .int .i64 p.2.1.2.2.2, .int .i64 p.2.2.1, .string p.2.2.2.1, .int .i64 p.2.2.2.2.1, .int .i64 p.2.2.2.2.2] 111)
  have hR := hR.quiet ((G.refl _ none).alloc (.cells #[.string p.1, .int .i64 p.2.1.1, .string p.2.1.2.1, .int .i64 p.2.1.2.2.1, .int .i64 p.2.1.2.2.2, .int .i64 p.2.2.1, .string p.2.2.2.1, .int .i64 p.2.2.2.2.1, .int .i64 p.2.2.2.2.2] 111))
  clear HW hGH
  generalize (w.alloc (.cells #[.string h.1, .string h.2.1, .int .i64 h.2.2.1, .int .i64 h.2.2.2, .slice (some ⟨bb, bo, none⟩) l.length cap] 61)).alloc (.cells #[.string p.1, .int .i64 p.2.1.1, .string p.2.1.2.1, .int .i64 p.2.1.2.2.1, .int .i64 p.2.1.2.2.2, .int .i64 p.2.2.1, .string p.2.2.2.1, .int .i64 p.2.2.2.2.1, .int .i64 p.2.2.2.2.2] 111) = w2 at hL hG hH hR ⊢
  have c0 : w2.cell? ⟨w.heap.size + 1, 0, none⟩ = some (.string p.1) := hL.cell 0
  go_wp2_with fail
  refine (rkey_c _ _ hs1').mono ?_; rintro e w' ⟨rfl, hGk⟩
  have hL := hL.quiet hGk
  have hH := hH.quiet hGk
  have hR := hR.quiet hGk
  have hG := hG.trans hGk
  clear hGk c0
  have HO := Lib.hid (hL.part 1 #[.int .i64 p.2.1.1, .string p.2.1.2.1, .int .i64 p.2.1.2.2.1, .int .i64 p.2.1.2.2.2] (lg_out p))
  cases k1 : keyB p.1 with
  | false =>
    have HF : Hid (E = 5) := Lib.hid (by rw [HE.out, if_pos k1])
    clear k1
    go_wp2_with fail
    go_ret
    exact ⟨ret_int HF.out.symm, hG⟩
  | true =>
    have HE1 : Hid (E = if rgE p.2.1 = 0 then (if beE h.2.2.1 (prevAt l k) p = 0 then enE (l.drop (k + 1)).isEmpty p else beE h.2.2.1 (prevAt l k) p) else rgE p.2.1) := Lib.hid (by rw [HE.out, if_neg (by simp [k1])])
    clear k1 HE
    go_wp2_with (refine wpList_load_at rfl 57 _ rfl ⟨w.heap.size + 1, 1, none⟩ rfl #[.int .i64 p.2.1.1, .string p.2.1.2.1, .int .i64 p.2.1.2.2.1, .int .i64 p.2.1.2.2.2] _ HO.out Tryd.underlying57 rfl (rg_info p.2.1) ?_)
    refine (readingFault_c p.2.1 _ hs2).mono ?_; rintro e w4 ⟨rfl, hG4⟩
    have hL := hL.quiet hG4
    have hH := hH.quiet hG4
    have hR := hR.quiet hG4
    have hG := hG.trans hG4
    clear hG4 HO
    obtain ⟨R, hRR⟩ : ∃ R, rgE p.2.1 = R := ⟨_, rfl⟩
    rw [hRR] at HE1 ⊢
    clear hRR
    by_cases k2 : R = 0
    · have HE2 : Hid (E = if beE h.2.2.1 (prevAt l k) p = 0 then enE (l.drop (k + 1)).isEmpty p else beE h.2.2.1 (prevAt l k) p) := Lib.hid (by rw [HE1.out, if_pos k2])
      subst k2
      clear HE1
      obtain ⟨B, hB⟩ : ∃ B, beE h.2.2.1 (prevAt l k) p = B := ⟨_, rfl⟩
      rw [hB] at HE2
      have HBB := Lib.hid hB
      clear hB
      -- the beginning: meets again where it is none
      have c0 : w4.cell? ⟨w.heap.size + 1, 0, none⟩ = some (.string p.1) := hL.cell 0
      have c1 : w4.cell? ⟨w.heap.size + 1, 1, none⟩ = some (.int .i64 p.2.1.1) := hL.cell 1
      have c2 : w4.cell? ⟨w.heap.size + 1, 2, none⟩ = some (.string p.2.1.2.1) := hL.cell 2
      have d2 : w4.cell? ⟨w.heap.size, 2, none⟩ = some (.int .i64 h.2.2.1) := hH.cell 2
      have d4 : w4.cell? ⟨w.heap.size, 4, none⟩ = some (.slice (some ⟨bb, bo, none⟩) l.length cap) := hH.cell 4
      go_upto_if 25 with fail
      go_cut [] from 26 (fun w5 => B = 0 ∧ Bk w5 (w.heap.size + 1) 111 (lgC p) ∧ Bk w5 w.heap.size 61 #[.string h.1, .string h.2.1, .int .i64 h.2.2.1, .int .i64 h.2.2.2, .slice (some ⟨bb, bo, none⟩) l.length cap] ∧ G w w5 none)
      case first =>
        cases k with
        | zero =>
          by_cases hq : p.2.1.1 = h.2.2.1
          · have HF : Hid (B = 0) := Lib.hid (by rw [← HBB.out]; exact if_pos hq)
            go_wp2_with fail
            go_meet
            case rel => exact ⟨HF.out, hL, hH, hG⟩
          · have hB : B = 7 := by rw [← HBB.out]; exact if_neg hq
            have HF : Hid (E = 7) := Lib.hid (by rw [HE2.out, hB, if_neg (by decide)])
            clear hB
            go_wp2_with fail
            go_ret
            exact ⟨ret_int HF.out.symm, hG⟩
        | succ m =>
          obtain ⟨q, hq2⟩ : ∃ q, l[m]? = some q := ⟨_, List.getElem?_eq_getElem (by omega)⟩
          have HA : Hid (B = if p.2.1.1 = q.2.2.1 then (if p.1 = q.1 then 16 else if p.2.1.2.1 = q.2.2.2.1 then 0 else 8) else 7) := Lib.hid (by rw [← HBB.out, prevAt_succ l m q hq2]; rfl)
          have hsub : IntKind.i64.wrap (((m + 1 : Nat) : Int) - 1) = (m : Int) := by rw [show ((m + 1 : Nat) : Int) - 1 = (m : Int) by omega]; rw [IntKind.wrap_i64]; omega
          have hsub2 : IntKind.i64.wrap (m : Int) = (m : Int) := by rw [IntKind.wrap_i64]; omega
          have hsub3 : IntKind.i64.wrap ((m : Int) + 1 - 1) = (m : Int) := by rw [IntKind.wrap_i64]; omega
          have hm0 : (0 : Int) ≤ (m : Int) := Int.natCast_nonneg m
          have hml : (m : Int) < (l.length : Int) := by omega
          have hne : (((m + 1 : Nat) : Int) == 0) = false := by simp; omega
          have hne2 : ((m : Int) + 1 == 0) = false := by simp; omega
          have HW := Lib.hid (lgRow hR (G.refl _ none) hq2)
          have hHH := Lib.hid hH
          clear HBB hq2 c0 c1 c2 d2 hH
          go_upto_region 11 with (refine wpList_load_at rfl 111 _ rfl ⟨bb, bo + m * 9, none⟩ rfl #[.string q.1, .int .i64 q.2.1.1, .string q.2.1.2.1, .int .i64 q.2.1.2.2.1, .int .i64 q.2.1.2.2.2, .int .i64 q.2.2.1, .string q.2.2.2.1, .int .i64 q.2.2.2.2.1, .int .i64 q.2.2.2.2.2] _ HW.out Tryd.underlying111 rfl (lg_info q) ?_)
          have hQ := Bk.new w4 111 (lgC q)
          have hG := hG.alloc (.cells (lgC q) 111)
          have hL := hL.alloc (.cells (lgC q) 111)
          have hH := hHH.out.alloc (.cells (lgC q) 111)
          rw [show #[.string q.1, .int .i64 q.2.1.1, .string q.2.1.2.1, .int .i64 q.2.1.2.2.1, .int .i64 q.2.1.2.2.2, .int .i64 q.2.2.1, .string q.2.2.2.1, .int .i64 q.2.2.2.2.1, .int .i64 q.2.2.2.2.2] = lgC q from rfl]
          generalize w4.alloc (.cells (lgC q) 111) = w3 at hQ hG hL hH ⊢
          generalize w4.heap.size = g at hQ ⊢
          have c0 : w3.cell? ⟨w.heap.size + 1, 0, none⟩ = some (.string p.1) := hL.cell 0
          have c1 : w3.cell? ⟨w.heap.size + 1, 1, none⟩ = some (.int .i64 p.2.1.1) := hL.cell 1
          have c2 : w3.cell? ⟨w.heap.size + 1, 2, none⟩ = some (.string p.2.1.2.1) := hL.cell 2
          have q0 : w3.cell? ⟨g, 0, none⟩ = some (.string q.1) := hQ.cell 0
          have q5 : w3.cell? ⟨g, 5, none⟩ = some (.int .i64 q.2.2.1) := hQ.cell 5
          have q6 : w3.cell? ⟨g, 6, none⟩ = some (.string q.2.2.2.1) := hQ.cell 6
          clear hQ d4
          by_cases k1 : p.2.1.1 = q.2.2.1
          · have HA1 : Hid (B = if p.1 = q.1 then 16 else if p.2.1.2.1 = q.2.2.2.1 then 0 else 8) := Lib.hid (by rw [HA.out, if_pos k1])
            have k1' : (p.2.1.1 != q.2.2.1) = false := by simpa using k1
            clear k1 HA
            by_cases k2 : p.1 = q.1
            · have hB : B = 16 := by rw [HA1.out, if_pos k2]
              have k2' : (p.1.toList == q.1.toList) = true := by rw [k2]; simp
              clear k2
              have HF : Hid (E = 16) := Lib.hid (by rw [HE2.out, hB, if_neg (by decide)])
              clear hB
              go_wp2_with fail
              go_ret
              exact ⟨ret_int HF.out.symm, hG⟩
            · have HA2 : Hid (B = if p.2.1.2.1 = q.2.2.2.1 then 0 else 8) := Lib.hid (by rw [HA1.out, if_neg k2])
              have k2' : (p.1.toList == q.1.toList) = false := by simpa using fun e => k2 (toList_ext e)
              clear k2 HA1
              by_cases k3 : p.2.1.2.1 = q.2.2.2.1
              · have HF : Hid (B = 0) := Lib.hid (by rw [HA2.out, if_pos k3])
                have k3' : (p.2.1.2.1.toList == q.2.2.2.1.toList) = true := by rw [k3]; simp
                have k3n : (p.2.1.2.1.toList != q.2.2.2.1.toList) = false := by rw [k3]; simp
                clear k3
                go_wp2_with fail
                go_meet
                case rel => exact ⟨HF.out, hL, hH, hG⟩
              · have hB : B = 8 := by rw [HA2.out, if_neg k3]
                have k3' : (p.2.1.2.1.toList == q.2.2.2.1.toList) = false := by simpa using fun e => k3 (toList_ext e)
                have k3n : (p.2.1.2.1.toList != q.2.2.2.1.toList) = true := by simpa using fun e => k3 (toList_ext e)
                clear k3
                have HF : Hid (E = 8) := Lib.hid (by rw [HE2.out, hB, if_neg (by decide)])
                clear hB
                go_wp2_with fail
                go_ret
                exact ⟨ret_int HF.out.symm, hG⟩
          · have hB : B = 7 := by rw [HA.out, if_neg k1]
            have k1' : (p.2.1.1 != q.2.2.1) = true := by simpa using k1
            clear k1
            have HF : Hid (E = 7) := Lib.hid (by rw [HE2.out, hB, if_neg (by decide)])
            clear hB
            go_wp2_with fail
            go_ret
            exact ⟨ret_int HF.out.symm, hG⟩
      case rest =>
        obtain ⟨hB0, hL, hH, hG⟩ := hcut
        have HE : Hid (E = if p.2.2.1 = -1 then (if p.2.2 = noIn then (if decide (l.length ≤ k + 1) = true then 0 else 11) else 3) else if rgE p.2.2 = 0 then (if p.2.2.1 ≤ p.2.1.1 then 7 else 0) else rgE p.2.2) := Lib.hid (by rw [HE2.out, if_pos hB0, drop_empty]; rfl)
        clear hB0 HE2 HBB c0 c1 c2 d2 d4 hR
        generalize wc = w3 at hL hH hG ⊢
        have HP := Lib.hid (hL.part 5 #[.int .i64 p.2.2.1, .string p.2.2.2.1, .int .i64 p.2.2.2.2.1, .int .i64 p.2.2.2.2.2] (lg_in p))
        have c1 : w3.cell? ⟨w.heap.size + 1, 1, none⟩ = some (.int .i64 p.2.1.1) := hL.cell 1
        have c5 : w3.cell? ⟨w.heap.size + 1, 5, none⟩ = some (.int .i64 p.2.2.1) := hL.cell 5
        have d4 : w3.cell? ⟨w.heap.size, 4, none⟩ = some (.slice (some ⟨bb, bo, none⟩) l.length cap) := hH.cell 4
        clear hH
        by_cases k1 : p.2.2.1 = -1
        · have k1' : (p.2.2.1 == -1) = true := by simpa using k1
          have HN := fun w : World => rg_neq p.2.2 noIn w
          by_cases k2 : p.2.2 = noIn
          · have HNN : Hid (∀ w : World, (binOp .neq 57 (.agg #[.int .i64 p.2.2.1, .string p.2.2.2.1, .int .i64 p.2.2.2.2.1, .int .i64 p.2.2.2.2.2]) (.agg #[.int .i64 (-1), .string ⟨#[]⟩, .int .i64 0, .int .i64 0])).run Tryd.prog w = .ok (.bool false) w) := Lib.hid fun w => by
              have := HN w
              rw [decide_eq_true k2] at this
              exact this
            have hnn := HNN.out
            have HE : Hid (E = if decide (l.length ≤ k + 1) = true then 0 else 11) := Lib.hid (by rw [HE.out, if_pos k1, if_pos k2])
            have hl1 : IntKind.i64.wrap ((l.length : Int) - 1) = (l.length : Int) - 1 := by rw [IntKind.wrap_i64]; omega
            clear k1 k2 HN HNN
            by_cases k3 : l.length ≤ k + 1
            · have HF : Hid (E = 0) := Lib.hid (by rw [HE.out, if_pos (decide_eq_true k3)])
              have k3' : ¬ ((k : Int) < (l.length : Int) - 1) := by omega
              clear k3
              go_wp2_with (refine wpList_load_at rfl 57 _ rfl ⟨w.heap.size + 1, 5, none⟩ rfl #[.int .i64 p.2.2.1, .string p.2.2.2.1, .int .i64 p.2.2.2.2.1, .int .i64 p.2.2.2.2.2] _ HP.out Tryd.underlying57 rfl (rg_info p.2.2) ?_)
              go_ret
              exact ⟨ret_int HF.out.symm, hG⟩
            · have HF : Hid (E = 11) := Lib.hid (by rw [HE.out, if_neg (by simpa using k3)])
              have k3' : (k : Int) < (l.length : Int) - 1 := by omega
              clear k3
              go_wp2_with (refine wpList_load_at rfl 57 _ rfl ⟨w.heap.size + 1, 5, none⟩ rfl #[.int .i64 p.2.2.1, .string p.2.2.2.1, .int .i64 p.2.2.2.2.1, .int .i64 p.2.2.2.2.2] _ HP.out Tryd.underlying57 rfl (rg_info p.2.2) ?_)
              go_ret
              exact ⟨ret_int HF.out.symm, hG⟩
          · have HNN : Hid (∀ w : World, (binOp .neq 57 (.agg #[.int .i64 p.2.2.1, .string p.2.2.2.1, .int .i64 p.2.2.2.2.1, .int .i64 p.2.2.2.2.2]) (.agg #[.int .i64 (-1), .string ⟨#[]⟩, .int .i64 0, .int .i64 0])).run Tryd.prog w = .ok (.bool true) w) := Lib.hid fun w => by
              have := HN w
              rw [decide_eq_false k2] at this
              exact this
            have hnn := HNN.out
            have HF : Hid (E = 3) := Lib.hid (by rw [HE.out, if_pos k1, if_neg k2])
            clear HE k1 k2 HN HNN
            go_wp2_with (refine wpList_load_at rfl 57 _ rfl ⟨w.heap.size + 1, 5, none⟩ rfl #[.int .i64 p.2.2.1, .string p.2.2.2.1, .int .i64 p.2.2.2.2.1, .int .i64 p.2.2.2.2.2] _ HP.out Tryd.underlying57 rfl (rg_info p.2.2) ?_)
            go_ret
            exact ⟨ret_int HF.out.symm, hG⟩
        · have k1' : (p.2.2.1 == -1) = false := by simpa using k1
          have HE : Hid (E = if rgE p.2.2 = 0 then (if p.2.2.1 ≤ p.2.1.1 then 7 else 0) else rgE p.2.2) := Lib.hid (by rw [HE.out, if_neg k1])
          clear k1
          go_wp2_with (refine wpList_load_at rfl 57 _ rfl ⟨w.heap.size + 1, 5, none⟩ rfl #[.int .i64 p.2.2.1, .string p.2.2.2.1, .int .i64 p.2.2.2.2.1, .int .i64 p.2.2.2.2.2] _ HP.out Tryd.underlying57 rfl (rg_info p.2.2) ?_)
          refine (readingFault_c p.2.2 _ hs3).mono ?_; rintro e w4 ⟨rfl, hG4⟩
          have hL := hL.quiet hG4
          have hG := hG.trans hG4
          clear hG4 c1 c5 d4 HP
          have c1 : w4.cell? ⟨w.heap.size + 1, 1, none⟩ = some (.int .i64 p.2.1.1) := hL.cell 1
          have c5 : w4.cell? ⟨w.heap.size + 1, 5, none⟩ = some (.int .i64 p.2.2.1) := hL.cell 5
          obtain ⟨R, hR⟩ : ∃ R, rgE p.2.2 = R := ⟨_, rfl⟩
          rw [hR] at HE ⊢
          clear hR
          by_cases k2 : R = 0
          · have HE5 : Hid (E = if p.2.2.1 ≤ p.2.1.1 then 7 else 0) := Lib.hid (by rw [HE.out, if_pos k2])
            subst k2
            by_cases k3 : p.2.2.1 ≤ p.2.1.1
            · have HF : Hid (E = 7) := Lib.hid (by rw [HE5.out, if_pos k3])
              go_wp2_with fail
              go_ret
              exact ⟨ret_int HF.out.symm, hG⟩
            · have HF : Hid (E = 0) := Lib.hid (by rw [HE5.out, if_neg k3])
              go_wp2_with fail
              go_ret
              exact ⟨ret_int HF.out.symm, hG⟩
          · have HF : Hid (E = R) := Lib.hid (by rw [HE.out, if_neg k2])
            have k2' : (R != 0) = true := by simpa using k2
            clear k2
            go_wp2_with fail
            go_ret
            exact ⟨ret_int HF.out.symm, hG⟩
    · have HF : Hid (E = R) := Lib.hid (by rw [HE1.out, if_neg k2])
      have k2' : (R != 0) = true := by simpa using k2
      clear k2 HE1
      go_wp2_with fail
      go_ret
      exact ⟨ret_int HF.out.symm, hG⟩
set_option maxRecDepth 100000 in
set_option maxHeartbeats 4000000 in
theorem hireFault_c (h : Hh) (v : Value) (l : List Lg) (w : World) (hr : RdR w 9 lgC v l) (hl : LgOk l) (hs1 : Small h.1) (hs2 : Small h.2.1) (hb1 : bnd h.2.2.1) (hb2 : bnd h.2.2.2) (hn : l.length ≤ 1000) :
    Calls Tryd.prog 101 #[.agg (hiC h v)] w fun e w' => e = .returned (.int .i64 (hiE h l)) ∧ G w w' none := by
  have hH := Bk.new w 61 (hiC h v)
  have hG := (G.refl w none).alloc (.cells (hiC h v) 61)
  have hR := hr.quiet hG
  obtain ⟨a, cap, rfl, hcap, hm⟩ := RdR.form hr
  clear hr
  unfold Small at hs1 hs2
  obtain ⟨E, hE⟩ : ∃ E, hiE h l = E := ⟨_, rfl⟩
  have HE : Hid (E = if keyB h.1 = false then 5 else if keyB h.2.1 = false then 5 else if tE h.2.2.1 h.2.2.2 = 0 then (if l.length = 0 then 3 else if 20 < l.length then 2 else lsE h.2.2.1 none l) else tE h.2.2.1 h.2.2.2) := Lib.hid hE.symm
  rw [hE]
  clear hE
  simp only [hiC] at hH hG hR ⊢
  go_enter Tryd.func101, Tryd.ntmps101
  go_upto_region 1 with fail
  generalize w.alloc (.cells #[.string h.1, .string h.2.1, .int .i64 h.2.2.1, .int .i64 h.2.2.2, .slice a l.length cap] 61) = w2 at hG hH hR ⊢
  have hg := hH.lt
  generalize w.heap.size = g at hH hg ⊢
  have c0 : w2.cell? ⟨g, 0, none⟩ = some (.string h.1) := hH.cell 0
  have c1 : w2.cell? ⟨g, 1, none⟩ = some (.string h.2.1) := hH.cell 1
  go_wp2_with fail
  refine (rkey_c _ _ hs1).mono ?_; rintro e w' ⟨rfl, hGk⟩
  have hH := hH.quiet hGk
  have hR := hR.quiet hGk
  have hG := hG.trans hGk
  clear hGk c0 c1
  have c1 : w'.cell? ⟨g, 1, none⟩ = some (.string h.2.1) := hH.cell 1
  cases k1 : keyB h.1 with
  | false =>
    have HF : Hid (E = 5) := Lib.hid (by rw [HE.out, if_pos k1])
    clear k1
    go_wp2_with fail
    go_ret
    exact ⟨ret_int HF.out.symm, hG⟩
  | true =>
    have K1 := Lib.hid k1
    clear k1
    go_wp2_with fail
    refine (rkey_c _ _ hs2).mono ?_; rintro e w4 ⟨rfl, hGk⟩
    have hH := hH.quiet hGk
    have hR := hR.quiet hGk
    have hG := hG.trans hGk
    clear hGk c1
    cases k2 : keyB h.2.1 with
    | false =>
      have HF : Hid (E = 5) := Lib.hid (by rw [HE.out, if_neg (by simp [K1.out]), if_pos k2])
      clear k2
      go_wp2_with fail
      go_ret
      exact ⟨ret_int HF.out.symm, hG⟩
    | true =>
      have HE1 : Hid (E = if tE h.2.2.1 h.2.2.2 = 0 then (if l.length = 0 then 3 else if 20 < l.length then 2 else lsE h.2.2.1 none l) else tE h.2.2.1 h.2.2.2) := Lib.hid (by rw [HE.out, if_neg (by simp [K1.out]), if_neg (by simp [k2])])
      clear k2 HE
      have HT := Lib.hid (hH.part 2 #[.int .i64 h.2.2.1, .int .i64 h.2.2.2] (hi_time h _))
      go_wp2_with (refine wpList_load_at rfl 31 _ rfl ⟨g, 2, none⟩ rfl #[.int .i64 h.2.2.1, .int .i64 h.2.2.2] _ HT.out Tryd.underlying31 rfl (wi_info _ _) ?_)
      refine (timeFault_c _ _ _ hb1 hb2).mono ?_; rintro e w3 ⟨rfl, hG3⟩
      have hH := hH.quiet hG3
      have hR := hR.quiet hG3
      have hG := hG.trans hG3
      clear hG3 HT
      obtain ⟨T, hT⟩ : ∃ T, tE h.2.2.1 h.2.2.2 = T := ⟨_, rfl⟩
      rw [hT] at HE1 ⊢
      clear hT
      by_cases k3 : T = 0
      · have HE2 : Hid (E = if l.length = 0 then 3 else if 20 < l.length then 2 else lsE h.2.2.1 none l) := Lib.hid (by rw [HE1.out, if_pos k3])
        subst k3
        clear HE1
        have c4 : w3.cell? ⟨g, 4, none⟩ = some (.slice a l.length cap) := hH.cell 4
        by_cases k4 : l.length = 0
        · have HF : Hid (E = 3) := Lib.hid (by rw [HE2.out, if_pos k4])
          have k4' : ((l.length : Int) == 0) = true := by rw [k4]; rfl
          clear k4
          go_wp2_with fail
          go_ret
          exact ⟨ret_int HF.out.symm, hG⟩
        · have k4' : ((l.length : Int) == 0) = false := by rw [beq_eq_false_iff_ne]; omega
          by_cases k5 : 20 < l.length
          · have HF : Hid (E = 2) := Lib.hid (by rw [HE2.out, if_neg k4, if_pos k5])
            have k5' : (20 : Int) < (l.length : Int) := by omega
            clear k5 k4
            go_wp2_with fail
            go_ret
            exact ⟨ret_int HF.out.symm, hG⟩
          · have HE3 : Hid (E = lsE h.2.2.1 none l) := Lib.hid (by rw [HE2.out, if_neg k4, if_neg k5])
            have k5' : ¬ (20 : Int) < (l.length : Int) := by omega
            clear k5 k4 HE2
            have HHH := Lib.hid hH
            have HRR := Lib.hid hR
            clear hH hR
            go_wp2_with fail
            go_loopw [35] (LsRel w3 h.2.2.1 l) (fun i _ => l.length - (intOf i).toNat)
            case atStart => exact ⟨0, by omega, rfl, rfl, G.refl _ _⟩
            case round =>
              obtain ⟨k, hkl, rfl, heq, hGr⟩ := hrel
              have HEq := Lib.hid heq
              clear heq c4
              have hH := HHH.out.quiet hGr
              have hR := HRR.out.quiet hGr
              by_cases hk : k < l.length
              · obtain ⟨p, hp⟩ : ∃ p, l[k]? = some p := ⟨_, List.getElem?_eq_getElem hk⟩
                have hdrop : l.drop k = p :: l.drop (k + 1) := by rw [List.drop_eq_getElem_cons hk, ← (List.getElem?_eq_some_iff.1 hp).2]
                have HS : Hid (lsE h.2.2.1 none l = if lgE h.2.2.1 (prevAt l k) (l.drop (k + 1)).isEmpty p = 0 then lsE h.2.2.1 (some p) (l.drop (k + 1)) else lgE h.2.2.1 (prevAt l k) (l.drop (k + 1)).isEmpty p) := Lib.hid (by rw [HEq.out, hdrop]; rfl)
                have hpb := hl p (List.mem_of_getElem? hp)
                have HP := Lib.hid hp
                have HK := Lib.hid hk
                have hki : (k : Int) < (l.length : Int) := by omega
                clear hdrop hp
                go_wp2_with (refine wpList_load_row rfl 61 _ rfl g rfl 61 #[.string h.1, .string h.2.1, .int .i64 h.2.2.1, .int .i64 h.2.2.2, .slice a l.length cap] (0, 0) _ hH Tryd.underlying61 rfl (hi_info h _) ?_)
                refine (legFault_c h _ l k p _ hR HP.out hpb hn).mono ?_; rintro e w5 ⟨rfl, hG5⟩
                have hGr5 := hGr.trans hG5
                clear hG5 hGr hH hR hpb
                obtain ⟨L, hL⟩ : ∃ L, lgE h.2.2.1 (prevAt l k) (l.drop (k + 1)).isEmpty p = L := ⟨_, rfl⟩
                rw [hL] at HS ⊢
                clear hL
                by_cases k6 : L = 0
                · have HF : Hid (lsE h.2.2.1 none l = lsE h.2.2.1 (prevAt l (k + 1)) (l.drop (k + 1))) := Lib.hid (by rw [HS.out, if_pos k6, prevAt_succ l k p HP.out])
                  subst k6
                  clear HS
                  go_wp2_with fail
                  go_roundw
                  case rel => exact ⟨k + 1, by omega, by go_num, HF.out, hGr5⟩
                  case measure => have := HK.out; simp [intOf]; omega
                · have HF : Hid (E = L) := Lib.hid (by rw [HE3.out, HS.out, if_neg k6])
                  have k6' : (L != 0) = true := by simpa using k6
                  clear k6 HS
                  go_wp2_with fail
                  go_ret
                  exact ⟨ret_int HF.out.symm, hG.trans hGr5⟩
              · obtain rfl : k = l.length := by omega
                have HF : Hid (E = 0) := Lib.hid (by rw [HE3.out, HEq.out, List.drop_length]; rfl)
                go_wp2_with fail
                go_ret
                exact ⟨ret_int HF.out.symm, hG.trans hGr⟩
      · have HF : Hid (E = T) := Lib.hid (by rw [HE1.out, if_neg k3])
        have k3' : (T != 0) = true := by simpa using k3
        clear k3 HE1
        go_wp2_with fail
        go_ret
        exact ⟨ret_int HF.out.symm, hG⟩
end Go.Proofs.YtbieiefbgcgogaaDoor
