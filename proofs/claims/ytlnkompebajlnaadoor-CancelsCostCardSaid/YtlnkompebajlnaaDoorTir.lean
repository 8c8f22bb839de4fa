/- Tiers: CheckTiers; the reference's TiersFault. -/
import Derived.Test.YtlnkompebajlnaaDoorBkf
import Derived.Test.YtlnkompebajlnaaDoorFee
namespace Go.Proofs.YtlnkompebajlnaaDoor
open Go.RowKit

/-- A tier: before, permille. -/
abbrev Ti := Int × Int
def tiC (x : Ti) : Array Value := #[.int .i64 x.1, .int .i64 x.2]
theorem tiC_sz (x : Ti) : (tiC x).size = 2 := rfl
theorem ti_info (x : Ti) : (Tryd.prog.info? 76).map (·.size) = some (tiC x).size := (by kernel_rfl : (Tryd.prog.info? 76).map (·.size) = some 2)
def TiOk (l : List Ti) : Prop := ∀ x ∈ l, bnd x.1 ∧ bnd x.2
def tiAfter (b : Option Ti) (x : Ti) : Bool := match b with | none => false | some y => decide (y.1 ≤ x.1) || decide (x.2 < y.2)
def tiErr : Option Ti → List Ti → Int
  | _, [] => 0
  | b, x :: r => if inB x.1 1 5761440 = false then 1 else if inB x.2 0 1000 = false then 1 else if tiAfter b x = true then 7 else tiErr (some x) r
def tiE (l : List Ti) : Int := if 10 < l.length then 2 else tiErr none l
def TiRel (w : World) (l : List Ti) (i : Value) (wr : World) : Prop :=
  ∃ k : Nat, k ≤ l.length ∧ i = .int .i64 k ∧ tiErr none l = tiErr (prevAt l k) (l.drop k) ∧ G w wr none
theorem tiRow {W w : World} {bb bo n cap : Nat} {l : List Ti} (h : RdR W 2 tiC (.slice (some ⟨bb, bo, none⟩) n cap) l) (hG : G W w none) {k : Nat} {p : Ti} (hp : l[k]? = some p) :
    ∀ j v, (tiC p).toList[j]? = some v → w.cell? ((⟨bb, bo + k * 2, none⟩ : Addr).add j) = some v := fun j v hv => by
  rw [add_at]
  exact RdR.cell tiC_sz h hG hp j v hv
set_option maxRecDepth 100000 in
set_option maxHeartbeats 4000000 in
theorem checkTiers_c (v : Value) (l : List Ti) (w : World) (hr : RdR w 2 tiC v l) (hn : l.length ≤ 1000) :
    Calls Tryd.prog 25 #[v] w fun e w' => e = .returned (.int .i64 (tiE l)) ∧ G w w' none := by
  have HR := Lib.hid hr
  obtain ⟨a, cap, rfl, hcap, hm⟩ := RdR.form hr
  clear hr
  by_cases h30 : 10 < l.length
  · have H := Lib.hid (show tiE l = 2 by simp [tiE, h30])
    go_enter Tryd.func25, Tryd.ntmps25
    go_wp2_with fail
    go_ret
    exact ⟨by rw [H.out]; rfl, G.refl _ _⟩
  · have H := Lib.hid (show tiE l = tiErr none l by simp [tiE, h30])
    go_enter Tryd.func25, Tryd.ntmps25
    go_wp2_with fail
    go_loopw [10] (TiRel w l) (fun i _ => l.length - (intOf i).toNat)
    case atStart => exact ⟨0, by omega, rfl, rfl, G.refl _ _⟩
    case round =>
      obtain ⟨k, hkl, rfl, heq, hG⟩ := hrel
      have HE := Lib.hid heq
      clear heq
      by_cases hk : k < l.length
      · obtain ⟨p, hp⟩ : ∃ p, l[k]? = some p := ⟨_, List.getElem?_eq_getElem hk⟩
        have hdrop : l.drop k = p :: l.drop (k + 1) := by rw [List.drop_eq_getElem_cons hk, ← (List.getElem?_eq_some_iff.1 hp).2]
        obtain ⟨bb, bo, rfl, hbb, _⟩ := RdR.elem tiC_sz HR.out hG hp
        have HW := Lib.hid (tiRow HR.out hG hp)
        have HP := Lib.hid hp
        have HS : Hid (tiErr (prevAt l k) (l.drop k) = if inB p.1 1 5761440 = false then 1 else if inB p.2 0 1000 = false then 1 else if tiAfter (prevAt l k) p = true then 7 else tiErr (some p) (l.drop (k + 1))) := Lib.hid (by rw [hdrop]; rfl)
        have hB5 := Bk.new wr 76 (tiC p)
        have hG5 := hG.alloc (.cells (tiC p) 76)
        clear hdrop hp hG
        go_wp2_with (refine wpList_load_at rfl 76 _ rfl ⟨bb, bo + k * 2, none⟩ rfl #[.int .i64 p.1, .int .i64 p.2] _ HW.out Tryd.underlying76 rfl (ti_info p) ?_)
        have hB5 : Bk (wr.alloc (.cells #[.int .i64 p.1, .int .i64 p.2] 76)) wr.heap.size 76 (tiC p) := hB5
        have hG5 : G w (wr.alloc (.cells #[.int .i64 p.1, .int .i64 p.2] 76)) none := hG5
        clear HW
        have hg5 := hB5.lt
        generalize wr.alloc (.cells #[.int .i64 p.1, .int .i64 p.2] 76) = w5 at hB5 hG5 hg5 ⊢
        generalize wr.heap.size = g at hB5 hg5 ⊢
        have c0 : w5.cell? ⟨g, 0, none⟩ = some (.int .i64 p.1) := hB5.cell 0
        have c1 : w5.cell? ⟨g, 1, none⟩ = some (.int .i64 p.2) := hB5.cell 1
        refine (within_c _ _ _ _).mono ?_; rintro e w' ⟨rfl, rfl⟩
        cases h1 : inB p.1 1 5761440 with
        | false =>
          have HF : Hid (tiE l = 1) := Lib.hid (by rw [H.out, HE.out, HS.out, if_pos h1])
          go_wp2_with fail
          go_ret
          exact ⟨by rw [HF.out]; rfl, hG5⟩
        | true =>
          have H1 := Lib.hid h1
          clear h1
          go_wp2_with fail
          refine (within_c _ _ _ _).mono ?_; rintro e w' ⟨rfl, rfl⟩
          cases h2 : inB p.2 0 1000 with
          | false =>
            have HF : Hid (tiE l = 1) := Lib.hid (by rw [H.out, HE.out, HS.out, if_neg (by simp [H1.out]), if_pos h2])
            go_wp2_with fail
            go_ret
            exact ⟨by rw [HF.out]; rfl, hG5⟩
          | true =>
            have HS2 : Hid (tiErr none l = if tiAfter (prevAt l k) p = true then 7 else tiErr (some p) (l.drop (k + 1))) := Lib.hid (by rw [HE.out, HS.out, if_neg (by simp [H1.out]), if_neg (by simp [h2])])
            clear h2 HS HE
            go_wp2_with fail
            cases k with
            | zero =>
              have HF : Hid (tiErr none l = tiErr (prevAt l (0 + 1)) (l.drop (0 + 1))) := Lib.hid (by rw [HS2.out, if_neg (by simp [prevAt, tiAfter]), prevAt_succ l 0 p HP.out])
              clear HS2
              go_quiet (fail)
              have hGq := hG5.drewN nq
              go_wp2_with fail
              go_roundw
              case rel => exact ⟨0 + 1, by omega, by go_num, HF.out, hGq⟩
              case measure => simp [intOf]; omega
            | succ m =>
              obtain ⟨q, hq2⟩ : ∃ q, l[m]? = some q := ⟨_, List.getElem?_eq_getElem (by omega)⟩
              have HA : Hid (tiAfter (prevAt l (m + 1)) p = (decide (q.1 ≤ p.1) || decide (p.2 < q.2))) := Lib.hid (by rw [prevAt_succ l m q hq2]; rfl)
              have hsub : IntKind.i64.wrap (((m + 1 : Nat) : Int) - 1) = (m : Int) := by rw [show ((m + 1 : Nat) : Int) - 1 = (m : Int) by omega]; rw [IntKind.wrap_i64]; omega
              have d0 := RdR.cell tiC_sz HR.out hG5 hq2 0 (.int .i64 q.1) rfl
              have d1 := RdR.cell tiC_sz HR.out hG5 hq2 1 (.int .i64 q.2) rfl
              have hsub2 : IntKind.i64.wrap (m : Int) = (m : Int) := by rw [IntKind.wrap_i64]; omega
              have hsub3 : IntKind.i64.wrap ((m : Int) + 1 - 1) = (m : Int) := by rw [IntKind.wrap_i64]; omega
              have hm0 : (0 : Int) ≤ (m : Int) := Int.natCast_nonneg m
              have hml : (m : Int) < (l.length : Int) := by omega
              simp only [Nat.add_zero] at d0
              clear hq2
              rcases (show q.1 ≤ p.1 ∨ (p.1 < q.1 ∧ p.2 < q.2) ∨ (p.1 < q.1 ∧ q.2 ≤ p.2) by omega) with t1 | ⟨t1, t2⟩ | ⟨t1, t2⟩
              · have HF : Hid (tiE l = 7) := Lib.hid (by rw [H.out, HS2.out, if_pos (by rw [HA.out, decide_eq_true t1]; rfl)])
                go_quiet (fail)
                have hGq := hG5.drewN nq
                go_wp2_with fail
                go_ret
                exact ⟨by rw [HF.out]; rfl, hGq⟩
              · have HF : Hid (tiE l = 7) := Lib.hid (by rw [H.out, HS2.out, if_pos (by rw [HA.out, decide_eq_true t2, Bool.or_true])])
                have hd : decide (q.1 ≤ p.1) = false := decide_eq_false (by omega)
                go_quiet (fail)
                have hGq := hG5.drewN nq
                go_wp2_with fail
                go_ret
                exact ⟨by rw [HF.out]; rfl, hGq⟩
              · have HF : Hid (tiErr none l = tiErr (prevAt l (m + 1 + 1)) (l.drop (m + 1 + 1))) := Lib.hid (by rw [HS2.out, if_neg (by rw [HA.out, decide_eq_false (show ¬ q.1 ≤ p.1 by omega), decide_eq_false (show ¬ p.2 < q.2 by omega)]; decide), prevAt_succ l (m + 1) p HP.out])
                have hd : decide (q.1 ≤ p.1) = false := decide_eq_false (by omega)
                have hd2 : decide (p.2 < q.2) = false := decide_eq_false (by omega)
                go_quiet (fail)
                have hGq := hG5.drewN nq
                go_wp2_with fail
                go_roundw
                case rel => exact ⟨m + 1 + 1, by omega, by go_num, HF.out, hGq⟩
                case measure => simp [intOf]; omega
      · obtain rfl : k = l.length := by omega
        have HE2 : Hid (tiE l = 0) := Lib.hid (by rw [H.out, HE.out, List.drop_length]; rfl)
        go_wp2_with fail
        go_ret
        exact ⟨by rw [HE2.out]; rfl, hG⟩
set_option maxRecDepth 100000 in
set_option maxHeartbeats 4000000 in
theorem tiersFault_c (v : Value) (l : List Ti) (w : World) (hr : RdR w 2 tiC v l) (hn : l.length ≤ 1000) :
    Calls Tryd.prog 24 #[v] w fun e w' => e = .returned (.int .i64 (tiE l)) ∧ G w w' none := by
  have HR := Lib.hid hr
  obtain ⟨a, cap, rfl, hcap, hm⟩ := RdR.form hr
  clear hr
  by_cases h30 : 10 < l.length
  · have H := Lib.hid (show tiE l = 2 by simp [tiE, h30])
    go_enter Tryd.func24, Tryd.ntmps24
    go_wp2_with fail
    go_ret
    exact ⟨by rw [H.out]; rfl, G.refl _ _⟩
  · have H := Lib.hid (show tiE l = tiErr none l by simp [tiE, h30])
    go_enter Tryd.func24, Tryd.ntmps24
    go_wp2_with fail
    go_loopw [10] (TiRel w l) (fun i _ => l.length - (intOf i).toNat)
    case atStart => exact ⟨0, by omega, rfl, rfl, G.refl _ _⟩
    case round =>
      obtain ⟨k, hkl, rfl, heq, hG⟩ := hrel
      have HE := Lib.hid heq
      clear heq
      by_cases hk : k < l.length
      · obtain ⟨p, hp⟩ : ∃ p, l[k]? = some p := ⟨_, List.getElem?_eq_getElem hk⟩
        have hdrop : l.drop k = p :: l.drop (k + 1) := by rw [List.drop_eq_getElem_cons hk, ← (List.getElem?_eq_some_iff.1 hp).2]
        obtain ⟨bb, bo, rfl, hbb, _⟩ := RdR.elem tiC_sz HR.out hG hp
        have HW := Lib.hid (tiRow HR.out hG hp)
        have HP := Lib.hid hp
        have HS : Hid (tiErr (prevAt l k) (l.drop k) = if inB p.1 1 5761440 = false then 1 else if inB p.2 0 1000 = false then 1 else if tiAfter (prevAt l k) p = true then 7 else tiErr (some p) (l.drop (k + 1))) := Lib.hid (by rw [hdrop]; rfl)
        have hB5 := Bk.new wr 76 (tiC p)
        have hG5 := hG.alloc (.cells (tiC p) 76)
        clear hdrop hp hG
        go_wp2_with (refine wpList_load_at rfl 76 _ rfl ⟨bb, bo + k * 2, none⟩ rfl #[.int .i64 p.1, .int .i64 p.2] _ HW.out Tryd.underlying76 rfl (ti_info p) ?_)
        have hB5 : Bk (wr.alloc (.cells #[.int .i64 p.1, .int .i64 p.2] 76)) wr.heap.size 76 (tiC p) := hB5
        have hG5 : G w (wr.alloc (.cells #[.int .i64 p.1, .int .i64 p.2] 76)) none := hG5
        clear HW
        have hg5 := hB5.lt
        generalize wr.alloc (.cells #[.int .i64 p.1, .int .i64 p.2] 76) = w5 at hB5 hG5 hg5 ⊢
        generalize wr.heap.size = g at hB5 hg5 ⊢
        have c0 : w5.cell? ⟨g, 0, none⟩ = some (.int .i64 p.1) := hB5.cell 0
        have c1 : w5.cell? ⟨g, 1, none⟩ = some (.int .i64 p.2) := hB5.cell 1
        refine (in_c _ _ _ _).mono ?_; rintro e w' ⟨rfl, rfl⟩
        cases h1 : inB p.1 1 5761440 with
        | false =>
          have HF : Hid (tiE l = 1) := Lib.hid (by rw [H.out, HE.out, HS.out, if_pos h1])
          go_wp2_with fail
          go_ret
          exact ⟨by rw [HF.out]; rfl, hG5⟩
        | true =>
          have H1 := Lib.hid h1
          clear h1
          go_wp2_with fail
          refine (in_c _ _ _ _).mono ?_; rintro e w' ⟨rfl, rfl⟩
          cases h2 : inB p.2 0 1000 with
          | false =>
            have HF : Hid (tiE l = 1) := Lib.hid (by rw [H.out, HE.out, HS.out, if_neg (by simp [H1.out]), if_pos h2])
            go_wp2_with fail
            go_ret
            exact ⟨by rw [HF.out]; rfl, hG5⟩
          | true =>
            have HS2 : Hid (tiErr none l = if tiAfter (prevAt l k) p = true then 7 else tiErr (some p) (l.drop (k + 1))) := Lib.hid (by rw [HE.out, HS.out, if_neg (by simp [H1.out]), if_neg (by simp [h2])])
            clear h2 HS HE
            go_wp2_with fail
            cases k with
            | zero =>
              have HF : Hid (tiErr none l = tiErr (prevAt l (0 + 1)) (l.drop (0 + 1))) := Lib.hid (by rw [HS2.out, if_neg (by simp [prevAt, tiAfter]), prevAt_succ l 0 p HP.out])
              clear HS2
              go_quiet (fail)
              have hGq := hG5.drewN nq
              go_wp2_with fail
              go_roundw
              case rel => exact ⟨0 + 1, by omega, by go_num, HF.out, hGq⟩
              case measure => simp [intOf]; omega
            | succ m =>
              obtain ⟨q, hq2⟩ : ∃ q, l[m]? = some q := ⟨_, List.getElem?_eq_getElem (by omega)⟩
              have HA : Hid (tiAfter (prevAt l (m + 1)) p = (decide (q.1 ≤ p.1) || decide (p.2 < q.2))) := Lib.hid (by rw [prevAt_succ l m q hq2]; rfl)
              have hsub : IntKind.i64.wrap (((m + 1 : Nat) : Int) - 1) = (m : Int) := by rw [show ((m + 1 : Nat) : Int) - 1 = (m : Int) by omega]; rw [IntKind.wrap_i64]; omega
              have d0 := RdR.cell tiC_sz HR.out hG5 hq2 0 (.int .i64 q.1) rfl
              have d1 := RdR.cell tiC_sz HR.out hG5 hq2 1 (.int .i64 q.2) rfl
              have hsub2 : IntKind.i64.wrap (m : Int) = (m : Int) := by rw [IntKind.wrap_i64]; omega
              have hsub3 : IntKind.i64.wrap ((m : Int) + 1 - 1) = (m : Int) := by rw [IntKind.wrap_i64]; omega
              have hm0 : (0 : Int) ≤ (m : Int) := Int.natCast_nonneg m
              have hml : (m : Int) < (l.length : Int) := by omega
              simp only [Nat.add_zero] at d0
              clear hq2
              rcases (show q.1 ≤ p.1 ∨ (p.1 < q.1 ∧ p.2 < q.2) ∨ (p.1 < q.1 ∧ q.2 ≤ p.2) by omega) with t1 | ⟨t1, t2⟩ | ⟨t1, t2⟩
              · have HF : Hid (tiE l = 7) := Lib.hid (by rw [H.out, HS2.out, if_pos (by rw [HA.out, decide_eq_true t1]; rfl)])
                go_quiet (fail)
                have hGq := hG5.drewN nq
                go_wp2_with fail
                go_ret
                exact ⟨by rw [HF.out]; rfl, hGq⟩
              · have HF : Hid (tiE l = 7) := Lib.hid (by rw [H.out, HS2.out, if_pos (by rw [HA.out, decide_eq_true t2, Bool.or_true])])
                have hd : decide (q.1 ≤ p.1) = false := decide_eq_false (by omega)
                go_quiet (fail)
                have hGq := hG5.drewN nq
                go_wp2_with fail
                go_ret
                exact ⟨by rw [HF.out]; rfl, hGq⟩
              · have HF : Hid (tiErr none l = tiErr (prevAt l (m + 1 + 1)) (l.drop (m + 1 + 1))) := Lib.hid (by rw [HS2.out, if_neg (by rw [HA.out, decide_eq_false (show ¬ q.1 ≤ p.1 by omega), decide_eq_false (show ¬ p.2 < q.2 by omega)]; decide), prevAt_succ l (m + 1) p HP.out])
                have hd : decide (q.1 ≤ p.1) = false := decide_eq_false (by omega)
                have hd2 : decide (p.2 < q.2) = false := decide_eq_false (by omega)
                go_quiet (fail)
                have hGq := hG5.drewN nq
                go_wp2_with fail
                go_roundw
                case rel => exact ⟨m + 1 + 1, by omega, by go_num, HF.out, hGq⟩
                case measure => simp [intOf]; omega
      · obtain rfl : k = l.length := by omega
        have HE2 : Hid (tiE l = 0) := Lib.hid (by rw [H.out, HE.out, List.drop_length]; rfl)
        go_wp2_with fail
        go_ret
        exact ⟨by rw [HE2.out]; rfl, hG⟩
end Go.Proofs.YtlnkompebajlnaaDoor
