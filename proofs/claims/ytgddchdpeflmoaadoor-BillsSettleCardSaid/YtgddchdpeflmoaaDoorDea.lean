/- Deals: CheckDeal, DealFault. Written by gendea.py. -/
import Derived.Test.YtgddchdpeflmoaaDoorRow
import Derived.Test.YtgddchdpeflmoaaDoorErrs
import Derived.Test.YtgddchdpeflmoaaDoorRkey
namespace Go.Proofs.YtgddchdpeflmoaaDoor
open Go.RowKit

/-- A deal. -/
structure De where
  free : Int
  km : Int
  eighth : Int
  grace : Int
  hour : Int
  day : Int
  dep : Int
def deC (x : De) : Array Value := #[.int .i64 x.free, .int .i64 x.km, .int .i64 x.eighth, .int .i64 x.grace, .int .i64 x.hour, .int .i64 x.day, .int .i64 x.dep]
theorem deC_sz (x : De) : (deC x).size = 7 := rfl
theorem de_info (x : De) : (Tryd.prog.info? 27).map (·.size) = some (deC x).size := (by kernel_rfl : (Tryd.prog.info? 27).map (·.size) = some 7)
def deE (x : De) : Int := if inB x.free 0 10000 = false then 1 else if inB x.km 0 100000 = false then 1 else if inB x.eighth 0 100000 = false then 1 else if inB x.grace 0 1440 = false then 1 else if inB x.hour 0 1000000 = false then 1 else if inB x.day 0 1000000 = false then 1 else if inB x.dep 0 1000000 = false then 1 else 0
theorem deE_or (x : De) : deE x = 0 ∨ deE x = 1 := by
  unfold deE
  repeat' split
  all_goals simp
theorem deE_ok {x : De} (h : deE x = 0) : (0 ≤ x.free ∧ x.free ≤ 10000) ∧ (0 ≤ x.km ∧ x.km ≤ 100000) ∧ (0 ≤ x.eighth ∧ x.eighth ≤ 100000) ∧ (0 ≤ x.grace ∧ x.grace ≤ 1440) ∧ (0 ≤ x.hour ∧ x.hour ≤ 1000000) ∧ (0 ≤ x.day ∧ x.day ≤ 1000000) ∧ (0 ≤ x.dep ∧ x.dep ≤ 1000000) := by
  unfold deE at h
  repeat' split at h
  all_goals simp_all [inB]
set_option maxRecDepth 100000 in
set_option maxHeartbeats 4000000 in
theorem dealFault_c (x : De) (w : World) : Calls Tryd.prog 13 #[.agg (deC x)] w fun e w' => e = .returned (.int .i64 (deE x)) ∧ G w w' none := by
  obtain ⟨a0, a1, a2, a3, a4, a5, a6⟩ := x
  have H0 : Hid (deE ⟨a0, a1, a2, a3, a4, a5, a6⟩ = if inB a0 0 10000 = false then 1 else if inB a1 0 100000 = false then 1 else if inB a2 0 100000 = false then 1 else if inB a3 0 1440 = false then 1 else if inB a4 0 1000000 = false then 1 else if inB a5 0 1000000 = false then 1 else if inB a6 0 1000000 = false then 1 else 0) := Lib.hid rfl
  generalize deE ⟨a0, a1, a2, a3, a4, a5, a6⟩ = E at H0 ⊢
  rw [show deC ⟨a0, a1, a2, a3, a4, a5, a6⟩ = #[.int .i64 a0, .int .i64 a1, .int .i64 a2, .int .i64 a3, .int .i64 a4, .int .i64 a5, .int .i64 a6] from rfl]
  have hG : G w (w.alloc (.cells #[.int .i64 a0, .int .i64 a1, .int .i64 a2, .int .i64 a3, .int .i64 a4, .int .i64 a5, .int .i64 a6] 27)) none := (G.refl w none).alloc _
  go_enter Tryd.func13, Tryd.ntmps13
  go_wp2_with fail
  refine (in_c _ _ _ _).mono ?_; rintro e w' ⟨rfl, rfl⟩
  cases k0 : inB a0 0 10000 with
  | false =>
    have HF : Hid (E = 1) := Lib.hid (by rw [H0.out, if_pos k0])
    clear k0
    go_wp2_with fail
    go_ret
    exact ⟨ret_int HF.out.symm, hG⟩
  | true =>
    have H1 : Hid (E = if inB a1 0 100000 = false then 1 else if inB a2 0 100000 = false then 1 else if inB a3 0 1440 = false then 1 else if inB a4 0 1000000 = false then 1 else if inB a5 0 1000000 = false then 1 else if inB a6 0 1000000 = false then 1 else 0) := Lib.hid (by rw [H0.out, if_neg (by simp [k0])])
    clear k0 H0
    go_wp2_with fail
    refine (in_c _ _ _ _).mono ?_; rintro e w' ⟨rfl, rfl⟩
    cases k1 : inB a1 0 100000 with
    | false =>
      have HF : Hid (E = 1) := Lib.hid (by rw [H1.out, if_pos k1])
      clear k1
      go_wp2_with fail
      go_ret
      exact ⟨ret_int HF.out.symm, hG⟩
    | true =>
      have H2 : Hid (E = if inB a2 0 100000 = false then 1 else if inB a3 0 1440 = false then 1 else if inB a4 0 1000000 = false then 1 else if inB a5 0 1000000 = false then 1 else if inB a6 0 1000000 = false then 1 else 0) := Lib.hid (by rw [H1.out, if_neg (by simp [k1])])
      clear k1 H1
      go_wp2_with fail
      refine (in_c _ _ _ _).mono ?_; rintro e w' ⟨rfl, rfl⟩
      cases k2 : inB a2 0 100000 with
      | false =>
        have HF : Hid (E = 1) := Lib.hid (by rw [H2.out, if_pos k2])
        clear k2
        go_wp2_with fail
        go_ret
        exact ⟨ret_int HF.out.symm, hG⟩
      | true =>
        have H3 : Hid (E = if inB a3 0 1440 = false then 1 else if inB a4 0 1000000 = false then 1 else if inB a5 0 1000000 = false then 1 else if inB a6 0 1000000 = false then 1 else 0) := Lib.hid (by rw [H2.out, if_neg (by simp [k2])])
        clear k2 H2
        go_wp2_with fail
        refine (in_c _ _ _ _).mono ?_; rintro e w' ⟨rfl, rfl⟩
        cases k3 : inB a3 0 1440 with
        | false =>
          have HF : Hid (E = 1) := Lib.hid (by rw [H3.out, if_pos k3])
          clear k3
          go_wp2_with fail
          go_ret
          exact ⟨ret_int HF.out.symm, hG⟩
        | true =>
          have H4 : Hid (E = if inB a4 0 1000000 = false then 1 else if inB a5 0 1000000 = false then 1 else if inB a6 0 1000000 = false then 1 else 0) := Lib.hid (by rw [H3.out, if_neg (by simp [k3])])
          clear k3 H3
          go_wp2_with fail
          refine (in_c _ _ _ _).mono ?_; rintro e w' ⟨rfl, rfl⟩
          cases k4 : inB a4 0 1000000 with
          | false =>
            have HF : Hid (E = 1) := Lib.hid (by rw [H4.out, if_pos k4])
            clear k4
            go_wp2_with fail
            go_ret
            exact ⟨ret_int HF.out.symm, hG⟩
          | true =>
            have H5 : Hid (E = if inB a5 0 1000000 = false then 1 else if inB a6 0 1000000 = false then 1 else 0) := Lib.hid (by rw [H4.out, if_neg (by simp [k4])])
            clear k4 H4
            go_wp2_with fail
            refine (in_c _ _ _ _).mono ?_; rintro e w' ⟨rfl, rfl⟩
            cases k5 : inB a5 0 1000000 with
            | false =>
              have HF : Hid (E = 1) := Lib.hid (by rw [H5.out, if_pos k5])
              clear k5
              go_wp2_with fail
              go_ret
              exact ⟨ret_int HF.out.symm, hG⟩
            | true =>
              have H6 : Hid (E = if inB a6 0 1000000 = false then 1 else 0) := Lib.hid (by rw [H5.out, if_neg (by simp [k5])])
              clear k5 H5
              go_wp2_with fail
              refine (in_c _ _ _ _).mono ?_; rintro e w' ⟨rfl, rfl⟩
              cases k6 : inB a6 0 1000000 with
              | false =>
                have HF : Hid (E = 1) := Lib.hid (by rw [H6.out, if_pos k6])
                clear k6
                go_wp2_with fail
                go_ret
                exact ⟨ret_int HF.out.symm, hG⟩
              | true =>
                have H7 : Hid (E = 0) := Lib.hid (by rw [H6.out, if_neg (by simp [k6])])
                clear k6 H6
                go_wp2_with fail
                go_ret
                exact ⟨ret_int H7.out.symm, hG⟩
def deErr : List (Int × Int) → Int
  | [] => 0
  | p :: r => if inB p.1 0 p.2 = false then 1 else deErr r
def DeRel (w : World) (E : Int) (ns : List (Int × Int)) (i : Value) (wr : World) : Prop :=
  ∃ k : Nat, k ≤ 7 ∧ i = .int .i64 k ∧ E = deErr (ns.drop k) ∧ G w wr none
set_option maxRecDepth 100000 in
set_option maxHeartbeats 4000000 in
theorem checkDeal_c (x : De) (w : World) : Calls Tryd.prog 8 #[.agg (deC x)] w fun e w' => e = .returned (.int .i64 (deE x)) ∧ G w w' none := by
  obtain ⟨a0, a1, a2, a3, a4, a5, a6⟩ := x
  have H0 : Hid (deE ⟨a0, a1, a2, a3, a4, a5, a6⟩ = if inB a0 0 10000 = false then 1 else if inB a1 0 100000 = false then 1 else if inB a2 0 100000 = false then 1 else if inB a3 0 1440 = false then 1 else if inB a4 0 1000000 = false then 1 else if inB a5 0 1000000 = false then 1 else if inB a6 0 1000000 = false then 1 else 0) := Lib.hid rfl
  generalize deE ⟨a0, a1, a2, a3, a4, a5, a6⟩ = E at H0 ⊢
  rw [show deC ⟨a0, a1, a2, a3, a4, a5, a6⟩ = #[.int .i64 a0, .int .i64 a1, .int .i64 a2, .int .i64 a3, .int .i64 a4, .int .i64 a5, .int .i64 a6] from rfl]
  have hx : ∀ (k : Nat) (p : Int × Int), ([(a0, 10000), (a1, 100000), (a2, 100000), (a3, 1440), (a4, 1000000), (a5, 1000000), (a6, 1000000)] : List (Int × Int))[k]? = some p → ∀ w : World, (Instr.index 51 (.agg #[.int .i64 a0, .int .i64 10000, .int .i64 a1, .int .i64 100000, .int .i64 a2, .int .i64 100000, .int .i64 a3, .int .i64 1440, .int .i64 a4, .int .i64 1000000, .int .i64 a5, .int .i64 1000000, .int .i64 a6, .int .i64 1000000]) (.int .i64 k)).run Tryd.prog w = .ok (.agg #[.int .i64 p.1, .int .i64 p.2]) w := by
    intro k p h w
    rcases k with _ | _ | _ | _ | _ | _ | _ | k
    all_goals first | (cases h; done) | (cases h; kernel_rfl)
  have hE : E = deErr [(a0, 10000), (a1, 100000), (a2, 100000), (a3, 1440), (a4, 1000000), (a5, 1000000), (a6, 1000000)] := by
    rw [H0.out]
    rfl
  have hl : ([(a0, 10000), (a1, 100000), (a2, 100000), (a3, 1440), (a4, 1000000), (a5, 1000000), (a6, 1000000)] : List (Int × Int)).length = 7 := rfl
  have hG : G w ((w.alloc (.cells #[.int .i64 a0, .int .i64 a1, .int .i64 a2, .int .i64 a3, .int .i64 a4, .int .i64 a5, .int .i64 a6] 27)).alloc (.cells #[.int .i64 a0, .int .i64 10000, .int .i64 a1, .int .i64 100000, .int .i64 a2, .int .i64 100000, .int .i64 a3, .int .i64 1440, .int .i64 a4, .int .i64 1000000, .int .i64 a5, .int .i64 1000000, .int .i64 a6, .int .i64 1000000] 51)) none := ((G.refl w none).alloc _).alloc _
  go_enter Tryd.func8, Tryd.ntmps8
  go_wp2_with fail
  generalize (w.alloc (.cells #[.int .i64 a0, .int .i64 a1, .int .i64 a2, .int .i64 a3, .int .i64 a4, .int .i64 a5, .int .i64 a6] 27)).alloc (.cells #[.int .i64 a0, .int .i64 10000, .int .i64 a1, .int .i64 100000, .int .i64 a2, .int .i64 100000, .int .i64 a3, .int .i64 1440, .int .i64 a4, .int .i64 1000000, .int .i64 a5, .int .i64 1000000, .int .i64 a6, .int .i64 1000000] 51) = w2 at hG ⊢
  generalize (#[.int .i64 a0, .int .i64 10000, .int .i64 a1, .int .i64 100000, .int .i64 a2, .int .i64 100000, .int .i64 a3, .int .i64 1440, .int .i64 a4, .int .i64 1000000, .int .i64 a5, .int .i64 1000000, .int .i64 a6, .int .i64 1000000] : Array Value) = A at hx ⊢
  generalize ([(a0, 10000), (a1, 100000), (a2, 100000), (a3, 1440), (a4, 1000000), (a5, 1000000), (a6, 1000000)] : List (Int × Int)) = ns at hx hE hl
  clear H0
  go_loopw [29] (DeRel w E ns) (fun i _ => 7 - (intOf i).toNat)
  case atStart => exact ⟨0, by omega, rfl, hE, hG⟩
  case round =>
    obtain ⟨k, hk7, rfl, heq, hGr⟩ := hrel
    have HE := Lib.hid heq
    clear heq hE hG
    by_cases hk : k < 7
    · obtain ⟨p, hp⟩ : ∃ p, ns[k]? = some p := ⟨_, List.getElem?_eq_getElem (by omega)⟩
      have hdrop : ns.drop k = p :: ns.drop (k + 1) := by rw [List.drop_eq_getElem_cons (by omega), ← (List.getElem?_eq_some_iff.1 hp).2]
      have HS : Hid (E = if inB p.1 0 p.2 = false then 1 else deErr (ns.drop (k + 1))) := Lib.hid (by rw [HE.out, hdrop]; rfl)
      have hi := hx k p hp
      have hG5 := hGr.alloc (.cells #[.int .i64 p.1, .int .i64 p.2] 50)
      clear hx hp hdrop HE hGr
      have HK := Lib.hid hk
      obtain ⟨p0, p1⟩ := p
      dsimp only at hi HS hG5
      go_wp2_with fail
      refine (within_c _ _ _ _).mono ?_; rintro e w' ⟨rfl, rfl⟩
      cases k0 : inB p0 0 p1 with
      | false =>
        have HF : Hid (E = 1) := Lib.hid (by rw [HS.out, if_pos k0])
        clear k0
        go_wp2_with fail
        go_ret
        exact ⟨ret_int HF.out.symm, hG5⟩
      | true =>
        have HF : Hid (E = deErr (ns.drop (k + 1))) := Lib.hid (by rw [HS.out, if_neg (by simp [k0])])
        clear k0
        go_wp2_with fail
        go_roundw
        case rel => exact ⟨k + 1, by omega, by go_num, HF.out, hG5⟩
        case measure => have := HK.out; simp [intOf]; omega
    · obtain rfl : k = 7 := by omega
      have HF : Hid (E = 0) := Lib.hid (by rw [HE.out, ← hl, List.drop_length]; rfl)
      clear HE hx
      go_wp2_with fail
      go_ret
      exact ⟨ret_int HF.out.symm, hGr⟩
end Go.Proofs.YtgddchdpeflmoaaDoor
