/- Dea, Due, Dum, Wit, Clm, Axs, Chh, Str, Ovd, Cla. -/
import Derived.Test.YtdcofbciebkfkaaDoorZm1
import Derived.Test.YtdcofbciebkfkaaDoorZm2
import Derived.Test.YtdcofbciebkfkaaDoorZm3
import Derived.Laws.AppendOwnNone
import Derived.Deep.QuietTactic
import Derived.BigQuiet
/- Deals: CheckDeal, DealFault. Written by gendea.py. -/
namespace Go.Proofs.YtdcofbciebkfkaaDoor
open Go.RowKit

/-- A deal. -/
structure De where
  free : Int
  km : Int
  eighth : Int
  grace : Int
  hour : Int
  day : Int
  dep : Int
def deC (x : De) : Array Value := #[.int .i64 x.free, .int .i64 x.km, .int .i64 x.eighth, .int .i64 x.grace, .int .i64 x.hour, .int .i64 x.day, .int .i64 x.dep]
theorem deC_sz (x : De) : (deC x).size = 7 := rfl
theorem de_info (x : De) : (Tryd.prog.info? 27).map (·.size) = some (deC x).size := (by kernel_rfl : (Tryd.prog.info? 27).map (·.size) = some 7)
def deE (x : De) : Int := if inB x.free 0 10000 = false then 1 else if inB x.km 0 100000 = false then 1 else if inB x.eighth 0 100000 = false then 1 else if inB x.grace 0 1440 = false then 1 else if inB x.hour 0 1000000 = false then 1 else if inB x.day 0 1000000 = false then 1 else if inB x.dep 0 1000000 = false then 1 else 0
theorem deE_or (x : De) : deE x = 0 ∨ deE x = 1 := by
  unfold deE
  repeat' split
  all_goals simp
theorem deE_ok {x : De} (h : deE x = 0) : (0 ≤ x.free ∧ x.free ≤ 10000) ∧ (0 ≤ x.km ∧ x.km ≤ 100000) ∧ (0 ≤ x.eighth ∧ x.eighth ≤ 100000) ∧ (0 ≤ x.grace ∧ x.grace ≤ 1440) ∧ (0 ≤ x.hour ∧ x.hour ≤ 1000000) ∧ (0 ≤ x.day ∧ x.day ≤ 1000000) ∧ (0 ≤ x.dep ∧ x.dep ≤ 1000000) := by
  unfold deE at h
  repeat' split at h
  all_goals simp_all [inB]
set_option maxRecDepth 100000 in
set_option maxHeartbeats 4000000 in
theorem dealFault_c (x : De) (w : World) : Calls Tryd.prog 17 #[.agg (deC x)] w fun e w' => e = .returned (.int .i64 (deE x)) ∧ G w w' none := by
  obtain ⟨a0, a1, a2, a3, a4, a5, a6⟩ := x
  have H0 : Hid (deE ⟨a0, a1, a2, a3, a4, a5, a6⟩ = if inB a0 0 10000 = false then 1 else if inB a1 0 100000 = false then 1 else if inB a2 0 100000 = false then 1 else if inB a3 0 1440 = false then 1 else if inB a4 0 1000000 = false then 1 else if inB a5 0 1000000 = false then 1 else if inB a6 0 1000000 = false then 1 else 0) := Lib.hid rfl
  generalize deE ⟨a0, a1, a2, a3, a4, a5, a6⟩ = E at H0 ⊢
  rw [show deC ⟨a0, a1, a2, a3, a4, a5, a6⟩ = #[.int .i64 a0, .int .i64 a1, .int .i64 a2, .int .i64 a3, .int .i64 a4, .int .i64 a5, .int .i64 a6] from rfl]
  have hG : G w (w.alloc (.cells #[.int .i64 a0, .int .i64 a1, .int .i64 a2, .int .i64 a3, .int .i64 a4, .int .i64 a5, .int .i64 a6] 27)) none := (G.refl w none).alloc _
  go_enter Tryd.func17, Tryd.ntmps17
  go_wp2_with fail
  refine (in_c _ _ _ _).mono ?_; rintro e w' ⟨rfl, rfl⟩
  cases k0 : inB a0 0 10000 with
  | false =>
    have HF : Hid (E = 1) := Lib.hid (by rw [H0.out, if_pos k0])
    clear k0
    go_wp2_with fail
    go_ret
    exact ⟨ret_int HF.out.symm, hG⟩
  | true =>
    have H1 : Hid (E = if inB a1 0 100000 = false then 1 else if inB a2 0 100000 = false then 1 else if inB a3 0 1440 = false then 1 else if inB a4 0 1000000 = false then 1 else if inB a5 0 1000000 = false then 1 else if inB a6 0 1000000 = false then 1 else 0) := Lib.hid (by rw [H0.out, if_neg (by simp [k0])])
    clear k0 H0
    go_wp2_with fail
    refine (in_c _ _ _ _).mono ?_; rintro e w' ⟨rfl, rfl⟩
    cases k1 : inB a1 0 100000 with
    | false =>
      have HF : Hid (E = 1) := Lib.hid (by rw [H1.out, if_pos k1])
      clear k1
      go_wp2_with fail
      go_ret
      exact ⟨ret_int HF.out.symm, hG⟩
    | true =>
      have H2 : Hid (E = if inB a2 0 100000 = false then 1 else if inB a3 0 1440 = false then 1 else if inB a4 0 1000000 = false then 1 else if inB a5 0 1000000 = false then 1 else if inB a6 0 1000000 = false then 1 else 0) := Lib.hid (by rw [H1.out, if_neg (by simp [k1])])
      clear k1 H1
      go_wp2_with fail
      refine (in_c _ _ _ _).mono ?_; rintro e w' ⟨rfl, rfl⟩
      cases k2 : inB a2 0 100000 with
      | false =>
        have HF : Hid (E = 1) := Lib.hid (by rw [H2.out, if_pos k2])
        clear k2
        go_wp2_with fail
        go_ret
        exact ⟨ret_int HF.out.symm, hG⟩
      | true =>
        have H3 : Hid (E = if inB a3 0 1440 = false then 1 else if inB a4 0 1000000 = false then 1 else if inB a5 0 1000000 = false then 1 else if inB a6 0 1000000 = false then 1 else 0) := Lib.hid (by rw [H2.out, if_neg (by simp [k2])])
        clear k2 H2
        go_wp2_with fail
        refine (in_c _ _ _ _).mono ?_; rintro e w' ⟨rfl, rfl⟩
        cases k3 : inB a3 0 1440 with
        | false =>
          have HF : Hid (E = 1) := Lib.hid (by rw [H3.out, if_pos k3])
          clear k3
          go_wp2_with fail
          go_ret
          exact ⟨ret_int HF.out.symm, hG⟩
        | true =>
          have H4 : Hid (E = if inB a4 0 1000000 = false then 1 else if inB a5 0 1000000 = false then 1 else if inB a6 0 1000000 = false then 1 else 0) := Lib.hid (by rw [H3.out, if_neg (by simp [k3])])
          clear k3 H3
          go_wp2_with fail
          refine (in_c _ _ _ _).mono ?_; rintro e w' ⟨rfl, rfl⟩
          cases k4 : inB a4 0 1000000 with
          | false =>
            have HF : Hid (E = 1) := Lib.hid (by rw [H4.out, if_pos k4])
            clear k4
            go_wp2_with fail
            go_ret
            exact ⟨ret_int HF.out.symm, hG⟩
          | true =>
            have H5 : Hid (E = if inB a5 0 1000000 = false then 1 else if inB a6 0 1000000 = false then 1 else 0) := Lib.hid (by rw [H4.out, if_neg (by simp [k4])])
            clear k4 H4
            go_wp2_with fail
            refine (in_c _ _ _ _).mono ?_; rintro e w' ⟨rfl, rfl⟩
            cases k5 : inB a5 0 1000000 with
            | false =>
              have HF : Hid (E = 1) := Lib.hid (by rw [H5.out, if_pos k5])
              clear k5
              go_wp2_with fail
              go_ret
              exact ⟨ret_int HF.out.symm, hG⟩
            | true =>
              have H6 : Hid (E = if inB a6 0 1000000 = false then 1 else 0) := Lib.hid (by rw [H5.out, if_neg (by simp [k5])])
              clear k5 H5
              go_wp2_with fail
              refine (in_c _ _ _ _).mono ?_; rintro e w' ⟨rfl, rfl⟩
              cases k6 : inB a6 0 1000000 with
              | false =>
                have HF : Hid (E = 1) := Lib.hid (by rw [H6.out, if_pos k6])
                clear k6
                go_wp2_with fail
                go_ret
                exact ⟨ret_int HF.out.symm, hG⟩
              | true =>
                have H7 : Hid (E = 0) := Lib.hid (by rw [H6.out, if_neg (by simp [k6])])
                clear k6 H6
                go_wp2_with fail
                go_ret
                exact ⟨ret_int H7.out.symm, hG⟩
def deErr : List (Int × Int) → Int
  | [] => 0
  | p :: r => if inB p.1 0 p.2 = false then 1 else deErr r
def DeRel (w : World) (E : Int) (ns : List (Int × Int)) (i : Value) (wr : World) : Prop :=
  ∃ k : Nat, k ≤ 7 ∧ i = .int .i64 k ∧ E = deErr (ns.drop k) ∧ G w wr none
set_option maxRecDepth 100000 in
set_option maxHeartbeats 4000000 in
theorem checkDeal_c (x : De) (w : World) : Calls Tryd.prog 16 #[.agg (deC x)] w fun e w' => e = .returned (.int .i64 (deE x)) ∧ G w w' none := by
  obtain ⟨a0, a1, a2, a3, a4, a5, a6⟩ := x
  have H0 : Hid (deE ⟨a0, a1, a2, a3, a4, a5, a6⟩ = if inB a0 0 10000 = false then 1 else if inB a1 0 100000 = false then 1 else if inB a2 0 100000 = false then 1 else if inB a3 0 1440 = false then 1 else if inB a4 0 1000000 = false then 1 else if inB a5 0 1000000 = false then 1 else if inB a6 0 1000000 = false then 1 else 0) := Lib.hid rfl
  generalize deE ⟨a0, a1, a2, a3, a4, a5, a6⟩ = E at H0 ⊢
  rw [show deC ⟨a0, a1, a2, a3, a4, a5, a6⟩ = #[.int .i64 a0, .int .i64 a1, .int .i64 a2, .int .i64 a3, .int .i64 a4, .int .i64 a5, .int .i64 a6] from rfl]
  have hx : ∀ (k : Nat) (p : Int × Int), ([(a0, 10000), (a1, 100000), (a2, 100000), (a3, 1440), (a4, 1000000), (a5, 1000000), (a6, 1000000)] : List (Int × Int))[k]? = some p → ∀ w : World, (Instr.index 127 (.agg #[.int .i64 a0, .int .i64 10000, .int .i64 a1, .int .i64 100000, .int .i64 a2, .int .i64 100000, .int .i64 a3, .int .i64 1440, .int .i64 a4, .int .i64 1000000, .int .i64 a5, .int .i64 1000000, .int .i64 a6, .int .i64 1000000]) (.int .i64 k)).run Tryd.prog w = .ok (.agg #[.int .i64 p.1, .int .i64 p.2]) w := by
    intro k p h w
    rcases k with _ | _ | _ | _ | _ | _ | _ | k
    all_goals first | (cases h; done) | (cases h; kernel_rfl)
  have hE : E = deErr [(a0, 10000), (a1, 100000), (a2, 100000), (a3, 1440), (a4, 1000000), (a5, 1000000), (a6, 1000000)] := by
    rw [H0.out]
    rfl
  have hl : ([(a0, 10000), (a1, 100000), (a2, 100000), (a3, 1440), (a4, 1000000), (a5, 1000000), (a6, 1000000)] : List (Int × Int)).length = 7 := rfl
  have hG : G w ((w.alloc (.cells #[.int .i64 a0, .int .i64 a1, .int .i64 a2, .int .i64 a3, .int .i64 a4, .int .i64 a5, .int .i64 a6] 27)).alloc (.cells #[.int .i64 a0, .int .i64 10000, .int .i64 a1, .int .i64 100000, .int .i64 a2, .int .i64 100000, .int .i64 a3, .int .i64 1440, .int .i64 a4, .int .i64 1000000, .int .i64 a5, .int .i64 1000000, .int .i64 a6, .int .i64 1000000] 127)) none := ((G.refl w none).alloc _).alloc _
  go_enter Tryd.func16, Tryd.ntmps16
  go_wp2_with fail
  generalize (w.alloc (.cells #[.int .i64 a0, .int .i64 a1, .int .i64 a2, .int .i64 a3, .int .i64 a4, .int .i64 a5, .int .i64 a6] 27)).alloc (.cells #[.int .i64 a0, .int .i64 10000, .int .i64 a1, .int .i64 100000, .int .i64 a2, .int .i64 100000, .int .i64 a3, .int .i64 1440, .int .i64 a4, .int .i64 1000000, .int .i64 a5, .int .i64 1000000, .int .i64 a6, .int .i64 1000000] 127) = w2 at hG ⊢
  generalize (#[.int .i64 a0, .int .i64 10000, .int .i64 a1, .int .i64 100000, .int .i64 a2, .int .i64 100000, .int .i64 a3, .int .i64 1440, .int .i64 a4, .int .i64 1000000, .int .i64 a5, .int .i64 1000000, .int .i64 a6, .int .i64 1000000] : Array Value) = A at hx ⊢
  generalize ([(a0, 10000), (a1, 100000), (a2, 100000), (a3, 1440), (a4, 1000000), (a5, 1000000), (a6, 1000000)] : List (Int × Int)) = ns at hx hE hl
  clear H0
  go_loopw [29] (DeRel w E ns) (fun i _ => 7 - (intOf i).toNat)
  case atStart => exact ⟨0, by omega, rfl, hE, hG⟩
  case round =>
    obtain ⟨k, hk7, rfl, heq, hGr⟩ := hrel
    have HE := Lib.hid heq
    clear heq hE hG
    by_cases hk : k < 7
    · obtain ⟨p, hp⟩ : ∃ p, ns[k]? = some p := ⟨_, List.getElem?_eq_getElem (by omega)⟩
      have hdrop : ns.drop k = p :: ns.drop (k + 1) := by rw [List.drop_eq_getElem_cons (by omega), ← (List.getElem?_eq_some_iff.1 hp).2]
      have HS : Hid (E = if inB p.1 0 p.2 = false then 1 else deErr (ns.drop (k + 1))) := Lib.hid (by rw [HE.out, hdrop]; rfl)
      have hi := hx k p hp
      have hG5 := hGr.alloc (.cells #[.int .i64 p.1, .int .i64 p.2] 126)
      clear hx hp hdrop HE hGr
      have HK := Lib.hid hk
      obtain ⟨p0, p1⟩ := p
      dsimp only at hi HS hG5
      go_wp2_with fail
      refine (within_c _ _ _ _).mono ?_; rintro e w' ⟨rfl, rfl⟩
      cases k0 : inB p0 0 p1 with
      | false =>
        have HF : Hid (E = 1) := Lib.hid (by rw [HS.out, if_pos k0])
        clear k0
        go_wp2_with fail
        go_ret
        exact ⟨ret_int HF.out.symm, hG5⟩
      | true =>
        have HF : Hid (E = deErr (ns.drop (k + 1))) := Lib.hid (by rw [HS.out, if_neg (by simp [k0])])
        clear k0
        go_wp2_with fail
        go_roundw
        case rel => exact ⟨k + 1, by omega, by go_num, HF.out, hG5⟩
        case measure => have := HK.out; simp [intOf]; omega
    · obtain rfl : k = 7 := by omega
      have HF : Hid (E = 0) := Lib.hid (by rw [HE.out, ← hl, List.drop_length]; rfl)
      clear HE hx
      go_wp2_with fail
      go_ret
      exact ⟨ret_int HF.out.symm, hGr⟩
end Go.Proofs.YtdcofbciebkfkaaDoor

/- What is due: kmOf, missingOf; the sum for minutes. -/
namespace Go.Proofs.YtdcofbciebkfkaaDoor
open Go.RowKit

/-- How far a vehicle went in a leg; the fuel that is missing. -/
def kmL (x : Lg) : Int := (x.2.2.2.2.1 - x.2.1.2.2.1 + 1000000) % 1000000
def miL (x : Lg) : Int := max 0 (x.2.1.2.2.2 - x.2.2.2.2.2)
/-- What is due for so many minutes. -/
def lcN (x : De) (m : Int) : Int := if m ≤ x.grace then 0 else min (x.hour * ((m + 60 - 1) / 60)) (x.day * ((m + 1440 - 1) / 1440))
theorem begunP_c (m p : Int) (w : World) (h0 : 0 ≤ m) (h1 : m ≤ 1000000000) (h2 : 1 ≤ p) (h3 : p ≤ 1000000000) : Calls Tryd.prog 142 #[.int .i64 m, .int .i64 p] w fun e w' => e = .returned (.int .i64 ((m + p - 1) / p)) ∧ w = w' := by
  go_enter Tryd.func142, Tryd.ntmps142
  go_wp2_with fail
  go_ret
  exact ⟨rfl, rfl⟩
end Go.Proofs.YtdcofbciebkfkaaDoor

/- What is due: legs of a hire that has ended; sums over its legs. -/
namespace Go.Proofs.YtdcofbciebkfkaaDoor
open Go.RowKit

theorem rgE_ok {x : Rg} (h : rgE x = 0) : momB x.1 = true ∧ keyB x.2.1 = true ∧ (0 ≤ x.2.2.1 ∧ x.2.2.1 ≤ 999999) ∧ (0 ≤ x.2.2.2 ∧ x.2.2.2 ≤ 8) := by
  unfold rgE at h
  split at h
  · cases h
  split at h
  · cases h
  split at h
  · cases h
  split at h
  · cases h
  · next h1 h2 h3 h4 =>
    refine ⟨by simpa using h1, by simpa using h2, ?_, ?_⟩
    · simp [inB] at h3; omega
    · simp [inB] at h4; omega
theorem lgE_ok {f : Int} {b : Option Lg} {last : Bool} {x : Lg} (h : lgE f b last x = 0) : rgE x.2.1 = 0 ∧ beE f b x = 0 ∧ enE last x = 0 := by
  unfold lgE at h
  split at h
  · cases h
  split at h
  · next h1 =>
    split at h
    · next h2 => exact ⟨h1, h2, h⟩
    · contradiction
  · contradiction
theorem lsE_legs : ∀ (l : List Lg) (f : Int) (b : Option Lg), lsE f b l = 0 → ∀ (k : Nat) (x : Lg), l[k]? = some x → rgE x.2.1 = 0 ∧ enE (decide (k + 1 = l.length)) x = 0
  | [], _, _, _, _, _, h => by simp at h
  | y :: r, f, b, h, k, x, hx => by
    unfold lsE at h
    split at h
    · next h1 =>
      obtain ⟨a1, -, a3⟩ := lgE_ok h1
      cases k with
      | zero =>
        simp at hx
        subst hx
        refine ⟨a1, ?_⟩
        have e : decide (0 + 1 = (y :: r).length) = r.isEmpty := by cases r <;> simp
        rw [e]
        exact a3
      | succ k =>
        have := lsE_legs r f (some y) h k x (by simpa using hx)
        have e : decide (k + 1 + 1 = (y :: r).length) = decide (k + 1 = r.length) := by simp
        rw [e]
        exact this
    · contradiction
theorem hiE_ls {h : Hh} {l : List Lg} (e : hiE h l = 0) : lsE h.2.2.1 none l = 0 ∧ tE h.2.2.1 h.2.2.2 = 0 := by
  unfold hiE at e
  split at e
  · cases e
  split at e
  · cases e
  split at e
  · next h3 =>
    split at e
    · cases e
    split at e
    · cases e
    · exact ⟨e, h3⟩
  · contradiction
/-- The readings of a hire that is right, and not open. -/
theorem ended_ok {h : Hh} {l : List Lg} (e : hiE h l = 0) (ho : ioB l = false) : ∀ x ∈ l, rgE x.2.1 = 0 ∧ rgE x.2.2 = 0 := by
  intro x hx
  obtain ⟨k, hk⟩ := List.mem_iff_getElem?.1 hx
  obtain ⟨h1, h2⟩ := lsE_legs l _ _ (hiE_ls e).1 k x hk
  refine ⟨h1, ?_⟩
  unfold enE at h2
  split at h2
  · next h3 =>
    split at h2
    · split at h2
      · next h4 =>
        have h5 : k = l.length - 1 := by have := of_decide_eq_true h4; omega
        subst h5
        unfold ioB at ho
        rw [hk] at ho
        simp [h3] at ho
      · cases h2
    · cases h2
  · split at h2
    · assumption
    · contradiction
def kmS (l : List Lg) : Int := (l.map kmL).sum
def miS (l : List Lg) : Int := (l.map miL).sum
theorem sum_step {α : Type} (f : α → Int) (l : List α) (k : Nat) (p : α) (hp : l[k]? = some p) : ((l.take (k + 1)).map f).sum = ((l.take k).map f).sum + f p := by
  rw [List.take_add_one, hp]
  simp
theorem sum_bnd {α : Type} (f : α → Int) (B : Int) (l : List α) (hb : ∀ x ∈ l, 0 ≤ f x ∧ f x ≤ B) : 0 ≤ (l.map f).sum ∧ (l.map f).sum ≤ B * (l.length : Int) := by
  induction l with
  | nil => simp
  | cons a r ih =>
    obtain ⟨h1, h2⟩ := ih (fun x hx => hb x (List.mem_cons_of_mem _ hx))
    obtain ⟨h3, h4⟩ := hb a List.mem_cons_self
    simp only [List.map_cons, List.sum_cons, List.length_cons]
    have e : B * ((r.length + 1 : Nat) : Int) = B * (r.length : Int) + B := by rw [Int.natCast_add, Int.mul_add]; simp
    rw [e]
    omega
theorem sum_take {α : Type} (f : α → Int) (B : Int) (l : List α) (hb : ∀ x ∈ l, 0 ≤ f x ∧ f x ≤ B) (hB : 0 ≤ B) (hB2 : B ≤ 1000000) (k : Nat) (hk : k ≤ 1000) : 0 ≤ ((l.take k).map f).sum ∧ ((l.take k).map f).sum ≤ 1000000000 := by
  obtain ⟨h1, h2⟩ := sum_bnd f B (l.take k) (fun x hx => hb x (List.mem_of_mem_take hx))
  have h3 : ((l.take k).length : Int) ≤ 1000 := by rw [List.length_take]; omega
  have h4 : B * ((l.take k).length : Int) ≤ 1000000 * 1000 := Int.mul_le_mul hB2 h3 (by omega) (by omega)
  omega
def HsuRel (w : World) (f : Lg → Int) (l : List Lg) (s i : Value) (wr : World) : Prop :=
  ∃ k : Nat, k ≤ l.length ∧ i = .int .i64 k ∧ s = .int .i64 ((l.take k).map f).sum ∧ G w wr none
end Go.Proofs.YtdcofbciebkfkaaDoor

/- With, HireWith. -/
namespace Go.Proofs.YtdcofbciebkfkaaDoor
open Go.RowKit

def wiAt (v : ByteArray) (t : Int) (l : List Lg) : Int := ixP (hasL v t) l 0
def IwRel (w : World) (l : List Lg) (v : ByteArray) (t : Int) (i : Value) (wr : World) : Prop :=
  ∃ k : Nat, k ≤ l.length ∧ i = .int .i64 k ∧ wiAt v t l = ixP (hasL v t) (l.drop k) k ∧ G w wr none
set_option maxRecDepth 100000 in
set_option maxHeartbeats 2000000 in
theorem indexW_c (u : Value) (l : List Lg) (v : ByteArray) (t : Int) (g1 g2 : Nat) (w : World) (hr : RdR w 9 lgC u l) (hn : l.length ≤ 1000) (hB : Bk w g1 9 #[.string v]) (hB2 : Bk w g2 3 #[.int .i64 t]) :
    Calls Tryd.prog 147 #[u, .func (.func 102) #[] #[.pointer (some ⟨g1, 0, none⟩), .pointer (some ⟨g2, 0, none⟩)]] w fun e w' => e = .returned (.int .i64 (wiAt v t l)) ∧ G w w' none := by
  have HR := Lib.hid hr
  obtain ⟨a, cap, rfl, hcap, hm⟩ := RdR.form hr
  clear hr
  go_enter Tryd.func147, Tryd.ntmps147
  go_wp2_with fail
  go_loopw [8] (IwRel w l v t) (fun i _ => l.length - (intOf i).toNat)
  case atStart => exact ⟨0, by omega, rfl, rfl, G.refl _ _⟩
  case round =>
    obtain ⟨k, hk, rfl, heq, hG⟩ := hrel
    have HE := Lib.hid heq
    clear heq
    by_cases hlt : k < l.length
    · obtain ⟨p, hp⟩ : ∃ p, l[k]? = some p := ⟨_, List.getElem?_eq_getElem hlt⟩
      have HD : Hid (wiAt v t l = if hasL v t p = true then (k : Int) else ixP (hasL v t) (l.drop (k + 1)) ((k : Int) + 1)) := Lib.hid (by
        rw [HE.out, List.drop_eq_getElem_cons hlt, (List.getElem?_eq_some_iff.1 hp).2]; rfl)
      obtain ⟨bb, bo, rfl, -, -⟩ := RdR.elem lgC_sz HR.out hG hp
      have HW := Lib.hid (lgRow HR.out hG hp)
      have HK := Lib.hid hlt
      clear hp
      go_wp2_with (refine wpList_load_at rfl 79 _ rfl ⟨bb, bo + k * 9, none⟩ rfl #[.string p.1, .int .i64 p.2.1.1, .string p.2.1.2.1, .int .i64 p.2.1.2.2.1, .int .i64 p.2.1.2.2.2, .int .i64 p.2.2.1, .string p.2.2.2.1, .int .i64 p.2.2.2.2.1, .int .i64 p.2.2.2.2.2] _ HW.out Tryd.underlying79 rfl (lg_info p) ?_)
      refine (with1_c p v t g1 g2 _ (hB.quiet hG) (hB2.quiet hG)).mono ?_; rintro e w1 ⟨rfl, hG1⟩
      cases he : hasL v t p with
      | true =>
        have HF : Hid (wiAt v t l = k) := Lib.hid (by rw [HD.out, if_pos he])
        clear he
        go_wp2_with fail
        go_ret
        exact ⟨ret_int HF.out.symm, hG.trans hG1⟩
      | false =>
        have HF : Hid (wiAt v t l = ixP (hasL v t) (l.drop (k + 1)) ((k + 1 : Nat) : Int)) := Lib.hid (by rw [HD.out, if_neg (by simp [he])]; rfl)
        clear he
        go_wp2_with fail
        go_roundw
        case rel => exact ⟨k + 1, by omega, by go_num, HF.out, hG.trans hG1⟩
        case measure => have := HK.out; simp [intOf]; omega
    · obtain rfl : k = l.length := by omega
      have HF : Hid (wiAt v t l = -1) := Lib.hid (by rw [HE.out, List.drop_length]; rfl)
      go_wp2_with fail
      go_ret
      exact ⟨ret_int HF.out.symm, hG⟩
set_option maxRecDepth 100000 in
set_option maxHeartbeats 2000000 in
theorem contW_c (u : Value) (l : List Lg) (v : ByteArray) (t : Int) (g1 g2 : Nat) (w : World) (hr : RdR w 9 lgC u l) (hn : l.length ≤ 1000) (hB : Bk w g1 9 #[.string v]) (hB2 : Bk w g2 3 #[.int .i64 t]) :
    Calls Tryd.prog 105 #[u, .func (.func 102) #[] #[.pointer (some ⟨g1, 0, none⟩), .pointer (some ⟨g2, 0, none⟩)]] w fun e w' => e = .returned (.bool (l.any (hasL v t))) ∧ G w w' none := by
  have hs := ixP_spec (hasL v t) l 0
  obtain ⟨a, cap, rfl, hcap, hm⟩ := RdR.form hr
  have HI := Lib.hid (fun w' (q : G w w' none) => indexW_c _ l v t g1 g2 w' (hr.quiet q) hn (hB.quiet q) (hB2.quiet q))
  clear hr hB hB2
  have hI : wiAt v t l = ixP (hasL v t) l ((0 : Nat) : Int) := rfl
  go_enter Tryd.func105, Tryd.ntmps105
  go_wp2_with fail
  refine (HI.out _ (G.refl _ _)).mono ?_; rintro e w1 ⟨rfl, hG1⟩
  rw [hI]
  clear hI HI
  rcases hs with ⟨h1, h2⟩ | ⟨i, p, h1, h2, h3⟩
  · rw [h1]
    have HF := Lib.hid h2
    clear h1 h2
    go_wp2_with fail
    go_ret
    exact ⟨ret_bool HF.out.symm, hG1⟩
  · have HF := Lib.hid (any_of_at (hasL v t) l i p h2 h3)
    rw [h1]
    clear h1 h2 h3
    have h0 : (0 : Int) ≤ ((0 + i : Nat) : Int) := by omega
    go_wp2_with fail
    go_ret
    exact ⟨ret_bool HF.out.symm, hG1⟩
/-- The hire that has a vehicle at a moment. -/
def wkO (v : ByteArray) (t : Int) : List Hx → Option ByteArray
  | [] => none
  | x :: r => if x.2.2.any (hasL v t) = true then some x.1.1 else wkO v t r
def wkE (v : ByteArray) (t : Int) (L : List Hx) : Int := if haE L = 0 then (if keyB v = true then (if momB t = true then 0 else 1) else 5) else haE L
def wkS (v : ByteArray) (t : Int) (L : List Hx) : ByteArray := if wkE v t L = 0 then (wkO v t L).getD ⟨#[]⟩ else ⟨#[]⟩
def wkB (v : ByteArray) (t : Int) (L : List Hx) : Bool := if wkE v t L = 0 then (wkO v t L).isSome else false
def WkRel (w : World) (v : ByteArray) (t : Int) (L : List Hx) (i : Value) (wr : World) : Prop :=
  ∃ k : Nat, k ≤ L.length ∧ i = .int .i64 k ∧ wkO v t L = wkO v t (L.drop k) ∧ G w wr none
theorem wkE_or (v : ByteArray) (t : Int) (L : List Hx) (e : wkE v t L ≠ 0) : wkS v t L = ⟨#[]⟩ ∧ wkB v t L = false := ⟨by unfold wkS; rw [if_neg e], by unfold wkB; rw [if_neg e]⟩
set_option maxRecDepth 100000 in
set_option maxHeartbeats 8000000 in
theorem with_c (u : Value) (L : List Hx) (v : ByteArray) (t : Int) (w : World) (hr : HxR w u L) (hl : HxOk L) (hn : L.length ≤ 1000) (hv : Small v) :
    Calls Tryd.prog 33 #[u, .string v, .int .i64 t] w fun e w' => e = .returned (.tuple #[.string (wkS v t L), .bool (wkB v t L), .int .i64 (wkE v t L)]) ∧ G w w' none := by
  have hV := (Bk.new w 9 #[.string v]).alloc (.cells #[.int .i64 t] 3)
  have hT := Bk.newAt (w := w.alloc (.cells #[.string v] 9)) (b := w.heap.size + 1) (by simp) 3 #[.int .i64 t]
  have hG := ((G.refl w none).alloc (.cells #[.string v] 9)).alloc (.cells #[.int .i64 t] 3)
  have hR := hr.quiet hG
  obtain ⟨a, cap, rfl, hcap, hm⟩ := RdR.form hr.1
  clear hr
  have HE := Lib.hid (show wkE v t L = if haE L = 0 then (if keyB v = true then (if momB t = true then 0 else 1) else 5) else haE L from rfl)
  have HNO := Lib.hid (wkE_or v t L)
  have HYS : Hid (wkE v t L = 0 → wkS v t L = (wkO v t L).getD ⟨#[]⟩ ∧ wkB v t L = (wkO v t L).isSome) := Lib.hid fun e => ⟨by unfold wkS; rw [if_pos e], by unfold wkB; rw [if_pos e]⟩
  generalize wkE v t L = E at HE HNO HYS ⊢
  generalize wkS v t L = S at HNO HYS ⊢
  generalize wkB v t L = B at HNO HYS ⊢
  unfold Small at hv
  go_enter Tryd.func33, Tryd.ntmps33
  go_upto_region 1 with fail
  generalize (w.alloc (.cells #[.string v] 9)).alloc (.cells #[.int .i64 t] 3) = w2 at hV hT hG hR ⊢
  go_wp2_with fail
  refine (checkAll_c _ L _ hR hl hn).mono ?_; rintro e w3 ⟨rfl, hh⟩
  replace hV := hV.quiet hh
  replace hT := hT.quiet hh
  replace hR := hR.quiet hh
  replace hG := hG.trans hh
  clear hh
  generalize haE L = HA at HE ⊢
  by_cases k1 : HA = 0
  · have HE1 : Hid (E = if keyB v = true then (if momB t = true then 0 else 1) else 5) := Lib.hid (by rw [HE.out, if_pos k1])
    clear HE
    subst k1
    have cv : w3.cell? ⟨w.heap.size, 0, none⟩ = some (.string v) := hV.cell 0
    have ct : w3.cell? ⟨w.heap.size + 1, 0, none⟩ = some (.int .i64 t) := hT.cell 0
    go_wp2_with fail
    refine (isKey_c _ _ hv).mono ?_; rintro e w' ⟨rfl, rfl⟩
    cases k2 : keyB v with
    | false =>
      have hE : E = 5 := by rw [HE1.out, if_neg (by simp [k2])]
      have hE0 : E ≠ 0 := by omega
      obtain ⟨rfl, rfl⟩ := HNO.out hE0
      subst hE
      clear HE1 HNO HYS k2 hE0
      go_wp2_with fail
      go_ret3
      exact ⟨rfl, hG⟩
    | true =>
      have HE2 : Hid (E = if momB t = true then 0 else 1) := Lib.hid (by rw [HE1.out, if_pos k2])
      clear HE1 k2
      go_wp2_with fail
      refine (isMoment_c _ _).mono ?_; rintro e w' ⟨rfl, rfl⟩
      cases k3 : momB t with
      | false =>
        have hE : E = 1 := by rw [HE2.out, if_neg (by simp [k3])]
        have hE0 : E ≠ 0 := by omega
        obtain ⟨rfl, rfl⟩ := HNO.out hE0
        subst hE
        clear HE2 HNO HYS k3 hE0
        go_wp2_with fail
        go_ret3
        exact ⟨rfl, hG⟩
      | true =>
        have hE : E = 0 := by rw [HE2.out, if_pos k3]
        obtain ⟨hS, hB⟩ := HYS.out hE
        subst hE
        have HS := Lib.hid hS
        have HBB := Lib.hid hB
        have HV := Lib.hid hV
        have HT := Lib.hid hT
        have HRR := Lib.hid hR.1
        have HX := Lib.hid hR.2
        clear HE2 HNO HYS k3 hS hB cv ct hV hT hR
        go_wp2_with fail
        go_loopw [27] (WkRel w3 v t L) (fun i _ => L.length - (intOf i).toNat)
        case atStart => exact ⟨0, by omega, rfl, rfl, G.refl _ _⟩
        case round =>
          obtain ⟨k, hk, rfl, heq, hGr⟩ := hrel
          have HEQ := Lib.hid heq
          clear heq
          by_cases hlt : k < L.length
          · obtain ⟨p, hp⟩ : ∃ p, L[k]? = some p := ⟨_, List.getElem?_eq_getElem hlt⟩
            have HD : Hid (wkO v t L = if p.2.2.any (hasL v t) = true then some p.1.1 else wkO v t (L.drop (k + 1))) := Lib.hid (by
              rw [HEQ.out, List.drop_eq_getElem_cons hlt, (List.getElem?_eq_some_iff.1 hp).2]; rfl)
            have hL := Rd.quiet (HX.out p (List.mem_of_getElem? hp)) hGr
            have hq6 := (hl p (List.mem_of_getElem? hp)).2.2.2.2.2
            obtain ⟨bb, bo, rfl, -, -⟩ := RdR.elem hxC_sz HRR.out hGr hp
            have HW := Lib.hid (hxRow HRR.out hGr hp)
            have HK := Lib.hid hlt
            have hB5 : Bk (wr.alloc (.cells #[.string p.1.1, .string p.1.2.1, .int .i64 p.1.2.2.1, .int .i64 p.1.2.2.2, .slice p.2.1.1 p.2.2.length p.2.1.2] 33)) wr.heap.size 33 #[.string p.1.1, .string p.1.2.1, .int .i64 p.1.2.2.1, .int .i64 p.1.2.2.2, .slice p.2.1.1 p.2.2.length p.2.1.2] := Bk.new _ _ _
            have hG5 := hGr.alloc (.cells #[.string p.1.1, .string p.1.2.1, .int .i64 p.1.2.2.1, .int .i64 p.1.2.2.2, .slice p.2.1.1 p.2.2.length p.2.1.2] 33)
            have hL5 := Rd.quiet hL ((G.refl wr none).alloc (.cells #[.string p.1.1, .string p.1.2.1, .int .i64 p.1.2.2.1, .int .i64 p.1.2.2.2, .slice p.2.1.1 p.2.2.length p.2.1.2] 33))
            clear hp hGr hL
            go_upto_region 12 with (refine wpList_load_at rfl 33 _ rfl ⟨bb, bo + k * 5, none⟩ rfl #[.string p.1.1, .string p.1.2.1, .int .i64 p.1.2.2.1, .int .i64 p.1.2.2.2, .slice p.2.1.1 p.2.2.length p.2.1.2] _ HW.out Tryd.underlying33 rfl (hi_info p.1 (hxV p)) ?_)
            generalize wr.alloc (.cells #[.string p.1.1, .string p.1.2.1, .int .i64 p.1.2.2.1, .int .i64 p.1.2.2.2, .slice p.2.1.1 p.2.2.length p.2.1.2] 33) = w5 at hB5 hG5 hL5 ⊢
            generalize wr.heap.size = g at hB5 ⊢
            have c4 : w5.cell? ⟨g, 4, none⟩ = some (.slice p.2.1.1 p.2.2.length p.2.1.2) := hB5.cell 4
            go_wp2_with fail
            refine (contW_c _ p.2.2 v t w.heap.size (w.heap.size + 1) _ hL5 (by omega) (HV.out.quiet hG5) (HT.out.quiet hG5)).mono ?_; rintro e w6 ⟨rfl, hh⟩
            have c0 : w6.cell? ⟨g, 0, none⟩ = some (.string p.1.1) := (hB5.quiet hh).cell 0
            have hG6 := hG5.trans hh
            clear hB5 hG5 hL5 hh c4
            cases he : p.2.2.any (hasL v t) with
            | true =>
              have hO : wkO v t L = some p.1.1 := by rw [HD.out, if_pos he]
              have hS : S = p.1.1 := by rw [HS.out, hO]; rfl
              have hB : B = true := by rw [HBB.out, hO]; rfl
              subst hS
              subst hB
              clear he HD HS HBB hO
              go_wp2_with fail
              go_ret3
              exact ⟨rfl, hG.trans hG6⟩
            | false =>
              have HF : Hid (wkO v t L = wkO v t (L.drop (k + 1))) := Lib.hid (by rw [HD.out, if_neg (by simp [he])])
              clear he HD
              go_wp2_with fail
              go_roundw
              case rel => exact ⟨k + 1, by omega, by go_num, HF.out, hG6⟩
              case measure => have := HK.out; simp [intOf]; omega
          · obtain rfl : k = L.length := by omega
            have hO : wkO v t L = none := by rw [HEQ.out, List.drop_length]; rfl
            have hS : S = ⟨#[]⟩ := by rw [HS.out, hO]; rfl
            have hB : B = false := by rw [HBB.out, hO]; rfl
            subst hS
            subst hB
            clear HS HBB hO
            go_wp2_with fail
            go_ret3
            exact ⟨rfl, hG.trans hGr⟩
  · have k1' : (HA != 0) = true := by simpa using k1
    have hE : E = HA := by rw [HE.out, if_neg k1]
    subst hE
    obtain ⟨rfl, rfl⟩ := HNO.out k1
    clear HE HNO HYS k1
    go_wp2_with fail
    go_ret3
    exact ⟨rfl, hG⟩
/-- The legs of a hire that is right begin and end at moments. -/
theorem leg_ends {h : Hh} {l : List Lg} (e : hiE h l = 0) : ∀ p ∈ l, 0 ≤ p.2.1.1 ∧ p.2.1.1 < 5761440 ∧ p.2.1.1 < toL p ∧ toL p ≤ 5761440 := by
  intro p hp
  obtain ⟨k, hk⟩ := List.getElem?_of_mem hp
  obtain ⟨h1, h2⟩ := lsE_legs l _ none (hiE_ls e).1 k p hk
  have m1 := (rgE_ok h1).1
  unfold momB at m1
  simp at m1
  unfold enE at h2
  unfold toL
  by_cases q : p.2.2.1 = -1
  · rw [if_pos q]; omega
  · rw [if_neg q] at h2 ⊢
    split at h2
    · next q2 =>
      have m2 := (rgE_ok q2).1
      unfold momB at m2
      simp at m2
      split at h2
      · cases h2
      · omega
    · contradiction
theorem hasB_in {x y t : Int} : inB t x (y - 1) = hasB x y t := by
  unfold inB hasB
  rw [show decide (t ≤ y - 1) = decide (t < y) from decide_eq_decide.2 (by omega)]
def HwRel (w : World) (v : ByteArray) (t : Int) (l : List Lg) (i : Value) (wr : World) : Prop :=
  ∃ j : Nat, j ≤ l.length ∧ i = .int .i64 j ∧ l.any (hasL v t) = (l.drop j).any (hasL v t) ∧ G w wr none
set_option maxRecDepth 100000 in
set_option maxHeartbeats 8000000 in
theorem hireWith_c (u : Value) (L : List Hx) (v : ByteArray) (t : Int) (w : World) (hr : HxR w u L) (hl : HxOk L) (hn : L.length ≤ 1000) (hall : ∀ x ∈ L, hxE x = 0) :
    Calls Tryd.prog 41 #[u, .string v, .int .i64 t] w fun e w' => e = .returned (.tuple #[.string ((wkO v t L).getD ⟨#[]⟩), .bool (wkO v t L).isSome]) ∧ G w w' none := by
  obtain ⟨a, cap, rfl, hcap, hm⟩ := RdR.form hr.1
  have HRR := Lib.hid hr.1
  have HX := Lib.hid hr.2
  obtain ⟨S, hS⟩ : ∃ S, (wkO v t L).getD ⟨#[]⟩ = S := ⟨_, rfl⟩
  obtain ⟨B, hB⟩ : ∃ B, (wkO v t L).isSome = B := ⟨_, rfl⟩
  have HS := Lib.hid hS.symm
  have HBB := Lib.hid hB.symm
  rw [hS, hB]
  clear hr hS hB
  go_enter Tryd.func41, Tryd.ntmps41
  go_wp2_with fail
  go_loopw [15] (WkRel w v t L) (fun i _ => L.length - (intOf i).toNat)
  case atStart => exact ⟨0, by omega, rfl, rfl, G.refl _ _⟩
  case round =>
    obtain ⟨k, hk, rfl, heq, hGr⟩ := hrel
    have HEQ := Lib.hid heq
    clear heq
    by_cases hlt : k < L.length
    · obtain ⟨p, hp⟩ : ∃ p, L[k]? = some p := ⟨_, List.getElem?_eq_getElem hlt⟩
      have HD : Hid (wkO v t L = if p.2.2.any (hasL v t) = true then some p.1.1 else wkO v t (L.drop (k + 1))) := Lib.hid (by
        rw [HEQ.out, List.drop_eq_getElem_cons hlt, (List.getElem?_eq_some_iff.1 hp).2]; rfl)
      have hL := Rd.quiet (HX.out p (List.mem_of_getElem? hp)) hGr
      have hq6 := (hl p (List.mem_of_getElem? hp)).2.2.2.2.2
      have HEND := Lib.hid (leg_ends (hall p (List.mem_of_getElem? hp)))
      obtain ⟨bb, bo, rfl, -, -⟩ := RdR.elem hxC_sz HRR.out hGr hp
      have HW := Lib.hid (hxRow HRR.out hGr hp)
      have HK := Lib.hid hlt
      have hB5 : Bk (wr.alloc (.cells #[.string p.1.1, .string p.1.2.1, .int .i64 p.1.2.2.1, .int .i64 p.1.2.2.2, .slice p.2.1.1 p.2.2.length p.2.1.2] 33)) wr.heap.size 33 #[.string p.1.1, .string p.1.2.1, .int .i64 p.1.2.2.1, .int .i64 p.1.2.2.2, .slice p.2.1.1 p.2.2.length p.2.1.2] := Bk.new _ _ _
      have hG5 := hGr.alloc (.cells #[.string p.1.1, .string p.1.2.1, .int .i64 p.1.2.2.1, .int .i64 p.1.2.2.2, .slice p.2.1.1 p.2.2.length p.2.1.2] 33)
      have hL5 := Rd.quiet hL ((G.refl wr none).alloc (.cells #[.string p.1.1, .string p.1.2.1, .int .i64 p.1.2.2.1, .int .i64 p.1.2.2.2, .slice p.2.1.1 p.2.2.length p.2.1.2] 33))
      clear hp hGr hL
      go_upto_region 4 with (refine wpList_load_at rfl 33 _ rfl ⟨bb, bo + k * 5, none⟩ rfl #[.string p.1.1, .string p.1.2.1, .int .i64 p.1.2.2.1, .int .i64 p.1.2.2.2, .slice p.2.1.1 p.2.2.length p.2.1.2] _ HW.out Tryd.underlying33 rfl (hi_info p.1 (hxV p)) ?_)
      generalize wr.alloc (.cells #[.string p.1.1, .string p.1.2.1, .int .i64 p.1.2.2.1, .int .i64 p.1.2.2.2, .slice p.2.1.1 p.2.2.length p.2.1.2] 33) = w5 at hB5 hG5 hL5 ⊢
      generalize wr.heap.size = g at hB5 ⊢
      have c4 : w5.cell? ⟨g, 4, none⟩ = some (.slice p.2.1.1 p.2.2.length p.2.1.2) := hB5.cell 4
      have HL5 := Lib.hid hL5
      have HB5 := Lib.hid hB5
      clear hL5 hB5
      go_wp2_with fail
      go_loopw [22] (HwRel w5 v t p.2.2) (fun i _ => p.2.2.length - (intOf i).toNat)
      case atStart => exact ⟨0, by omega, rfl, rfl, G.refl _ _⟩
      case round =>
        clear c4
        obtain ⟨j, hj, rfl, heq, hGi⟩ := hrel
        have HQ := Lib.hid heq
        clear heq
        by_cases hjl : j < p.2.2.length
        · obtain ⟨q, hq⟩ : ∃ q, p.2.2[j]? = some q := ⟨_, List.getElem?_eq_getElem hjl⟩
          have HDQ : Hid (p.2.2.any (hasL v t) = (hasL v t q || (p.2.2.drop (j + 1)).any (hasL v t))) := Lib.hid (by
            rw [HQ.out, List.drop_eq_getElem_cons hjl, (List.getElem?_eq_some_iff.1 hq).2]; rfl)
          have hend := HEND.out q (List.mem_of_getElem? hq)
          obtain ⟨b2, o2, hba, -, -⟩ := RdR.elem lgC_sz HL5.out hGi hq
          have HL6 : Hid (RdR w5 9 lgC (.slice (some ⟨b2, o2, none⟩) p.2.2.length p.2.1.2) p.2.2) := Lib.hid (by have := HL5.out; unfold hxV at this; rw [hba] at this; exact this)
          have HW2 := Lib.hid (lgRow HL6.out hGi hq)
          rw [hba]
          have HJ := Lib.hid hjl
          have hB6 : Bk (wr.alloc (.cells #[.string q.1, .int .i64 q.2.1.1, .string q.2.1.2.1, .int .i64 q.2.1.2.2.1, .int .i64 q.2.1.2.2.2, .int .i64 q.2.2.1, .string q.2.2.2.1, .int .i64 q.2.2.2.2.1, .int .i64 q.2.2.2.2.2] 79)) wr.heap.size 79 #[.string q.1, .int .i64 q.2.1.1, .string q.2.1.2.1, .int .i64 q.2.1.2.2.1, .int .i64 q.2.1.2.2.2, .int .i64 q.2.2.1, .string q.2.2.2.1, .int .i64 q.2.2.2.2.1, .int .i64 q.2.2.2.2.2] := Bk.new _ _ _
          have hG6 := hGi.alloc (.cells #[.string q.1, .int .i64 q.2.1.1, .string q.2.1.2.1, .int .i64 q.2.1.2.2.1, .int .i64 q.2.1.2.2.2, .int .i64 q.2.2.1, .string q.2.2.2.1, .int .i64 q.2.2.2.2.1, .int .i64 q.2.2.2.2.2] 79)
          clear hq hGi hba
          go_upto_region 7 with (refine wpList_load_at rfl 79 _ rfl ⟨b2, o2 + j * 9, none⟩ rfl #[.string q.1, .int .i64 q.2.1.1, .string q.2.1.2.1, .int .i64 q.2.1.2.2.1, .int .i64 q.2.1.2.2.2, .int .i64 q.2.2.1, .string q.2.2.2.1, .int .i64 q.2.2.2.2.1, .int .i64 q.2.2.2.2.2] _ HW2.out Tryd.underlying79 rfl (lg_info q) ?_)
          generalize wr.alloc (.cells #[.string q.1, .int .i64 q.2.1.1, .string q.2.1.2.1, .int .i64 q.2.1.2.2.1, .int .i64 q.2.1.2.2.2, .int .i64 q.2.2.1, .string q.2.2.2.1, .int .i64 q.2.2.2.2.1, .int .i64 q.2.2.2.2.2] 79) = w6 at hB6 hG6 ⊢
          generalize wr.heap.size = g6 at hB6 ⊢
          go_wp2_with (refine wpList_load_row rfl 79 _ rfl g6 rfl 79 #[.string q.1, .int .i64 q.2.1.1, .string q.2.1.2.1, .int .i64 q.2.1.2.2.1, .int .i64 q.2.1.2.2.2, .int .i64 q.2.2.1, .string q.2.2.2.1, .int .i64 q.2.2.2.2.1, .int .i64 q.2.2.2.2.2] (0, 0) _ hB6 Tryd.underlying79 rfl (lg_info q) ?_)
          refine (lastsR_c q _).mono ?_; rintro e w7 ⟨rfl, hh⟩
          have hB7 := (hB6.quiet hh).alloc (.cells #[.int .i64 q.2.1.1, .int .i64 (toL q)] 30)
          have hG7 := (hG6.trans hh).alloc (.cells #[.int .i64 q.2.1.1, .int .i64 (toL q)] 30)
          have hW7 := Bk.new w7 30 #[.int .i64 q.2.1.1, .int .i64 (toL q)]
          clear hB6 hG6 hh
          go_upto_region 8 with fail
          generalize w7.alloc (.cells #[.int .i64 q.2.1.1, .int .i64 (toL q)] 30) = w8 at hB7 hG7 hW7 ⊢
          generalize w7.heap.size = g7 at hW7 ⊢
          have c0 : w8.cell? ⟨g6, 0, none⟩ = some (.string q.1) := hB7.cell 0
          have d0 : w8.cell? ⟨g7, 0, none⟩ = some (.int .i64 q.2.1.1) := hW7.cell 0
          have d1 : w8.cell? ⟨g7, 1, none⟩ = some (.int .i64 (toL q)) := hW7.cell 1
          have hHas : inB t q.2.1.1 (toL q - 1) = hasB q.2.1.1 (toL q) t := hasB_in
          have hwr : IntKind.i64.wrap (toL q - 1) = toL q - 1 := by rw [IntKind.wrap_i64]; omega
          clear hend
          cases he : (q.1.toList == v.toList) with
          | false =>
            have HF : Hid (p.2.2.any (hasL v t) = (p.2.2.drop (j + 1)).any (hasL v t)) := Lib.hid (by rw [HDQ.out, hasL, he]; rfl)
            clear HDQ
            go_wp2_with fail
            go_roundw
            case rel => exact ⟨j + 1, by omega, by go_num, HF.out, hG7⟩
            case measure => have := HJ.out; simp [intOf]; omega
          | true =>
            have HDQ2 : Hid (p.2.2.any (hasL v t) = (hasB q.2.1.1 (toL q) t || (p.2.2.drop (j + 1)).any (hasL v t))) := Lib.hid (by rw [HDQ.out, hasL, he]; rfl)
            clear HDQ
            go_wp2_with fail
            refine (in_c _ _ _ _).mono ?_; rintro e w' ⟨rfl, rfl⟩
            rw [hHas]
            clear hHas
            cases hb : hasB q.2.1.1 (toL q) t with
            | true =>
              have hA : p.2.2.any (hasL v t) = true := by rw [HDQ2.out, hb]; rfl
              have hO : wkO v t L = some p.1.1 := by rw [HD.out, if_pos hA]
              have hS : S = p.1.1 := by rw [HS.out, hO]; rfl
              have hB : B = true := by rw [HBB.out, hO]; rfl
              have c1 : w8.cell? ⟨g, 0, none⟩ = some (.string p.1.1) := (HB5.out.quiet hG7).cell 0
              subst hS
              subst hB
              clear hb HDQ2 HD HS HBB hO hA
              go_wp2_with fail
              go_ret2
              exact ⟨rfl, hG5.trans hG7⟩
            | false =>
              have HF : Hid (p.2.2.any (hasL v t) = (p.2.2.drop (j + 1)).any (hasL v t)) := Lib.hid (by rw [HDQ2.out, hb]; rfl)
              clear hb HDQ2
              go_wp2_with fail
              go_roundw
              case rel => exact ⟨j + 1, by omega, by go_num, HF.out, hG7⟩
              case measure => have := HJ.out; simp [intOf]; omega
        · obtain rfl : j = p.2.2.length := by omega
          have HF : Hid (wkO v t L = wkO v t (L.drop (k + 1))) := Lib.hid (by rw [HD.out, if_neg (by rw [HQ.out, List.drop_length]; simp)])
          go_wp2_with fail
          go_roundw
          case rel => exact ⟨k + 1, by omega, by go_num, HF.out, hG5.trans hGi⟩
          case measure => have := HK.out; simp [intOf]; omega
    · obtain rfl : k = L.length := by omega
      have hO : wkO v t L = none := by rw [HEQ.out, List.drop_length]; rfl
      have hS : S = ⟨#[]⟩ := by rw [HS.out, hO]; rfl
      have hB : B = false := by rw [HBB.out, hO]; rfl
      subst hS
      subst hB
      clear HS HBB hO
      go_wp2_with fail
      go_ret2
      exact ⟨rfl, hGr⟩
end Go.Proofs.YtdcofbciebkfkaaDoor

/- Where legs of two hires meet first: mathematics. No program. -/
namespace Go.Proofs.YtdcofbciebkfkaaDoor
open Go.RowKit

def mxF (x y : Lg) : Int := max x.2.1.1 y.2.1.1
/-- Legs that come one after the other. -/
def LgCh (l : List Lg) : Prop := l.Pairwise (fun x y => toL x ≤ y.2.1.1) ∧ ∀ p ∈ l, p.2.1.1 < toL p
theorem LgCh.tail {x : Lg} {l : List Lg} (h : LgCh (x :: l)) : LgCh l := ⟨(List.pairwise_cons.1 h.1).2, fun p hp => h.2 p (List.mem_cons_of_mem _ hp)⟩
theorem ls_chain : ∀ (l : List Lg) (f : Int) (b : Option Lg), lsE f b l = 0 → l.Pairwise (fun x y => toL x ≤ y.2.1.1) ∧ ∀ x, b = some x → ∀ y ∈ l, x.2.2.1 ≤ y.2.1.1
  | [], _, _, _ => ⟨List.Pairwise.nil, fun _ _ y hy => by cases hy⟩
  | y :: t, f, b, e => by
    unfold lsE at e
    split at e
    · next hl =>
      obtain ⟨h1, h2, h3⟩ := lgE_ok hl
      obtain ⟨i1, i2⟩ := ls_chain t f (some y) e
      have key : ∀ z ∈ t, y.2.2.1 ≤ z.2.1.1 ∧ y.2.1.1 < y.2.2.1 ∧ toL y = y.2.2.1 := fun z hz => by
        have hne : t.isEmpty = false := by cases t with
          | nil => cases hz
          | cons a r => rfl
        rw [hne] at h3
        unfold enE at h3
        by_cases q : y.2.2.1 = -1
        · rw [if_pos q] at h3
          split at h3
          · simp at h3
          · cases h3
        · rw [if_neg q] at h3
          refine ⟨i2 y rfl z hz, ?_, by rw [toL, if_neg q]⟩
          split at h3
          · split at h3
            · cases h3
            · omega
          · contradiction
      refine ⟨List.pairwise_cons.2 ⟨fun z hz => by have := key z hz; omega, i1⟩, fun x hx z hz => ?_⟩
      subst hx
      have hb : y.2.1.1 = x.2.2.1 := by
        unfold beE at h2
        simp only at h2
        split at h2
        · assumption
        · cases h2
      rcases List.mem_cons.1 hz with rfl | hz
      · omega
      · have := key z hz; omega
    · contradiction
theorem hi_chain {h : Hh} {l : List Lg} (e : hiE h l = 0) : LgCh l := ⟨(ls_chain l _ none (hiE_ls e).1).1, fun p hp => (leg_ends e p hp).2.2.1⟩
def MeOk (al : Lg → Lg → Bool) (a b : List Lg) (o : Option Int) : Prop := match o with
  | some m => (∃ x ∈ a, ∃ y ∈ b, ckP al x y = true ∧ m = mxF x y) ∧ ∀ x ∈ a, ∀ y ∈ b, ckP al x y = true → m ≤ mxF x y
  | none => ∀ x ∈ a, ∀ y ∈ b, ckP al x y = false
theorem ckP_far {al : Lg → Lg → Bool} {x y : Lg} (h : toL x ≤ y.2.1.1 ∨ toL y ≤ x.2.1.1) : ckP al x y = false := by
  unfold ckP
  rw [decide_eq_false (by omega), Bool.false_and]
theorem meO_ok (al : Lg → Lg → Bool) : ∀ (n : Nat) (a b : List Lg), a.length + b.length ≤ n → LgCh a → LgCh b → MeOk al a b (meO al a b)
  | _, [], b, _, _, _ => by rw [meO]; exact fun x hx => by cases hx
  | _, x :: a, [], _, _, _ => by rw [meO]; exact fun x _ y hy => by cases hy
  | 0, x :: a, y :: b, h, _, _ => by simp at h
  | n + 1, x :: a, y :: b, h, ha, hb => by
    rw [meO]
    have pa := List.pairwise_cons.1 ha.1
    have pb := List.pairwise_cons.1 hb.1
    have ex := ha.2 x List.mem_cons_self
    have ey := hb.2 y List.mem_cons_self
    simp only [List.length_cons] at h
    by_cases hc : ckP al x y = true
    · rw [if_pos hc]
      refine ⟨⟨x, List.mem_cons_self, y, List.mem_cons_self, hc, rfl⟩, fun x' hx y' hy _ => ?_⟩
      have h1 : x.2.1.1 ≤ x'.2.1.1 := by
        rcases List.mem_cons.1 hx with rfl | hx
        · omega
        · have := pa.1 x' hx; omega
      have h2 : y.2.1.1 ≤ y'.2.1.1 := by
        rcases List.mem_cons.1 hy with rfl | hy
        · omega
        · have := pb.1 y' hy; omega
      unfold mxF
      omega
    · have hc' : ckP al x y = false := by simpa using hc
      rw [if_neg hc]
      by_cases hle : toL x ≤ toL y
      · rw [if_pos hle]
        have ih := meO_ok al n a (y :: b) (by simp only [List.length_cons]; omega) ha.tail hb
        have no : ∀ y' ∈ y :: b, ckP al x y' = false := fun y' hy => by
          rcases List.mem_cons.1 hy with rfl | hy
          · exact hc'
          · exact ckP_far (.inl (by have := pb.1 y' hy; omega))
        revert ih
        cases meO al a (y :: b) with
        | none =>
          exact fun ih x' hx y' hy => by
            rcases List.mem_cons.1 hx with rfl | hx
            · exact no y' hy
            · exact ih x' hx y' hy
        | some m =>
          exact fun ih => ⟨by obtain ⟨x', hx, q⟩ := ih.1; exact ⟨x', List.mem_cons_of_mem _ hx, q⟩, fun x' hx y' hy hk => by
            rcases List.mem_cons.1 hx with rfl | hx
            · rw [no y' hy] at hk; cases hk
            · exact ih.2 x' hx y' hy hk⟩
      · rw [if_neg hle]
        have ih := meO_ok al n (x :: a) b (by simp only [List.length_cons]; omega) ha hb.tail
        have no : ∀ x' ∈ x :: a, ckP al x' y = false := fun x' hx => by
          rcases List.mem_cons.1 hx with rfl | hx
          · exact hc'
          · exact ckP_far (.inr (by have := pa.1 x' hx; omega))
        revert ih
        cases meO al (x :: a) b with
        | none =>
          exact fun ih x' hx y' hy => by
            rcases List.mem_cons.1 hy with rfl | hy
            · exact no x' hx
            · exact ih x' hx y' hy
        | some m =>
          exact fun ih => ⟨by obtain ⟨x', hx, y', hy, q⟩ := ih.1; exact ⟨x', hx, y', List.mem_cons_of_mem _ hy, q⟩, fun x' hx y' hy hk => by
            rcases List.mem_cons.1 hy with rfl | hy
            · rw [no x' hx] at hk; cases hk
            · exact ih.2 x' hx y' hy hk⟩
/-- The reference's ways: all pairs. -/
def ckS (al : Lg → Lg → Bool) (x y : Lg) (acc : Int) : Int := if ckP al x y = true then min acc (mxF x y) else acc
def ckF (al : Lg → Lg → Bool) (x : Lg) : List Lg → Int → Int
  | [], acc => acc
  | y :: b, acc => ckF al x b (ckS al x y acc)
def ckV (al : Lg → Lg → Bool) (b : List Lg) : List Lg → Int → Int
  | [], acc => acc
  | x :: a, acc => ckV al b a (ckF al x b acc)
theorem ckF_spec (al : Lg → Lg → Bool) (x : Lg) : ∀ (b : List Lg) (acc : Int), ckF al x b acc ≤ acc ∧ (∀ y ∈ b, ckP al x y = true → ckF al x b acc ≤ mxF x y) ∧ (ckF al x b acc = acc ∨ ∃ y ∈ b, ckP al x y = true ∧ ckF al x b acc = mxF x y)
  | [], acc => ⟨Int.le_refl _, fun y hy => by (cases hy), .inl rfl⟩
  | y :: b, acc => by
    obtain ⟨h1, h2, h3⟩ := ckF_spec al x b (ckS al x y acc)
    have hs : ckS al x y acc ≤ acc ∧ (ckP al x y = true → ckS al x y acc ≤ mxF x y) ∧ (ckS al x y acc = acc ∨ ckP al x y = true ∧ ckS al x y acc = mxF x y) := by
      unfold ckS
      by_cases hc : ckP al x y = true
      · rw [if_pos hc]
        refine ⟨by omega, fun _ => by omega, ?_⟩
        by_cases h : acc ≤ mxF x y
        · exact .inl (by omega)
        · exact .inr ⟨hc, by omega⟩
      · rw [if_neg hc]
        exact ⟨Int.le_refl _, fun h => absurd h hc, .inl rfl⟩
    rw [ckF]
    refine ⟨by omega, fun y' hy hk => ?_, ?_⟩
    · rcases List.mem_cons.1 hy with rfl | hy
      · have := hs.2.1 hk; omega
      · exact h2 y' hy hk
    · rcases h3 with e | ⟨y', hy, hk, e⟩
      · rcases hs.2.2 with e2 | ⟨hk, e2⟩
        · exact .inl (by rw [e, e2])
        · exact .inr ⟨y, List.mem_cons_self, hk, by rw [e, e2]⟩
      · exact .inr ⟨y', List.mem_cons_of_mem _ hy, hk, e⟩
theorem ckV_spec (al : Lg → Lg → Bool) (b : List Lg) : ∀ (a : List Lg) (acc : Int), ckV al b a acc ≤ acc ∧ (∀ x ∈ a, ∀ y ∈ b, ckP al x y = true → ckV al b a acc ≤ mxF x y) ∧ (ckV al b a acc = acc ∨ ∃ x ∈ a, ∃ y ∈ b, ckP al x y = true ∧ ckV al b a acc = mxF x y)
  | [], acc => ⟨Int.le_refl _, fun y hy => by (cases hy), .inl rfl⟩
  | x :: a, acc => by
    obtain ⟨h1, h2, h3⟩ := ckV_spec al b a (ckF al x b acc)
    obtain ⟨g1, g2, g3⟩ := ckF_spec al x b acc
    rw [ckV]
    refine ⟨by omega, fun x' hx y hy hk => ?_, ?_⟩
    · rcases List.mem_cons.1 hx with rfl | hx
      · have := g2 y hy hk; omega
      · exact h2 x' hx y hy hk
    · rcases h3 with e | ⟨x', hx, y, hy, hk, e⟩
      · rcases g3 with e2 | ⟨y, hy, hk, e2⟩
        · exact .inl (by rw [e, e2])
        · exact .inr ⟨x, List.mem_cons_self, y, hy, hk, by rw [e, e2]⟩
      · exact .inr ⟨x', List.mem_cons_of_mem _ hx, y, hy, hk, e⟩
def rkL (a b : ByteArray) (kind m : Int) : List Ks := if m < 5761440 then [(a, b, kind, m)] else []
theorem rk_ck (al : Lg → Lg → Bool) (a b : List Lg) (k1 k2 : ByteArray) (kind : Int) (ha : LgCh a) (hb : LgCh b) (ba : ∀ p ∈ a, toL p ≤ 5761440) (bb : ∀ p ∈ b, toL p ≤ 5761440) :
    rkL k1 k2 kind (ckV al b a 5761440) = ckL k1 k2 kind (meO al a b) := by
  have hm := meO_ok al _ a b (Nat.le_refl _) ha hb
  obtain ⟨h1, h2, h3⟩ := ckV_spec al b a 5761440
  unfold rkL
  revert hm
  cases meO al a b with
  | none =>
    intro hm
    have e : ckV al b a 5761440 = 5761440 := by
      rcases h3 with e | ⟨x, hx, y, hy, hk, _⟩
      · exact e
      · rw [hm x hx y hy] at hk; cases hk
    rw [if_neg (by omega)]
    rfl
  | some m =>
    intro ⟨⟨x, hx, y, hy, hk, hm⟩, hmin⟩
    have hlt : mxF x y < 5761440 := by
      have := ha.2 x hx
      have := hb.2 y hy
      have := ba x hx
      have := bb y hy
      unfold mxF; omega
    have l1 := h2 x hx y hy hk
    rcases h3 with e | ⟨x', hx', y', hy', hk', e⟩
    · omega
    · have l2 := hmin x' hx' y' hy' hk'
      have em : ckV al b a 5761440 = m := by omega
      rw [em, if_pos (by omega)]
      rfl
/-- The reference's clashes of two hires. -/
def rlOf (x y : Hh) (la lb : List Lg) : List Ks := rkL x.1 y.1 1 (ckV alV lb la 5761440) ++ rkL x.1 y.1 2 (ckV (alD x y) lb la 5761440)
theorem rlOf_eq (x y : Hh) (la lb : List Lg) (ha : hiE x la = 0) (hb : hiE y lb = 0) : rlOf x y la lb = clOf x y la lb := by
  have ba : ∀ p ∈ la, toL p ≤ 5761440 := fun p hp => (leg_ends ha p hp).2.2.2
  have bb : ∀ p ∈ lb, toL p ≤ 5761440 := fun p hp => (leg_ends hb p hp).2.2.2
  unfold rlOf clOf
  rw [rk_ck alV la lb _ _ _ (hi_chain ha) (hi_chain hb) ba bb, rk_ck (alD x y) la lb _ _ _ (hi_chain ha) (hi_chain hb) ba bb]
end Go.Proofs.YtdcofbciebkfkaaDoor

/- append(own, x...): a row that the call owns, and a list that can be read. No program. -/
namespace Go.Proofs.YtdcofbciebkfkaaDoor
open Go.RowKit

theorem wpList_append_xs {α : Type} {T : TypeId} {z : Nat} {c : α → Array Value} {P : Program} {TS : TypeId} {bytes : Nat} {zv : Value} (hk : RowOk P T TS z bytes zv c) {w : World} {ops : Array Oper} {rest : List Oper} {o : Oper} {a : Act} {Q : Exit → Act → World → Prop} (hgd : o.guard = none) (s x : Operand)
    (ho : o.op = .call { callee := .builtin .append, args := #[s, x], argTypes := #[TS, TS] }) (base : Nat) (v : Value) (l : List α) (hs : a.eval s = v) (hown : OwnX T z c w base v l)
    (u : Value) (m : List α) (hx : a.eval x = u) (hm : RdR w z c u m) (hl : l.length + m.length ≤ 1000) (hbase : base ≤ w.heap.size)
    (hK : ∀ v' w', OwnX T z c w' base v' (l ++ m) → w.grownBy w' v.ownBlock → wpList P ops Q rest (a.put o.dst v') w') : wpList P ops Q (o :: rest) a w := by
  obtain ⟨i0, hi, hz0, hz1, hz2⟩ := info_parts hk.row
  obtain ⟨ad, cap, rfl, h1, h2, h3, h4, h5⟩ := hm
  cases ad with
  | none =>
    obtain ⟨hz, hc⟩ := h4 rfl
    subst hc
    obtain rfl : m = [] := List.eq_nil_of_length_eq_zero hz
    refine wpList_append_own_none hgd s x TS ho base T i0 z hk.slice hi v l.length (rowL c l) hs hown hx ?_
    exact hK v w (by rw [List.append_nil]; exact hown) (World.grownBy.refl _ _)
  | some ad =>
    obtain ⟨e1, e2, e3⟩ := h5 ad rfl
    obtain ⟨b, o1, st⟩ := ad
    dsimp only at e1 e2 e3
    subst e1
    have hb : (l.length + m.length) * bytes ≤ 1001 * 100000 := Nat.mul_le_mul (by omega) hk.few
    refine wpList_append_own w hgd s x TS ho base T i0 zv z bytes hk.slice hi hz0 hz1 hz2 hk.zv hk.pos v l.length (rowL c l) hs hown ⟨b, o1, none⟩ m.length cap (rowL c m) hx h3 (fun j u hj => ?_) ?_ (by unfold maxLen; omega) (by omega) hbase ?_
    · rw [add_at]
      exact e3 j u hj
    · intro u hu
      obtain ⟨r, hr, hu⟩ := List.mem_flatMap.1 hu
      exact hk.one r u hu
    · intro v' w' q1 q2 _
      refine hK v' w' ?_ q2
      unfold OwnX
      rw [List.length_append, show rowL c (l ++ m) = rowL c l ++ rowL c m by unfold rowL; rw [List.flatMap_append]]
      exact q1
end Go.Proofs.YtdcofbciebkfkaaDoor

/- Hires: a change to a copy of an open hire (hire.changed, rentref1.changed), whatever the function is that changes it. -/
namespace Go.Proofs.YtdcofbciebkfkaaDoor
open Go.RowKit

/-- What a function that makes a hire returns. -/
def ChPost (E : Int) (h : Hh) (l : List Lg) (w : World) (e : Ending) (w' : World) : Prop :=
  ∃ (H : Hh) (a : Option Addr) (n c : Nat), e = .returned (.tuple #[.agg #[.string H.1, .string H.2.1, .int .i64 H.2.2.1, .int .i64 H.2.2.2, .slice a n c], .int .i64 E]) ∧ H = hiH E h ∧ (∀ k, (Value.slice a n c).ownBlock = some k → w.heap.size ≤ k) ∧ RdR w' 9 lgC (.slice a n c) (hiL E l) ∧ G w w' none
def S2 (g : Nat) (v : Value) (k : Nat) : Prop := k = g ∨ v.ownBlock = some k
/-- A function that changes a hire which it is handed by its address: h, l become h2, l2. -/
def ChFn (F : FuncId) (caps : Array Value) (h : Hh) (l : List Lg) (h2 : Hh) (l2 : List Lg) (A : World) : Prop :=
  ∀ (w1 : World) (g base : Nat) (v1 : Value), G A w1 none → OwnLg w1 base v1 l → Bk w1 g 33 (hiC h v1) → A.heap.size ≤ g → g < base → base ≤ w1.heap.size →
    Calls Tryd.prog F (#[.pointer (some ⟨g, 0, none⟩)] ++ caps) w1 fun e w2 => e = .returned (.tuple #[]) ∧ ∃ v2, Bk w2 g 33 (hiC h2 v2) ∧ RdR w2 9 lgC v2 l2 ∧ (∀ k, v2.ownBlock = some k → base ≤ k) ∧ GS (S2 g v1) w1 w2
/-- The error of a change: of a hire that may not be right; of one that is. -/
def chE (h : Hh) (l : List Lg) (h2 : Hh) (l2 : List Lg) : Int := if hiE h l = 0 then (if ioB l = true then hiE h2 l2 else 11) else hiE h l
def chR (l : List Lg) (h2 : Hh) (l2 : List Lg) : Int := if ioB l = true then hiE h2 l2 else 11
theorem hiE_pos {h : Hh} {l : List Lg} (e : hiE h l = 0) : 0 < l.length ∧ l.length ≤ 20 := by
  unfold hiE at e
  split at e
  · cases e
  split at e
  · cases e
  split at e
  · split at e
    · cases e
    · split at e
      · cases e
      · omega
  · contradiction
theorem ch_none {w w' : World} {E : Int} (hE : E ≠ 0) (h : Hh) (l : List Lg) (hG : G w w' none) : ChPost E h l w (.returned (.tuple #[.agg #[.string ⟨#[]⟩, .string ⟨#[]⟩, .int .i64 0, .int .i64 0, .slice none 0 0], .int .i64 E])) w' :=
  ⟨(⟨#[]⟩, ⟨#[]⟩, 0, 0), none, 0, 0, rfl, by rw [hiH, if_neg hE], fun _ hk => (by cases hk), by rw [hiL, if_neg hE]; exact RdR.nil _ _ _, hG⟩
set_option maxRecDepth 100000 in
set_option maxHeartbeats 4000000 in
theorem changed_c (F : FuncId) (caps : Array Value) (h : Hh) (v : Value) (l : List Lg) (h2 : Hh) (l2 : List Lg) (w : World) (hcf : ∀ (args : Array Value) (w : World), (callFunc F args).run Tryd.prog w = .ok (.enter F args) w) (hcl : 0 < l.length → ChFn F caps h l h2 l2 w) (hr : RdR w 9 lgC v l) (hl : LgOk l) (hs1 : Small h.1) (hs2 : Small h.2.1) (hb1 : bnd h.2.2.1) (hb2 : bnd h.2.2.2) (hn : l.length ≤ 1000)
    (hl2 : LgOk l2) (hs12 : Small h2.1) (hs22 : Small h2.2.1) (hb12 : bnd h2.2.2.1) (hb22 : bnd h2.2.2.2) (hn2 : l2.length ≤ 1000) :
    Calls Tryd.prog 91 #[.agg (hiC h v), .func (.func F) #[] caps] w (ChPost (chE h l h2 l2) h2 l2 w) := by
  have hH := (Bk.new w 33 (hiC h v)).alloc (.cells hiZ 33)
  have hG := ((G.refl w none).alloc (.cells (hiC h v) 33)).alloc (.cells hiZ 33)
  have hZ := Bk.newAt (w := w.alloc (.cells (hiC h v) 33)) (b := w.heap.size + 1) (by simp) 33 hiZ
  have hR := hr.quiet hG
  have HLO := Lib.hid hr.blk
  obtain ⟨a, cap, rfl, hcap, hm⟩ := RdR.form hr
  clear hr
  have hgs := hH.lt
  have hzs := hZ.lt
  simp only [hiC, hiZ] at hH hG hR hZ hgs hzs ⊢
  go_enter Tryd.func91, Tryd.ntmps91
  go_upto_region 1 with fail
  generalize (w.alloc (.cells #[.string h.1, .string h.2.1, .int .i64 h.2.2.1, .int .i64 h.2.2.2, .slice a l.length cap] 33)).alloc (.cells #[.string ⟨#[]⟩, .string ⟨#[]⟩, .int .i64 0, .int .i64 0, .slice none 0 0] 33) = w2 at hG hH hR hZ hgs hzs ⊢
  go_wp2_with (refine wpList_load_row rfl 33 _ rfl w.heap.size rfl 33 #[.string h.1, .string h.2.1, .int .i64 h.2.2.1, .int .i64 h.2.2.2, .slice a l.length cap] (0, 0) _ hH Tryd.underlying33 rfl (hi_info h _) ?_)
  refine (check_c h _ l _ hR hl hs1 hs2 hb1 hb2 hn).mono ?_; rintro e w3 ⟨rfl, hG3⟩
  have hH := hH.quiet hG3
  have hZ := hZ.quiet hG3
  have hz3 : w2.heap.size ≤ w3.heap.size := hG3.size
  have hG := hG.trans hG3
  have hR := hR.quiet hG3
  clear hG3
  obtain ⟨E, hE⟩ : ∃ E, hiE h l = E := ⟨_, rfl⟩
  have HT : Hid (E = 0 → ioB l = true → chE h l h2 l2 = hiE h2 l2) := Lib.hid fun p q => by unfold chE; rw [hE, if_pos p, if_pos q]
  have HF : Hid (E = 0 → ioB l = false → chE h l h2 l2 = 11) := Lib.hid fun p q => by unfold chE; rw [hE, if_pos p, if_neg (by rw [q]; simp)]
  have HN : Hid (E ≠ 0 → chE h l h2 l2 = E) := Lib.hid fun p => by unfold chE; rw [hE, if_neg p]
  have HPOS : Hid (E = 0 → 0 < l.length) := Lib.hid (fun e => (hiE_pos (hE.trans e)).1)
  rw [hE]
  clear hE
  by_cases k1 : E = 0
  · subst k1
    have hpos := HPOS.out rfl
    have HF0 := Lib.hid (HF.out rfl)
    have HT0 := Lib.hid (HT.out rfl)
    clear HF HT HN HPOS
    go_wp2_with (refine wpList_load_row rfl 33 _ rfl w.heap.size rfl 33 #[.string h.1, .string h.2.1, .int .i64 h.2.2.1, .int .i64 h.2.2.2, .slice a l.length cap] (0, 0) _ hH Tryd.underlying33 rfl (hi_info h _) ?_)
    refine (isOpen_h h _ l _ hR hpos hn).mono ?_; rintro e w4 ⟨rfl, hG4⟩
    have hH := hH.quiet hG4
    have hZ := hZ.quiet hG4
    have hz4 : w2.heap.size ≤ w4.heap.size := Nat.le_trans hz3 hG4.size
    have hG := hG.trans hG4
    have hR := hR.quiet hG4
    clear hG4 hz3
    obtain ⟨B, hB⟩ : ∃ B, ioB l = B := ⟨_, rfl⟩
    have HF := Lib.hid (fun e => HF0.out (hB.trans e))
    have HT := Lib.hid (fun e => HT0.out (hB.trans e))
    clear HF0 HT0
    rw [hB]
    clear hB
    cases B with
    | false =>
      have HX := Lib.hid (HF.out rfl)
      clear HF HT
      go_wp2_with (refine wpList_store_row rfl 33 _ _ rfl (w.heap.size + 1) #[.string ⟨#[]⟩, .string ⟨#[]⟩, .int .i64 0, .int .i64 0, .slice none 0 0] rfl rfl 33 _ hZ (hi_info (⟨#[]⟩, ⟨#[]⟩, 0, 0) (.slice none 0 0)) rfl (hi_one (⟨#[]⟩, ⟨#[]⟩, 0, 0) _ _ _) ?_)
      refine bodyPost_ret (results_cell_hi rfl _ _ (w.heap.size + 1) 33 #[.string ⟨#[]⟩, .string ⟨#[]⟩, .int .i64 0, .int .i64 0, .slice none 0 0] (0, 0) _ rfl (hZ.setRow _) Tryd.underlying33 rfl (hi_info (⟨#[]⟩, ⟨#[]⟩, 0, 0) (.slice none 0 0))) rfl ?_
      rw [HX.out]
      exact ch_none (by omega) h2 l2 (hG.setRow (.inl (by omega)) _)
    | true =>
      have HX := Lib.hid (HT.out rfl)
      clear HF HT
      have c4 : w4.cell? ⟨w.heap.size, 4, none⟩ = some (.slice a l.length cap) := hH.cell 4
      go_wp2_with fail
      refine (cloneLg_c _ l _ hR hn).mono ?_; rintro e w5 ⟨v1, rfl, hown, hG5⟩
      obtain ⟨a1, cap1, rfl, -, -⟩ := RdR.form (Rd.of_owns hown)
      have hz5 : w4.heap.size ≤ w5.heap.size := hG5.size
      have hH5 := hH.quiet hG5
      have hZ5 := hZ.quiet hG5
      have hG5 := hG.trans hG5
      have x4 := hH5.free 4
      have c5 : w5.cell? ⟨w.heap.size, 4, none⟩ = some (.slice a l.length cap) := hH5.cell 4
      clear hH hZ hG hR c4
      have hH6 : Bk (w5.setCell ⟨w.heap.size, 4, none⟩ (.slice a1 l.length cap1)) w.heap.size 33 (hiC h (.slice a1 l.length cap1)) := hH5.set 4 (.slice a1 l.length cap1)
      have hZ6 := hZ5.far (p := ⟨w.heap.size, 4, none⟩) (show w.heap.size + 1 ≠ w.heap.size by omega) (.slice a1 l.length cap1)
      have hG6 := hG5.setCell (p := ⟨w.heap.size, 4, none⟩) (.inl (Nat.le_refl _)) (.slice a1 l.length cap1)
      have hown6 : OwnLg (w5.setCell ⟨w.heap.size, 4, none⟩ (.slice a1 l.length cap1)) w4.heap.size (.slice a1 l.length cap1) l := OwnX.far hown (p := ⟨w.heap.size, 4, none⟩) (hown.ne (.inl (by show w.heap.size < w4.heap.size; omega))) (.slice a1 l.length cap1)
      have hz6 : w4.heap.size ≤ (w5.setCell ⟨w.heap.size, 4, none⟩ (.slice a1 l.length cap1)).heap.size := by simp [World.setCell]; exact hz5
      go_upto_region 7 with fail
      generalize w5.setCell ⟨w.heap.size, 4, none⟩ (.slice a1 l.length cap1) = w6 at hH6 hZ6 hG6 hown6 hz6 ⊢
      clear hH5 hZ5 hG5 hown c5 x4
      have HC := Lib.hid (hcl hpos w6 w.heap.size w4.heap.size (.slice a1 l.length cap1) hG6 hown6 hH6 (Nat.le_refl _) (by omega) hz6)
      go_wp2_with fail
      refine HC.out.mono ?_; rintro e w7 ⟨rfl, v2, hH7, hR7, hv2, hS⟩
      have hown7 := fun k (e : (Value.slice a1 l.length cap1).ownBlock = some k) => OwnX.low hown6 k e
      have hZ7 := hZ6.gs hS (fun e => by
        rcases e with e | e
        · omega
        · have := hown7 _ e; omega)
      have hG7 := GS.own hG6 hS (fun k e => by
        rcases e with e | e
        · omega
        · have := hown7 _ e; omega)
      obtain ⟨a2, cap2, rfl, -, -⟩ := RdR.form hR7
      have HV2 := Lib.hid hv2
      clear hH6 hZ6 hG6 hown6 hS HC hown7 hv2
      simp only [hiC] at hH7
      go_wp2_with (refine wpList_load_row rfl 33 _ rfl w.heap.size rfl 33 #[.string h2.1, .string h2.2.1, .int .i64 h2.2.2.1, .int .i64 h2.2.2.2, .slice a2 l2.length cap2] (0, 0) _ hH7 Tryd.underlying33 rfl (hi_info h2 _) ?_)
      refine (right_c h2 _ l2 _ hR7 hl2 hs12 hs22 hb12 hb22 hn2).mono ?_; rintro e w8 ⟨H, a3, n3, c3, rfl, hHH, hBB, hR8, hG8⟩
      have hZ8 := hZ7.quiet hG8
      have hG08 := hG7.trans hG8
      have HHH := Lib.hid hHH
      have HB3 : Hid (∀ k, (Value.slice a3 n3 c3).ownBlock = some k → w4.heap.size ≤ k) := Lib.hid fun k e => HV2.out k (hBB k e)
      have HR8 := Lib.hid hR8
      clear hHH hBB hR8 hG8 hG7 hZ7 hH7 hR7
      go_wp2_with (refine wpList_store_row rfl 33 _ _ rfl (w.heap.size + 1) #[.string H.1, .string H.2.1, .int .i64 H.2.2.1, .int .i64 H.2.2.2, .slice a3 n3 c3] rfl rfl 33 _ hZ8 (hi_info H _) rfl (hi_one H _ _ _) ?_)
      refine bodyPost_ret (results_cell_hi rfl _ _ (w.heap.size + 1) 33 #[.string H.1, .string H.2.1, .int .i64 H.2.2.1, .int .i64 H.2.2.2, .slice a3 n3 c3] (0, 0) _ rfl (hZ8.setRow _) Tryd.underlying33 rfl (hi_info H _)) rfl ?_
      exact ⟨H, a3, n3, c3, by rw [HX.out]; rfl, by rw [HX.out]; exact HHH.out, fun k e => by have := HB3.out k e; omega, by rw [HX.out]; exact Rd.grown HR8.out ((G.refl w8 (some (w.heap.size + 1))).setRow (.inr rfl) _) (fun k e hk => by cases e; have := HB3.out _ hk; omega), hG08.setRow (.inl (by omega)) _⟩
  · have k1' : (E != 0) = true := by simpa using k1
    have K1 := Lib.hid k1
    have HX := Lib.hid (HN.out k1)
    clear k1 HF HT HN
    go_wp2_with (refine wpList_store_row rfl 33 _ _ rfl (w.heap.size + 1) #[.string ⟨#[]⟩, .string ⟨#[]⟩, .int .i64 0, .int .i64 0, .slice none 0 0] rfl rfl 33 _ hZ (hi_info (⟨#[]⟩, ⟨#[]⟩, 0, 0) (.slice none 0 0)) rfl (hi_one (⟨#[]⟩, ⟨#[]⟩, 0, 0) _ _ _) ?_)
    refine bodyPost_ret (results_cell_hi rfl _ _ (w.heap.size + 1) 33 #[.string ⟨#[]⟩, .string ⟨#[]⟩, .int .i64 0, .int .i64 0, .slice none 0 0] (0, 0) _ rfl (hZ.setRow _) Tryd.underlying33 rfl (hi_info (⟨#[]⟩, ⟨#[]⟩, 0, 0) (.slice none 0 0))) rfl ?_
    rw [HX.out]
    exact ch_none K1.out h2 l2 (hG.setRow (.inl (by omega)) _)
set_option maxRecDepth 100000 in
set_option maxHeartbeats 4000000 in
theorem changedR_c (F : FuncId) (caps : Array Value) (h : Hh) (v : Value) (l : List Lg) (h2 : Hh) (l2 : List Lg) (w : World) (hcf : ∀ (args : Array Value) (w : World), (callFunc F args).run Tryd.prog w = .ok (.enter F args) w) (hcl : 0 < l.length → ChFn F caps h l h2 l2 w) (hr : RdR w 9 lgC v l) (hn : l.length ≤ 1000)
    (hl2 : LgOk l2) (hs12 : Small h2.1) (hs22 : Small h2.2.1) (hb12 : bnd h2.2.2.1) (hb22 : bnd h2.2.2.2) (hn2 : l2.length ≤ 1000) :
    Calls Tryd.prog 96 #[.agg (hiC h v), .func (.func F) #[] caps] w (ChPost (chR l h2 l2) h2 l2 w) := by
  have hH := (Bk.new w 33 (hiC h v)).alloc (.cells hiZ 33)
  have hG := ((G.refl w none).alloc (.cells (hiC h v) 33)).alloc (.cells hiZ 33)
  have hZ := Bk.newAt (w := w.alloc (.cells (hiC h v) 33)) (b := w.heap.size + 1) (by simp) 33 hiZ
  have hR := hr.quiet hG
  have HLO := Lib.hid hr.blk
  obtain ⟨a, cap, rfl, hcap, hm⟩ := RdR.form hr
  clear hr
  have hgs := hH.lt
  have hzs := hZ.lt
  simp only [hiC, hiZ] at hH hG hR hZ hgs hzs ⊢
  go_enter Tryd.func96, Tryd.ntmps96
  go_upto_region 1 with fail
  generalize (w.alloc (.cells #[.string h.1, .string h.2.1, .int .i64 h.2.2.1, .int .i64 h.2.2.2, .slice a l.length cap] 33)).alloc (.cells #[.string ⟨#[]⟩, .string ⟨#[]⟩, .int .i64 0, .int .i64 0, .slice none 0 0] 33) = w2 at hG hH hR hZ hgs hzs ⊢
  go_wp2_with (refine wpList_load_row rfl 33 _ rfl w.heap.size rfl 33 #[.string h.1, .string h.2.1, .int .i64 h.2.2.1, .int .i64 h.2.2.2, .slice a l.length cap] (0, 0) _ hH Tryd.underlying33 rfl (hi_info h _) ?_)
  refine (isOpenR_c h _ l _ hR hn).mono ?_; rintro e w4 ⟨rfl, hG4⟩
  have hH := hH.quiet hG4
  have hZ := hZ.quiet hG4
  have hz4 : w2.heap.size ≤ w4.heap.size := hG4.size
  have hG := hG.trans hG4
  have hR := hR.quiet hG4
  clear hG4
  obtain ⟨B, hB⟩ : ∃ B, ioB l = B := ⟨_, rfl⟩
  have HF : Hid (B = false → chR l h2 l2 = 11) := Lib.hid (fun e => by unfold chR; rw [hB, e, if_neg (by simp)])
  have HP : Hid (B = true → 0 < l.length) := Lib.hid (fun e => ioB_pos (hB.trans e))
  have HT : Hid (B = true → chR l h2 l2 = hiE h2 l2) := Lib.hid (fun e => by unfold chR; rw [hB, e, if_pos rfl])
  rw [hB]
  clear hB
  cases B with
  | false =>
    have HX := Lib.hid (HF.out rfl)
    clear HF HT
    go_wp2_with (refine wpList_store_row rfl 33 _ _ rfl (w.heap.size + 1) #[.string ⟨#[]⟩, .string ⟨#[]⟩, .int .i64 0, .int .i64 0, .slice none 0 0] rfl rfl 33 _ hZ (hi_info (⟨#[]⟩, ⟨#[]⟩, 0, 0) (.slice none 0 0)) rfl (hi_one (⟨#[]⟩, ⟨#[]⟩, 0, 0) _ _ _) ?_)
    refine bodyPost_ret (results_cell_hi rfl _ _ (w.heap.size + 1) 33 #[.string ⟨#[]⟩, .string ⟨#[]⟩, .int .i64 0, .int .i64 0, .slice none 0 0] (0, 0) _ rfl (hZ.setRow _) Tryd.underlying33 rfl (hi_info (⟨#[]⟩, ⟨#[]⟩, 0, 0) (.slice none 0 0))) rfl ?_
    rw [HX.out]
    exact ch_none (by omega) h2 l2 (hG.setRow (.inl (by omega)) _)
  | true =>
    have HX := Lib.hid (HT.out rfl)
    have hpos := HP.out rfl
    clear HF HT HP
    have c4 : w4.cell? ⟨w.heap.size, 4, none⟩ = some (.slice a l.length cap) := hH.cell 4
    go_wp2_with fail
    refine (cloneLg_c _ l _ hR hn).mono ?_; rintro e w5 ⟨v1, rfl, hown, hG5⟩
    obtain ⟨a1, cap1, rfl, -, -⟩ := RdR.form (Rd.of_owns hown)
    have hz5 : w4.heap.size ≤ w5.heap.size := hG5.size
    have hH5 := hH.quiet hG5
    have hZ5 := hZ.quiet hG5
    have hG5 := hG.trans hG5
    have x4 := hH5.free 4
    have c5 : w5.cell? ⟨w.heap.size, 4, none⟩ = some (.slice a l.length cap) := hH5.cell 4
    clear hH hZ hG hR c4
    have hH6 : Bk (w5.setCell ⟨w.heap.size, 4, none⟩ (.slice a1 l.length cap1)) w.heap.size 33 (hiC h (.slice a1 l.length cap1)) := hH5.set 4 (.slice a1 l.length cap1)
    have hZ6 := hZ5.far (p := ⟨w.heap.size, 4, none⟩) (show w.heap.size + 1 ≠ w.heap.size by omega) (.slice a1 l.length cap1)
    have hG6 := hG5.setCell (p := ⟨w.heap.size, 4, none⟩) (.inl (Nat.le_refl _)) (.slice a1 l.length cap1)
    have hown6 : OwnLg (w5.setCell ⟨w.heap.size, 4, none⟩ (.slice a1 l.length cap1)) w4.heap.size (.slice a1 l.length cap1) l := OwnX.far hown (p := ⟨w.heap.size, 4, none⟩) (hown.ne (.inl (by show w.heap.size < w4.heap.size; omega))) (.slice a1 l.length cap1)
    have hz6 : w4.heap.size ≤ (w5.setCell ⟨w.heap.size, 4, none⟩ (.slice a1 l.length cap1)).heap.size := by simp [World.setCell]; exact hz5
    go_upto_region 4 with fail
    generalize w5.setCell ⟨w.heap.size, 4, none⟩ (.slice a1 l.length cap1) = w6 at hH6 hZ6 hG6 hown6 hz6 ⊢
    clear hH5 hZ5 hG5 hown c5 x4
    have HC := Lib.hid (hcl hpos w6 w.heap.size w4.heap.size (.slice a1 l.length cap1) hG6 hown6 hH6 (Nat.le_refl _) (by omega) hz6)
    go_wp2_with fail
    refine HC.out.mono ?_; rintro e w7 ⟨rfl, v2, hH7, hR7, hv2, hS⟩
    have hown7 := fun k (e : (Value.slice a1 l.length cap1).ownBlock = some k) => OwnX.low hown6 k e
    have hZ7 := hZ6.gs hS (fun e => by
      rcases e with e | e
      · omega
      · have := hown7 _ e; omega)
    have hG7 := GS.own hG6 hS (fun k e => by
      rcases e with e | e
      · omega
      · have := hown7 _ e; omega)
    obtain ⟨a2, cap2, rfl, -, -⟩ := RdR.form hR7
    have HV2 := Lib.hid hv2
    clear hH6 hZ6 hG6 hown6 hS HC hown7 hv2
    simp only [hiC] at hH7
    go_wp2_with (refine wpList_load_row rfl 33 _ rfl w.heap.size rfl 33 #[.string h2.1, .string h2.2.1, .int .i64 h2.2.2.1, .int .i64 h2.2.2.2, .slice a2 l2.length cap2] (0, 0) _ hH7 Tryd.underlying33 rfl (hi_info h2 _) ?_)
    refine (made_c h2 _ l2 _ hR7 hl2 hs12 hs22 hb12 hb22 hn2).mono ?_; rintro e w8 ⟨H, a3, n3, c3, rfl, hHH, hBB, hR8, hG8⟩
    have hZ8 := hZ7.quiet hG8
    have hG08 := hG7.trans hG8
    have HHH := Lib.hid hHH
    have HB3 : Hid (∀ k, (Value.slice a3 n3 c3).ownBlock = some k → w4.heap.size ≤ k) := Lib.hid fun k e => HV2.out k (hBB k e)
    have HR8 := Lib.hid hR8
    clear hHH hBB hR8 hG8 hG7 hZ7 hH7 hR7
    go_wp2_with (refine wpList_store_row rfl 33 _ _ rfl (w.heap.size + 1) #[.string H.1, .string H.2.1, .int .i64 H.2.2.1, .int .i64 H.2.2.2, .slice a3 n3 c3] rfl rfl 33 _ hZ8 (hi_info H _) rfl (hi_one H _ _ _) ?_)
    refine bodyPost_ret (results_cell_hi rfl _ _ (w.heap.size + 1) 33 #[.string H.1, .string H.2.1, .int .i64 H.2.2.1, .int .i64 H.2.2.2, .slice a3 n3 c3] (0, 0) _ rfl (hZ8.setRow _) Tryd.underlying33 rfl (hi_info H _)) rfl ?_
    exact ⟨H, a3, n3, c3, by rw [HX.out]; rfl, by rw [HX.out]; exact HHH.out, fun k e => by have := HB3.out k e; omega, by rw [HX.out]; exact Rd.grown HR8.out ((G.refl w8 (some (w.heap.size + 1))).setRow (.inr rfl) _) (fun k e hk => by cases e; have := HB3.out _ hk; omega), hG08.setRow (.inl (by omega)) _⟩
end Go.Proofs.YtdcofbciebkfkaaDoor

/- slices.Index, Contains, Equal at lists of strings; the classes' own IndexFunc. -/
namespace Go.Proofs.YtdcofbciebkfkaaDoor
open Go.RowKit

/-- A list of strings. -/
abbrev RdS (w : World) (v : Value) (l : List ByteArray) : Prop := Rd w 1 v l.length (l.map Value.string)
theorem rdS_cell {w : World} {a : Addr} {l : List ByteArray} {n c : Nat} (h : Rd w 1 (.slice (some a) n c) n (l.map Value.string)) : ∃ b o, a = ⟨b, o, none⟩ ∧ b < w.heap.size ∧ ∀ (j : Nat) (s : ByteArray), l[j]? = some s → w.cell? ⟨b, o + j, none⟩ = some (.string s) := by
  obtain ⟨a', c', e', _, _, _, _, h5⟩ := h
  injection e' with e1 e2 e3
  subst e1
  obtain ⟨b, o, sp⟩ := a
  obtain ⟨q1, q2, q3⟩ := h5 _ rfl
  dsimp only at q1 q2 q3
  subst q1
  exact ⟨b, o, rfl, q2, fun j s hj => q3 j _ (by rw [List.getElem?_map, hj]; rfl)⟩
/-- The first place of a string, from 'k' on counted; -1: none. -/
def idxF (t : ByteArray) : List ByteArray → Int → Int
  | [], _ => -1
  | s :: r, k => if eqB t s = true then k else idxF t r (k + 1)
def IxRel (l : List ByteArray) (t : ByteArray) (i : Value) : Prop := ∃ k : Nat, k ≤ l.length ∧ i = .int .i64 k ∧ idxF t l 0 = idxF t (l.drop k) k
theorem eqB_comm (a b : ByteArray) : eqB a b = eqB b a := by
  rw [Bool.eq_iff_iff, eqB_iff, eqB_iff]
  exact ⟨fun h => h.symm, fun h => h.symm⟩
theorem idxF_range (t : ByteArray) (l : List ByteArray) : ∀ k : Nat, idxF t l k = -1 ∨ ((k : Int) ≤ idxF t l k ∧ idxF t l k < k + l.length) := by
  induction l with
  | nil => intro k; exact .inl rfl
  | cons s r ih =>
    intro k
    unfold idxF
    split
    · right; simp; omega
    · rcases ih (k + 1) with h | h
      · left; exact h
      · right
        have e : idxF t r ((k : Int) + 1) = idxF t r ((k + 1 : Nat) : Int) := rfl
        rw [e]
        simp only [List.length_cons]
        omega
theorem idxF_has (t : ByteArray) (l : List ByteArray) : ∀ k : Nat, (0 ≤ idxF t l k) ↔ hasK l t = true := by
  induction l with
  | nil => intro k; simp [idxF, hasK]
  | cons s r ih =>
    intro k
    unfold idxF hasK
    rw [List.any_cons, eqB_comm t s]
    cases he : eqB s t with
    | true => simp
    | false =>
      have := ih (k + 1)
      unfold hasK at this
      simpa using this
def EqRel (n : Nat) (w : World) (i : Value) (wr : World) : Prop := ∃ k m : Nat, k ≤ n ∧ i = .int .i64 k ∧ wr = w.drewN m
set_option maxRecDepth 100000 in
set_option maxHeartbeats 1000000 in
/-- Of two lists that are equal. -/
theorem sEqual_c (v u : Value) (a : List ByteArray) (w : World) (hr : RdS w v a) (hs : RdS w u a) (hn : a.length ≤ 1000000) :
    Calls Tryd.prog 39 #[v, u] w fun e w' => e = .returned (.bool true) ∧ G w w' none := by
  have hr0 := hr
  have hs0 := hs
  obtain ⟨ad, cap, rfl, hcap, hm, hlen, hnil, hx⟩ := hr
  obtain ⟨ad2, cap2, rfl, hcap2, hm2, hlen2, hnil2, hx2⟩ := hs
  clear hx hx2 hlen hlen2
  have HR := Lib.hid hr0
  have HS := Lib.hid hs0
  have HN := Lib.hid hnil
  have HN2 := Lib.hid hnil2
  clear hr0 hs0 hnil hnil2
  go_enter Tryd.func39, Tryd.ntmps39
  go_wp2_with fail
  go_loopw [13] (EqRel a.length w) (fun i _ => a.length - (intOf i).toNat)
  case atStart => exact ⟨0, 0, by omega, rfl, rfl⟩
  case round =>
    obtain ⟨k, n, hk, rfl, rfl⟩ := hrel
    by_cases hlt : k < a.length
    · obtain ⟨s, hs⟩ : ∃ s, a[k]? = some s := ⟨_, List.getElem?_eq_getElem hlt⟩
      cases ad with
      | none => have := (HN.out rfl).1; omega
      | some ad =>
        cases ad2 with
        | none => have := (HN2.out rfl).1; omega
        | some ad2 =>
          obtain ⟨bb, bo, rfl, hbb, hcell⟩ := rdS_cell HR.out
          obtain ⟨b2, o2, rfl, hb2, hcell2⟩ := rdS_cell HS.out
          have hc := hcell k s hs
          have hc2 := hcell2 k s hs
          clear hcell hcell2 hs
          go_wp2_with fail
          go_quiet (fail)
          go_wp2_with fail
          go_roundw
          case rel => exact ⟨k + 1, _, by omega, by go_num, rfl⟩
          case measure => simp [intOf]; omega
    · obtain rfl : k = a.length := by omega
      go_wp2_with fail
      go_ret
      exact ⟨rfl, (G.refl _ _).drewN _⟩
end Go.Proofs.YtdcofbciebkfkaaDoor

/- Overdue, OverdueOf. Written by genovd.py. -/
namespace Go.Proofs.YtdcofbciebkfkaaDoor
open Go.RowKit

def ssC (s : ByteArray) : Array Value := #[.string s]
theorem ss_rowL (l : List ByteArray) : rowL ssC l = l.map Value.string := by
  induction l with
  | nil => rfl
  | cons s l ih => rw [rowL_cons, ih]; rfl
theorem ss_rowOk : RowOk Tryd.prog 9 59 1 16 (.string ⟨#[]⟩) ssC := ⟨by kernel_rfl, Tryd.underlying59, fun r u hu => by simp [ssC] at hu; subst hu; rfl, fun _ => rfl, rfl, by omega, by omega⟩
abbrev OwnSt (w : World) (base : Nat) (v : Value) (l : List ByteArray) : Prop := OwnX 9 1 ssC w base v l
theorem OwnSt.rd {w : World} {base : Nat} {v : Value} {l : List ByteArray} (h : OwnSt w base v l) : RdS w v l := by
  have := Rd.of_owns h
  rwa [ss_rowL] at this
theorem rdS_nil (w : World) : RdS w (.slice none 0 0) [] := RdR.nil (c := ssC) w 1
/-- The hires that should have ended. -/
def odB (t : Int) (x : Hx) : Bool := ioB x.2.2 && decide (x.1.2.2.2 ≤ t)
def odL (t : Int) (L : List Hx) : List ByteArray := (L.filter (odB t)).map (·.1.1)
theorem odL_step (t : Int) (L : List Hx) (k : Nat) (p : Hx) (hp : L[k]? = some p) : odL t (L.take (k + 1)) = if odB t p = true then odL t (L.take k) ++ [p.1.1] else odL t (L.take k) := by
  unfold odL
  rw [List.take_add_one, hp]
  simp only [Option.toList, List.filter_append, List.map_append]
  by_cases h : odB t p = true
  · rw [if_pos h]; simp [h]
  · rw [if_neg h]; simp [h]
theorem odL_len (t : Int) (L : List Hx) : (odL t L).length ≤ L.length := by
  unfold odL
  rw [List.length_map]
  exact List.length_filter_le _ _
def odR (E : Int) (t : Int) (L : List Hx) : List ByteArray := if E = 0 then odL t L else []
def odE (t : Int) (L : List Hx) : Int := if haE L = 0 then (if momB t = true then 0 else 1) else haE L
theorem hsE_all : ∀ (L : List Hx) (b : ByteArray), hsE b L = 0 → ∀ x ∈ L, hxE x = 0
  | [], _, _, x, hx => by cases hx
  | y :: r, b, e, x, hx => by
    unfold hsE at e
    split at e
    · next h =>
      split at e
      · cases e
      · rcases List.mem_cons.1 hx with rfl | hx
        · exact h
        · exact hsE_all r _ e x hx
    · contradiction
theorem haE_all {L : List Hx} (e : haE L = 0) : (∀ x ∈ L, hxE x = 0) ∧ L.length ≤ 500 := by
  unfold haE at e
  split at e
  · cases e
  · exact ⟨hsE_all L _ e, by omega⟩
def OdRel (w : World) (t : Int) (L : List Hx) (v i : Value) (wr : World) : Prop :=
  ∃ k : Nat, k ≤ L.length ∧ i = .int .i64 k ∧ OwnSt wr w.heap.size v (odL t (L.take k)) ∧ G w wr none
set_option maxRecDepth 100000 in
set_option maxHeartbeats 4000000 in
theorem overdueOf_c (u : Value) (L : List Hx) (t : Int) (w : World) (hr : HxR w u L) (hl : HxOk L) (he : haE L = 0) :
    Calls Tryd.prog 40 #[u, .int .i64 t] w fun e w' => ∃ v', e = .returned v' ∧ RdS w' v' (odL t L) ∧ G w w' none := by
  obtain ⟨hall, hn⟩ := haE_all he
  obtain ⟨a, cap, rfl, hcap, hm⟩ := RdR.form hr.1
  have HRR := Lib.hid hr.1
  have HX := Lib.hid hr.2
  clear hr he
  go_enter Tryd.func40, Tryd.ntmps40
  go_wp2_with fail
  go_loopw [5, 10] (OdRel w t L) (fun _ i _ => L.length - (intOf i).toNat)
  case atStart => exact ⟨0, by omega, rfl, World.ownsRow_nil _ _ _ _, G.refl _ _⟩
  case round =>
    obtain ⟨k, hk, rfl, hown, hGr⟩ := hrel
    by_cases hlt : k < L.length
    · obtain ⟨p, hp⟩ : ∃ p, L[k]? = some p := ⟨_, List.getElem?_eq_getElem hlt⟩
      have HD := Lib.hid (odL_step t L k p hp)
      have hln : (odL t (L.take k)).length ≤ 1000 := by have := odL_len t (L.take k); rw [List.length_take] at this; omega
      have hL := Rd.quiet (HX.out p (List.mem_of_getElem? hp)) hGr
      have hq6 := (hl p (List.mem_of_getElem? hp)).2.2.2.2.2
      have hq0 := hiE_pos (hall p (List.mem_of_getElem? hp))
      obtain ⟨bb, bo, rfl, -, -⟩ := RdR.elem hxC_sz HRR.out hGr hp
      have HW := Lib.hid (hxRow HRR.out hGr hp)
      have HK := Lib.hid hlt
      have hB5 : Bk (wr.alloc (.cells #[.string p.1.1, .string p.1.2.1, .int .i64 p.1.2.2.1, .int .i64 p.1.2.2.2, .slice p.2.1.1 p.2.2.length p.2.1.2] 33)) wr.heap.size 33 #[.string p.1.1, .string p.1.2.1, .int .i64 p.1.2.2.1, .int .i64 p.1.2.2.2, .slice p.2.1.1 p.2.2.length p.2.1.2] := Bk.new _ _ _
      have hG5 := hGr.alloc (.cells #[.string p.1.1, .string p.1.2.1, .int .i64 p.1.2.2.1, .int .i64 p.1.2.2.2, .slice p.2.1.1 p.2.2.length p.2.1.2] 33)
      have hL5 := Rd.quiet hL ((G.refl wr none).alloc (.cells #[.string p.1.1, .string p.1.2.1, .int .i64 p.1.2.2.1, .int .i64 p.1.2.2.2, .slice p.2.1.1 p.2.2.length p.2.1.2] 33))
      have hown5 := OwnX.alloc hown (.cells #[.string p.1.1, .string p.1.2.1, .int .i64 p.1.2.2.1, .int .i64 p.1.2.2.2, .slice p.2.1.1 p.2.2.length p.2.1.2] 33)
      clear hp hL hown
      go_upto_region 5 with (refine wpList_load_at rfl 33 _ rfl ⟨bb, bo + k * 5, none⟩ rfl #[.string p.1.1, .string p.1.2.1, .int .i64 p.1.2.2.1, .int .i64 p.1.2.2.2, .slice p.2.1.1 p.2.2.length p.2.1.2] _ HW.out Tryd.underlying33 rfl (hi_info p.1 (hxV p)) ?_)
      have hwr := hGr.size
      generalize wr.alloc (.cells #[.string p.1.1, .string p.1.2.1, .int .i64 p.1.2.2.1, .int .i64 p.1.2.2.2, .slice p.2.1.1 p.2.2.length p.2.1.2] 33) = w5 at hB5 hG5 hL5 hown5 ⊢
      generalize wr.heap.size = g at hB5 hwr ⊢
      go_wp2_with (refine wpList_load_row rfl 33 _ rfl g rfl 33 #[.string p.1.1, .string p.1.2.1, .int .i64 p.1.2.2.1, .int .i64 p.1.2.2.2, .slice p.2.1.1 p.2.2.length p.2.1.2] (0, 0) _ hB5 Tryd.underlying33 rfl (hi_info p.1 (hxV p)) ?_)
      refine (isOpenR_c p.1 (hxV p) p.2.2 _ hL5 (by omega)).mono ?_; rintro e w6 ⟨rfl, hh⟩
      have hB6 := hB5.quiet hh
      have hG6 := hG5.trans hh
      have hown6 := OwnX.quiet hown5 hh
      have c0 : w6.cell? ⟨g, 0, none⟩ = some (.string p.1.1) := hB6.cell 0
      have c3 : w6.cell? ⟨g, 3, none⟩ = some (.int .i64 p.1.2.2.2) := hB6.cell 3
      have hsz := hG6.size
      clear hB5 hG5 hL5 hown5 hh hB6
      cases hio : ioB p.2.2 with
      | false =>
        have HF : Hid (odL t (L.take (k + 1)) = odL t (L.take k)) := Lib.hid (by rw [HD.out, if_neg (by simp [odB, hio])])
        clear hio HD
        go_wp2_with fail
        go_roundw
        case rel => exact ⟨k + 1, by omega, by go_num, by rw [HF.out]; exact hown6, hG6⟩
        case measure => have := HK.out; simp [intOf]; omega
      | true =>
        by_cases hle : p.1.2.2.2 ≤ t
        · have HF : Hid (odL t (L.take (k + 1)) = odL t (L.take k) ++ [p.1.1]) := Lib.hid (by rw [HD.out, if_pos (by simp [odB, hio, hle])])
          clear hio HD
          have hownA := OwnX.alloc hown6 (.cells #[.string p.1.1] 9)
          go_wp2_with (at_builtin; refine wpList_plain rfl fun K' hK' => wp_append_x ss_rowOk _ _ rfl w.heap.size u5 (odL t (L.take k)) rfl hownA w6.heap.size p.1.1 rfl (Bk.new w6 _ _) hln (by simp; omega) ?_; intro v8 w8 hown8 hgrow; refine hK' _ _ ?_)
          have hob := OwnX.low hown6
          go_roundw
          case rel => exact ⟨k + 1, by omega, by go_num, by rw [HF.out]; exact hown8, (hG6.alloc _).other hgrow (fun r e => .inl (hob r e))⟩
          case measure => have := HK.out; simp [intOf]; omega
        · have HF : Hid (odL t (L.take (k + 1)) = odL t (L.take k)) := Lib.hid (by rw [HD.out, if_neg (by simp [odB, hle])])
          clear hio HD
          go_wp2_with fail
          go_roundw
          case rel => exact ⟨k + 1, by omega, by go_num, by rw [HF.out]; exact hown6, hG6⟩
          case measure => have := HK.out; simp [intOf]; omega
    · obtain rfl : k = L.length := by omega
      rw [List.take_length] at hown
      go_wp2_with fail
      go_ret
      exact ⟨_, rfl, OwnSt.rd hown, hGr⟩
set_option maxRecDepth 100000 in
set_option maxHeartbeats 4000000 in
theorem overdue_c (u : Value) (L : List Hx) (t : Int) (w : World) (hr : HxR w u L) (hl : HxOk L) (hn : L.length ≤ 1000) :
    Calls Tryd.prog 34 #[u, .int .i64 t] w fun e w' => ∃ v', e = .returned (.tuple #[v', .int .i64 (odE t L)]) ∧ RdS w' v' (odR (odE t L) t L) ∧ G w w' none := by
  obtain ⟨a, cap, rfl, hcap, hm⟩ := RdR.form hr.1
  have HE := Lib.hid (show odE t L = if haE L = 0 then (if momB t = true then 0 else 1) else haE L from rfl)
  have HAL := Lib.hid (fun e : haE L = 0 => haE_all e)
  generalize odE t L = E at HE ⊢
  go_enter Tryd.func34, Tryd.ntmps34
  go_wp2_with fail
  refine (checkAll_c _ L _ hr hl hn).mono ?_; rintro e w3 ⟨rfl, hG⟩
  have hR := hr.quiet hG
  clear hr
  generalize haE L = HA at HE HAL ⊢
  by_cases k1 : HA = 0
  · have HE1 : Hid (E = if momB t = true then 0 else 1) := Lib.hid (by rw [HE.out, if_pos k1])
    obtain ⟨hall, -⟩ := HAL.out k1
    subst k1
    clear HE HAL
    go_wp2_with fail
    refine (isMoment_c _ _).mono ?_; rintro e w' ⟨rfl, rfl⟩
    cases k3 : momB t with
    | false =>
      have hE : E = 1 := by rw [HE1.out, if_neg (by simp [k3])]
      subst hE
      clear HE1 k3
      go_wp2_with fail
      go_ret2
      exact ⟨_, rfl, rdS_nil _, hG⟩
    | true =>
      have hE : E = 0 := by rw [HE1.out, if_pos k3]
      subst hE
      have HRR := Lib.hid hR.1
      have HX := Lib.hid hR.2
      clear HE1 k3 hR
      go_wp2_with fail
      go_loopw [7, 20] (OdRel w3 t L) (fun _ i _ => L.length - (intOf i).toNat)
      case atStart => exact ⟨0, by omega, rfl, World.ownsRow_nil _ _ _ _, G.refl _ _⟩
      case round =>
        obtain ⟨k, hk, rfl, hown, hGr⟩ := hrel
        by_cases hlt : k < L.length
        · obtain ⟨p, hp⟩ : ∃ p, L[k]? = some p := ⟨_, List.getElem?_eq_getElem hlt⟩
          have HD := Lib.hid (odL_step t L k p hp)
          have hln : (odL t (L.take k)).length ≤ 1000 := by have := odL_len t (L.take k); rw [List.length_take] at this; omega
          have hL := Rd.quiet (HX.out p (List.mem_of_getElem? hp)) hGr
          have hq6 := (hl p (List.mem_of_getElem? hp)).2.2.2.2.2
          have hq0 := hiE_pos (hall p (List.mem_of_getElem? hp))
          obtain ⟨bb, bo, rfl, -, -⟩ := RdR.elem hxC_sz HRR.out hGr hp
          have HW := Lib.hid (hxRow HRR.out hGr hp)
          have HK := Lib.hid hlt
          have hB5 : Bk (wr.alloc (.cells #[.string p.1.1, .string p.1.2.1, .int .i64 p.1.2.2.1, .int .i64 p.1.2.2.2, .slice p.2.1.1 p.2.2.length p.2.1.2] 33)) wr.heap.size 33 #[.string p.1.1, .string p.1.2.1, .int .i64 p.1.2.2.1, .int .i64 p.1.2.2.2, .slice p.2.1.1 p.2.2.length p.2.1.2] := Bk.new _ _ _
          have hG5 := hGr.alloc (.cells #[.string p.1.1, .string p.1.2.1, .int .i64 p.1.2.2.1, .int .i64 p.1.2.2.2, .slice p.2.1.1 p.2.2.length p.2.1.2] 33)
          have hL5 := Rd.quiet hL ((G.refl wr none).alloc (.cells #[.string p.1.1, .string p.1.2.1, .int .i64 p.1.2.2.1, .int .i64 p.1.2.2.2, .slice p.2.1.1 p.2.2.length p.2.1.2] 33))
          have hown5 := OwnX.alloc hown (.cells #[.string p.1.1, .string p.1.2.1, .int .i64 p.1.2.2.1, .int .i64 p.1.2.2.2, .slice p.2.1.1 p.2.2.length p.2.1.2] 33)
          clear hp hL hown
          go_upto_region 10 with (refine wpList_load_at rfl 33 _ rfl ⟨bb, bo + k * 5, none⟩ rfl #[.string p.1.1, .string p.1.2.1, .int .i64 p.1.2.2.1, .int .i64 p.1.2.2.2, .slice p.2.1.1 p.2.2.length p.2.1.2] _ HW.out Tryd.underlying33 rfl (hi_info p.1 (hxV p)) ?_)
          have hwr := hGr.size
          generalize wr.alloc (.cells #[.string p.1.1, .string p.1.2.1, .int .i64 p.1.2.2.1, .int .i64 p.1.2.2.2, .slice p.2.1.1 p.2.2.length p.2.1.2] 33) = w5 at hB5 hG5 hL5 hown5 ⊢
          generalize wr.heap.size = g at hB5 hwr ⊢
          go_wp2_with (refine wpList_load_row rfl 33 _ rfl g rfl 33 #[.string p.1.1, .string p.1.2.1, .int .i64 p.1.2.2.1, .int .i64 p.1.2.2.2, .slice p.2.1.1 p.2.2.length p.2.1.2] (0, 0) _ hB5 Tryd.underlying33 rfl (hi_info p.1 (hxV p)) ?_)
          refine (isOpen_h p.1 (hxV p) p.2.2 _ hL5 hq0.1 (by omega)).mono ?_; rintro e w6 ⟨rfl, hh⟩
          have hB6 := hB5.quiet hh
          have hG6 := hG5.trans hh
          have hown6 := OwnX.quiet hown5 hh
          have c0 : w6.cell? ⟨g, 0, none⟩ = some (.string p.1.1) := hB6.cell 0
          have c3 : w6.cell? ⟨g, 3, none⟩ = some (.int .i64 p.1.2.2.2) := hB6.cell 3
          have hsz := hG6.size
          clear hB5 hG5 hL5 hown5 hh hB6
          cases hio : ioB p.2.2 with
          | false =>
            have HF : Hid (odL t (L.take (k + 1)) = odL t (L.take k)) := Lib.hid (by rw [HD.out, if_neg (by simp [odB, hio])])
            clear hio HD
            go_wp2_with fail
            go_roundw
            case rel => exact ⟨k + 1, by omega, by go_num, by rw [HF.out]; exact hown6, hG6⟩
            case measure => have := HK.out; simp [intOf]; omega
          | true =>
            by_cases hle : p.1.2.2.2 ≤ t
            · have HF : Hid (odL t (L.take (k + 1)) = odL t (L.take k) ++ [p.1.1]) := Lib.hid (by rw [HD.out, if_pos (by simp [odB, hio, hle])])
              clear hio HD
              have hownA := OwnX.alloc hown6 (.cells #[.string p.1.1] 9)
              go_wp2_with (at_builtin; refine wpList_plain rfl fun K' hK' => wp_append_x ss_rowOk _ _ rfl w3.heap.size u7 (odL t (L.take k)) rfl hownA w6.heap.size p.1.1 rfl (Bk.new w6 _ _) hln (by simp; omega) ?_; intro v8 w8 hown8 hgrow; refine hK' _ _ ?_)
              have hob := OwnX.low hown6
              go_roundw
              case rel => exact ⟨k + 1, by omega, by go_num, by rw [HF.out]; exact hown8, (hG6.alloc _).other hgrow (fun r e => .inl (hob r e))⟩
              case measure => have := HK.out; simp [intOf]; omega
            · have HF : Hid (odL t (L.take (k + 1)) = odL t (L.take k)) := Lib.hid (by rw [HD.out, if_neg (by simp [odB, hle])])
              clear hio HD
              go_wp2_with fail
              go_roundw
              case rel => exact ⟨k + 1, by omega, by go_num, by rw [HF.out]; exact hown6, hG6⟩
              case measure => have := HK.out; simp [intOf]; omega
        · obtain rfl : k = L.length := by omega
          rw [List.take_length] at hown
          go_wp2_with fail
          go_ret2
          exact ⟨_, rfl, OwnSt.rd hown, hG.trans hGr⟩
  · have k1' : (HA != 0) = true := by simpa using k1
    have hE : E = HA := by rw [HE.out, if_neg k1]
    subst hE
    clear HE HAL
    go_wp2_with fail
    go_ret2
    exact ⟨_, rfl, by rw [odR, if_neg k1]; exact rdS_nil _, hG⟩
end Go.Proofs.YtdcofbciebkfkaaDoor

/- Clashes of all hires. -/
namespace Go.Proofs.YtdcofbciebkfkaaDoor
open Go.RowKit

def clRow (x : Hx) : List Hx → List Ks
  | [] => []
  | y :: r => clOf x.1 y.1 x.2.2 y.2.2 ++ clRow x r
def clAll : List Hx → List Ks
  | [] => []
  | x :: r => clRow x r ++ clAll r
/-- The list from a place on. -/
theorem RdR.drop {α : Type} {w : World} {z : Nat} {c : α → Array Value} {a : Option Addr} {n cap : Nat} {l : List α} (hz : ∀ p, (c p).size = z) (h : RdR w z c (.slice a n cap) l) (k : Nat) (hk : k ≤ l.length) :
    RdR w z c (.slice (if cap = k then a else a.map (·.add (k * z))) (n - k) (cap - k)) (l.drop k) := by
  obtain ⟨a', c', e, h1, h2, h3, h4, h5⟩ := h
  obtain ⟨rfl, rfl, rfl⟩ : a = a' ∧ n = l.length ∧ cap = c' := by cases e; exact ⟨rfl, rfl, rfl⟩
  have hlen : (l.drop k).length = l.length - k := List.length_drop
  refine ⟨_, _, by rw [hlen], by omega, by omega, rowL_len hz _, fun e => ?_, fun b hb => ?_⟩
  · split at e
    · have := (h4 e).1; exact ⟨by omega, by omega⟩
    · cases a with
      | none => have := h4 rfl; exact ⟨by omega, by omega⟩
      | some ad => simp at e
  · by_cases hc : cap = k
    · rw [if_pos hc] at hb
      obtain ⟨q1, q2, q3⟩ := h5 b hb
      have hl0 : l.drop k = [] := List.eq_nil_of_length_eq_zero (by omega)
      exact ⟨q1, q2, fun j u hj => by rw [hl0] at hj; simp [rowL] at hj⟩
    · rw [if_neg hc] at hb
      cases a with
      | none => simp at hb
      | some ad =>
        obtain ⟨q1, q2, q3⟩ := h5 ad rfl
        obtain ⟨bb, bo, bs⟩ := ad
        dsimp only at q1 q2 q3
        subst q1
        simp only [Option.map_some, Option.some.injEq] at hb
        rw [add_at] at hb
        subst hb
        refine ⟨rfl, q2, fun j u hj => ?_⟩
        have e2 : rowL c l = rowL c (l.take k) ++ rowL c (l.drop k) := by
          unfold rowL
          rw [← List.flatMap_append, List.take_append_drop]
        have hlk : (rowL c (l.take k)).length = k * z := by rw [rowL_len hz, List.length_take, Nat.min_eq_left hk]
        have := q3 (k * z + j) u (by rw [e2, List.getElem?_append_right (by omega), hlk, show k * z + j - k * z = j by omega]; exact hj)
        dsimp only at this ⊢
        rw [show bo + k * z + j = bo + (k * z + j) by omega]
        exact this
theorem clRow_len (x : Hx) (r : List Hx) : (clRow x r).length ≤ 2 * r.length := by
  induction r with
  | nil => simp [clRow]
  | cons y r ih =>
    have := clOf_len x.1 y.1 x.2.2 y.2.2
    simp only [clRow, List.length_append, List.length_cons]
    omega
def CoRel (w : World) (L : List Hx) (s5 i : Value) (wr : World) : Prop :=
  ∃ (k : Nat) (acc : List Ks), k ≤ L.length ∧ i = .int .i64 k ∧ clAll L = acc ++ clAll (L.drop k) ∧ acc.length ≤ 10 * k ∧ OwnKs wr w.heap.size s5 acc ∧ G w wr none
def CiRel (w : World) (g : Nat) (x : Hx) (R : List Hx) (acc0 : List Ks) (s5 i : Value) (wr : World) : Prop :=
  ∃ (j : Nat) (acc : List Ks), j ≤ R.length ∧ i = .int .i64 j ∧ clRow x R = acc ++ clRow x (R.drop j) ∧ acc.length ≤ 2 * j ∧ OwnKs wr w.heap.size s5 (acc0 ++ acc) ∧ Bk wr g 33 (hxC x) ∧ G w wr none
theorem OwnX.apart {α : Type} {T T' : TypeId} {z g base : Nat} {c : α → Array Value} {w : World} {v : Value} {l : List α} {cs : Array Value} (h : OwnX T z c w base v l) (hB : Bk w g T' cs) (hT : T ≠ T') : some g ≠ v.ownBlock := by
  rcases h.2 with ⟨rfl, _⟩ | ⟨g', cap, cur, rfl, _, hg, _⟩
  · simp [Value.ownBlock]
  · intro e
    simp only [Value.ownBlock, Option.map_some, Option.some.injEq] at e
    subst e
    have h2 := hB.symm.trans hg
    simp only [Option.some.injEq, Obj.cells.injEq] at h2
    exact hT h2.2.1.symm
def ksR (L : List Hx) : List Ks := if haE L = 0 then clAll L else []
set_option maxRecDepth 100000 in
set_option maxHeartbeats 8000000 in
theorem clashes_c (u : Value) (L : List Hx) (w : World) (hr : HxR w u L) (hl : HxOk L) (hn : L.length ≤ 5) :
    Calls Tryd.prog 42 #[u] w fun e w' => ∃ v', e = .returned (.tuple #[v', .int .i64 (haE L)]) ∧ RdR w' 4 ksC v' (ksR L) ∧ G w w' none := by
  obtain ⟨a, cap, rfl, hcap, hm⟩ := RdR.form hr.1
  obtain ⟨RS, hRS⟩ : ∃ RS, ksR L = RS := ⟨_, rfl⟩
  have HRS : Hid (RS = if haE L = 0 then clAll L else []) := Lib.hid (by rw [← hRS]; rfl)
  rw [hRS]
  clear hRS
  obtain ⟨HA, hHA⟩ : ∃ HA, haE L = HA := ⟨_, rfl⟩
  have HHA := Lib.hid hHA
  rw [hHA] at HRS ⊢
  clear hHA
  go_enter Tryd.func42, Tryd.ntmps42
  go_wp2_with fail
  refine (checkAll_c _ L _ hr hl (by omega)).mono ?_; rintro e w3 ⟨rfl, hG⟩
  rw [HHA.out]
  have hR := hr.quiet hG
  clear hr
  by_cases k1 : HA = 0
  · have hRS : Hid (RS = clAll L) := Lib.hid (by rw [HRS.out, if_pos k1])
    subst k1
    clear HRS HHA
    have HRR := Lib.hid hR.1
    have HX := Lib.hid hR.2
    clear hR
    go_wp2_with fail
    go_loopw [5, 17] (CoRel w3 L) (fun _ i _ => L.length - (intOf i).toNat)
    case atStart => exact ⟨0, [], by omega, rfl, rfl, by simp, World.ownsRow_nil _ _ _ _, G.refl _ _⟩
    case round =>
      obtain ⟨k, acc, hk, rfl, heq, hacc, hown, hGr⟩ := hrel
      have HEQ := Lib.hid heq
      clear heq
      by_cases hlt : k < L.length
      · obtain ⟨p, hp⟩ : ∃ p, L[k]? = some p := ⟨_, List.getElem?_eq_getElem hlt⟩
        obtain ⟨R, hR⟩ : ∃ R, L.drop (k + 1) = R := ⟨_, rfl⟩
        have HR := Lib.hid hR
        have HD : Hid (clAll L = acc ++ (clRow p R ++ clAll (L.drop (k + 1)))) := Lib.hid (by
          rw [HEQ.out, List.drop_eq_getElem_cons hlt, (List.getElem?_eq_some_iff.1 hp).2, hR]; rfl)
        have hpL := List.mem_of_getElem? hp
        have hpl := (hl p hpL).2.2.2.2.2
        obtain ⟨bb, bo, rfl, -, -⟩ := RdR.elem hxC_sz HRR.out hGr hp
        have HRL : Hid (R.length = L.length - (k + 1)) := Lib.hid (by rw [← hR]; exact List.length_drop)
        have hrd := RdR.drop hxC_sz HRR.out (k + 1) (by omega)
        rw [hR] at hrd
        have HW := Lib.hid (hxRow HRR.out hGr hp)
        have HK := Lib.hid hlt
        have hB5 : Bk (wr.alloc (.cells #[.string p.1.1, .string p.1.2.1, .int .i64 p.1.2.2.1, .int .i64 p.1.2.2.2, .slice p.2.1.1 p.2.2.length p.2.1.2] 33)) wr.heap.size 33 #[.string p.1.1, .string p.1.2.1, .int .i64 p.1.2.2.1, .int .i64 p.1.2.2.2, .slice p.2.1.1 p.2.2.length p.2.1.2] := Bk.new _ _ _
        have hG5 := hGr.alloc (.cells #[.string p.1.1, .string p.1.2.1, .int .i64 p.1.2.2.1, .int .i64 p.1.2.2.2, .slice p.2.1.1 p.2.2.length p.2.1.2] 33)
        have hown5 := OwnX.alloc hown (.cells #[.string p.1.1, .string p.1.2.1, .int .i64 p.1.2.2.1, .int .i64 p.1.2.2.2, .slice p.2.1.1 p.2.2.length p.2.1.2] 33)
        clear hp hGr hown hR
        go_upto_region 8 with (refine wpList_load_at rfl 33 _ rfl ⟨bb, bo + k * 5, none⟩ rfl #[.string p.1.1, .string p.1.2.1, .int .i64 p.1.2.2.1, .int .i64 p.1.2.2.2, .slice p.2.1.1 p.2.2.length p.2.1.2] _ HW.out Tryd.underlying33 rfl (hi_info p.1 (hxV p)) ?_)
        generalize wr.alloc (.cells #[.string p.1.1, .string p.1.2.1, .int .i64 p.1.2.2.1, .int .i64 p.1.2.2.2, .slice p.2.1.1 p.2.2.length p.2.1.2] 33) = w5 at hB5 hG5 hown5 ⊢
        generalize wr.heap.size = g at hB5 ⊢
        have hkw : IntKind.i64.wrap ((k : Int) + 1) = ((k + 1 : Nat) : Int) := by rw [IntKind.wrap_i64]; omega
        have hk1 : ((k + 1 : Nat) : Int) ≤ (L.length : Int) := by omega
        have hk0 : (0 : Int) ≤ ((k + 1 : Nat) : Int) := by omega
        by_cases hcap2 : cap = k + 1
        · have hRz : R.length = 0 := by have := HRL.out; omega
          have HR0 : Hid (R = []) := Lib.hid (List.eq_nil_of_length_eq_zero hRz)
          have hn0 : L.length - (k + 1) = 0 := by have := HRL.out; omega
          clear hrd hRz
          go_wp2_with fail
          go_loopw [5, 27] (fun s5 i wr => i = .int .i64 0 ∧ OwnKs wr w3.heap.size s5 acc ∧ G w3 wr none) (fun _ _ _ => 0)
          case atStart => exact ⟨rfl, hown5, hG5⟩
          case round =>
            clear hown5 hB5 hG5
            obtain ⟨rfl, hown6, hG6⟩ := hrel
            go_wp2_with fail
            go_roundw
            case rel => exact ⟨k + 1, acc, by omega, by go_num, by rw [HD.out, HR.out, HR0.out]; rfl, by omega, hown6, hG6⟩
            case measure => have := HK.out; simp [intOf]; omega
        · rw [if_neg hcap2] at hrd
          simp only [Option.map_some, add_at] at hrd
          have hn1 : L.length - (k + 1) = R.length := by have := HRL.out; omega
          rw [hn1] at hrd
          have HRD := Lib.hid hrd
          clear hrd
          go_wp2_with fail
          go_loopw [5, 27] (CiRel w3 g p R acc) (fun _ i _ => R.length - (intOf i).toNat)
          case atStart => exact ⟨0, [], by omega, rfl, rfl, by simp, by rw [List.append_nil]; exact hown5, hB5, hG5⟩
          case round =>
            clear hown5 hB5 hG5
            obtain ⟨j, acc2, hj, rfl, heq2, hal2, hown6, hB6, hG6⟩ := hrel
            have HQ2 := Lib.hid heq2
            clear heq2
            by_cases hjl : j < R.length
            · obtain ⟨q, hq⟩ : ∃ q, R[j]? = some q := ⟨_, List.getElem?_eq_getElem hjl⟩
              have hqL : q ∈ L := List.mem_of_mem_drop (i := k + 1) (by rw [HR.out]; exact List.mem_of_getElem? hq)
              have HDQ : Hid (clRow p R = (acc2 ++ clOf p.1 q.1 p.2.2 q.2.2) ++ clRow p (R.drop (j + 1))) := Lib.hid (by
                rw [HQ2.out, List.drop_eq_getElem_cons hjl, (List.getElem?_eq_some_iff.1 hq).2, List.append_assoc]; rfl)
              have hq6 := (hl q hqL).2.2.2.2.2
              have hLq := Rd.quiet (HX.out q hqL) hG6
              have hLp := Rd.quiet (HX.out p hpL) hG6
              have HW2 := Lib.hid (hxRow HRD.out hG6 hq)
              have HJ := Lib.hid hjl
              have hB7 := hB6.alloc (.cells #[.string q.1.1, .string q.1.2.1, .int .i64 q.1.2.2.1, .int .i64 q.1.2.2.2, .slice q.2.1.1 q.2.2.length q.2.1.2] 33)
              have hN7 := Bk.new wr 33 #[.string q.1.1, .string q.1.2.1, .int .i64 q.1.2.2.1, .int .i64 q.1.2.2.2, .slice q.2.1.1 q.2.2.length q.2.1.2]
              have hG7 := hG6.alloc (.cells #[.string q.1.1, .string q.1.2.1, .int .i64 q.1.2.2.1, .int .i64 q.1.2.2.2, .slice q.2.1.1 q.2.2.length q.2.1.2] 33)
              have hq7 := (G.refl wr none).alloc (.cells #[.string q.1.1, .string q.1.2.1, .int .i64 q.1.2.2.1, .int .i64 q.1.2.2.2, .slice q.2.1.1 q.2.2.length q.2.1.2] 33)
              have hown7 := OwnX.alloc hown6 (.cells #[.string q.1.1, .string q.1.2.1, .int .i64 q.1.2.2.1, .int .i64 q.1.2.2.2, .slice q.2.1.1 q.2.2.length q.2.1.2] 33)
              have hLq7 := Rd.quiet hLq hq7
              have hLp7 := Rd.quiet hLp hq7
              clear hq hB6 hG6 hown6 hLq hLp hq7
              go_upto_region 11 with (refine wpList_load_at rfl 33 _ rfl ⟨bb, bo + (k + 1) * 5 + j * 5, none⟩ rfl #[.string q.1.1, .string q.1.2.1, .int .i64 q.1.2.2.1, .int .i64 q.1.2.2.2, .slice q.2.1.1 q.2.2.length q.2.1.2] _ HW2.out Tryd.underlying33 rfl (hi_info q.1 (hxV q)) ?_)
              generalize wr.alloc (.cells #[.string q.1.1, .string q.1.2.1, .int .i64 q.1.2.2.1, .int .i64 q.1.2.2.2, .slice q.2.1.1 q.2.2.length q.2.1.2] 33) = w7 at hB7 hN7 hG7 hown7 hLq7 hLp7 ⊢
              generalize wr.heap.size = g2 at hN7 ⊢
              go_wp2_with (first | (refine wpList_load_row rfl 33 _ rfl g2 rfl 33 #[.string q.1.1, .string q.1.2.1, .int .i64 q.1.2.2.1, .int .i64 q.1.2.2.2, .slice q.2.1.1 q.2.2.length q.2.1.2] (0, 0) _ hN7 Tryd.underlying33 rfl (hi_info q.1 (hxV q)) ?_) | (refine wpList_load_row rfl 33 _ rfl g rfl 33 #[.string p.1.1, .string p.1.2.1, .int .i64 p.1.2.2.1, .int .i64 p.1.2.2.2, .slice p.2.1.1 p.2.2.length p.2.1.2] (0, 0) _ hB7 Tryd.underlying33 rfl (hi_info p.1 (hxV p)) ?_))
              refine (clashesOf_c p.1 q.1 (hxV p) (hxV q) p.2.2 q.2.2 _ hLp7 hLq7 (by omega) (by omega)).mono ?_; rintro e w8 ⟨v8, rfl, hR8, hh⟩
              have hB8 := hB7.quiet hh
              have hG8 := hG7.trans hh
              have hown8 := OwnX.quiet hown7 hh
              have hln := clOf_len p.1 q.1 p.2.2 q.2.2
              have hsz := hG8.size
              clear hB7 hN7 hG7 hown7 hLq7 hLp7 hh
              go_wp2_with (at_builtin; refine wpList_append_xs ks_rowOk rfl _ _ rfl w3.heap.size u5 (acc ++ acc2) rfl hown8 v8 _ rfl hR8 (by rw [List.length_append]; omega) hsz ?_; intro v9 w9 hown9 hgrow)
              have hob := OwnX.low hown8
              go_roundw
              case rel => exact ⟨j + 1, acc2 ++ clOf p.1 q.1 p.2.2 q.2.2, by omega, by go_num, HDQ.out, by rw [List.length_append]; omega, by rw [← List.append_assoc]; exact hown9, hB8.grown hgrow (OwnX.apart hown8 hB8 (by decide)), hG8.other hgrow (fun r e => .inl (hob r e))⟩
              case measure => have := HJ.out; simp [intOf]; omega
            · obtain rfl : j = R.length := by omega
              have hrow : clRow p R = acc2 := by rw [HQ2.out, List.drop_length]; simp [clRow]
              go_wp2_with fail
              go_roundw
              case rel => exact ⟨k + 1, acc ++ acc2, by omega, by go_num, by rw [HD.out, hrow, List.append_assoc], by rw [List.length_append]; have := HRL.out; omega, hown6, hG6⟩
              case measure => have := HK.out; simp [intOf]; omega
      · obtain rfl : k = L.length := by omega
        have hall2 : clAll L = acc := by rw [HEQ.out, List.drop_length]; simp [clAll]
        obtain ⟨aa, cc, hv, -, -⟩ := RdR.form (c := ksC) (Rd.of_owns hown)
        obtain ⟨nn, hnn⟩ : ∃ nn, acc.length = nn := ⟨_, rfl⟩
        rw [hnn] at hv
        clear hnn
        subst hv
        go_wp2_with fail
        go_ret2
        exact ⟨_, rfl, by rw [hRS.out, hall2]; exact Rd.of_owns hown, hG.trans hGr⟩
  · have k1' : (HA != 0) = true := by simpa using k1
    obtain rfl : RS = [] := by rw [HRS.out, if_neg k1]
    clear HRS k1 HHA
    go_wp2_with fail
    go_ret2
    exact ⟨_, rfl, by exact RdR.nil _ _ ksC, hG⟩
end Go.Proofs.YtdcofbciebkfkaaDoor
