/- Fees: FeeOf, its reference; keyFault. -/
import Derived.Test.YtbieiefbgcgogaaDoorFeb
namespace Go.Proofs.YtbieiefbgcgogaaDoor
open Go.RowKit

def keyE (s : ByteArray) : Int := if keyB s = true then 0 else 5
set_option maxRecDepth 100000 in
theorem keyFault_c (s : ByteArray) (w : World) (hs : Small s) : Calls Tryd.prog 39 #[.string s] w fun e w' => e = .returned (.int .i64 (keyE s)) ∧ G w w' none := by
  unfold Small at hs
  cases hk : keyB s with
  | true =>
    have HE : Hid (keyE s = 0) := Lib.hid (by rw [keyE, if_pos hk])
    have HK := Lib.hid hk
    clear hk
    go_enter Tryd.func39, Tryd.ntmps39
    go_wp2_with fail
    refine (rkey_c s _ hs).mono ?_; rintro e w1 ⟨rfl, hG1⟩
    rw [HK.out]
    go_wp2_with fail
    refine (when_c _ _ _).mono ?_; rintro e w' ⟨rfl, rfl⟩
    simp only [Bool.not_true, Bool.false_eq_true, if_false]
    go_wp2_with fail
    go_ret
    exact ⟨by rw [HE.out]; rfl, hG1⟩
  | false =>
    have HE : Hid (keyE s = 5) := Lib.hid (by rw [keyE, if_neg (by simp [hk])])
    have HK := Lib.hid hk
    clear hk
    go_enter Tryd.func39, Tryd.ntmps39
    go_wp2_with fail
    refine (rkey_c s _ hs).mono ?_; rintro e w1 ⟨rfl, hG1⟩
    rw [HK.out]
    go_wp2_with fail
    refine (when_c _ _ _).mono ?_; rintro e w' ⟨rfl, rfl⟩
    simp only [Bool.not_false, if_true]
    go_wp2_with fail
    go_ret
    exact ⟨by rw [HE.out]; rfl, hG1⟩
def foE (l : List Fe) (a b : ByteArray) : Int :=
  if feE l = 0 then (if keyB a = false then 5 else if keyB b = false then 5 else if eqB a b = true then 0 else if (l.find? (feF a b)).isSome = true then 0 else 8) else feE l
def foN (l : List Fe) (a b : ByteArray) : Int := if foE l a b = 0 then (match l.find? (feF a b) with | some x => x.2.2 | none => 0) else 0
theorem feE_zero {l : List Fe} (h : feE l = 0) : feErr none l = 0 ∧ l.length ≤ 500 := by
  unfold feE at h
  split at h
  · omega
  · exact ⟨h, by omega⟩
/-- No fee from a station to itself. -/
theorem fe_loop {l : List Fe} {a b : ByteArray} (h0 : feE l = 0) (h : eqB a b = true) : l.find? (feF a b) = none := by
  refine List.find?_eq_none.2 fun x hx hxf => ?_
  unfold feF at hxf
  rw [Bool.and_eq_true, eqB_iff, eqB_iff] at hxf
  exact ((fe_rise (feE_zero h0).1).2.2 x hx).2 (by rw [hxf.1, hxf.2]; exact eqB_iff.1 h)
/-! ### The reference's FeeFrom -/
def ffF (l : List Fe) (a b : ByteArray) : Int × Bool := match l.find? (feF a b) with | some x => (x.2.2, true) | none => (0, eqB a b)
def FfRel (w : World) (l : List Fe) (a b : ByteArray) (i : Value) (wr : World) : Prop :=
  ∃ n : Nat, n ≤ l.length ∧ i = .int .i64 n ∧ l.find? (feF a b) = (l.drop n).find? (feF a b) ∧ G w wr none
end Go.Proofs.YtbieiefbgcgogaaDoor
