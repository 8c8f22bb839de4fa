/- slices.Index, Contains, Equal at lists of strings; the classes' own IndexFunc. -/
import Derived.Test.YtgofeigebldkiaaDoorOrd
import Derived.Test.YtgofeigebldkiaaDoorHrs
import Derived.Deep.QuietTactic
import Derived.BigQuiet
namespace Go.Proofs.YtgofeigebldkiaaDoor
open Go.RowKit

/-- A list of strings. -/
abbrev RdS (w : World) (v : Value) (l : List ByteArray) : Prop := Rd w 1 v l.length (l.map Value.string)
theorem rdS_cell {w : World} {a : Addr} {l : List ByteArray} {n c : Nat} (h : Rd w 1 (.slice (some a) n c) n (l.map Value.string)) : ∃ b o, a = ⟨b, o, none⟩ ∧ b < w.heap.size ∧ ∀ (j : Nat) (s : ByteArray), l[j]? = some s → w.cell? ⟨b, o + j, none⟩ = some (.string s) := by
  obtain ⟨a', c', e', _, _, _, _, h5⟩ := h
  injection e' with e1 e2 e3
  subst e1
  obtain ⟨b, o, sp⟩ := a
  obtain ⟨q1, q2, q3⟩ := h5 _ rfl
  dsimp only at q1 q2 q3
  subst q1
  exact ⟨b, o, rfl, q2, fun j s hj => q3 j _ (by rw [List.getElem?_map, hj]; rfl)⟩
/-- The first place of a string, from 'k' on counted; -1: none. -/
def idxF (t : ByteArray) : List ByteArray → Int → Int
  | [], _ => -1
  | s :: r, k => if eqB t s = true then k else idxF t r (k + 1)
def IxRel (l : List ByteArray) (t : ByteArray) (i : Value) : Prop := ∃ k : Nat, k ≤ l.length ∧ i = .int .i64 k ∧ idxF t l 0 = idxF t (l.drop k) k
set_option maxRecDepth 100000 in
set_option maxHeartbeats 1000000 in
theorem sIndex_c (v : Value) (l : List ByteArray) (t : ByteArray) (w : World) (hr : RdS w v l) (hn : l.length ≤ 1000000) :
    Calls Tryd.prog 106 #[v, .string t] w fun e w' => e = .returned (.int .i64 (idxF t l 0)) ∧ w = w' := by
  have hr0 := hr
  obtain ⟨a, cap, rfl, hcap, hm, hlen, hnil, _⟩ := hr
  go_enter Tryd.func106, Tryd.ntmps106
  go_wp2_with fail
  go_loop [8] (IxRel l t) (fun i => l.length - (intOf i).toNat)
  case atStart => exact ⟨0, by omega, rfl, rfl⟩
  case round =>
    obtain ⟨k, hk, rfl, heq⟩ := hrel
    have HE := Lib.hid heq
    clear heq
    by_cases hlt : k < l.length
    · obtain ⟨s, hs⟩ : ∃ s, l[k]? = some s := ⟨_, List.getElem?_eq_getElem hlt⟩
      have HD : Hid (idxF t l 0 = if eqB t s = true then (k : Int) else idxF t (l.drop (k + 1)) ((k : Int) + 1)) := Lib.hid (by
        rw [HE.out, List.drop_eq_getElem_cons hlt, (List.getElem?_eq_some_iff.1 hs).2]; rfl)
      cases a with
      | none => have := (hnil rfl).1; omega
      | some ad =>
        obtain ⟨bb, bo, rfl, hbb, hcell⟩ := rdS_cell hr0
        have hc := hcell k s hs
        clear hcell hnil hs hr0
        cases he : eqB t s with
        | true =>
          have HF : Hid (idxF t l 0 = k) := Lib.hid (by rw [HD.out, if_pos he])
          unfold eqB at he
          go_wp2_with fail
          go_ret
          exact ⟨ret_int HF.out.symm, rfl⟩
        | false =>
          have HF : Hid (idxF t l 0 = idxF t (l.drop (k + 1)) ((k + 1 : Nat) : Int)) := Lib.hid (by rw [HD.out, if_neg (by simp [he])]; rfl)
          unfold eqB at he
          go_wp2_with fail
          go_round
          case rel => exact ⟨k + 1, by omega, by go_num, HF.out⟩
          case measure => simp [intOf]; omega
    · obtain rfl : k = l.length := by omega
      have HF : Hid (idxF t l 0 = -1) := Lib.hid (by rw [HE.out, List.drop_length]; rfl)
      go_wp2_with fail
      go_ret
      exact ⟨ret_int HF.out.symm, rfl⟩
theorem eqB_comm (a b : ByteArray) : eqB a b = eqB b a := by
  rw [Bool.eq_iff_iff, eqB_iff, eqB_iff]
  exact ⟨fun h => h.symm, fun h => h.symm⟩
theorem idxF_range (t : ByteArray) (l : List ByteArray) : ∀ k : Nat, idxF t l k = -1 ∨ ((k : Int) ≤ idxF t l k ∧ idxF t l k < k + l.length) := by
  induction l with
  | nil => intro k; exact .inl rfl
  | cons s r ih =>
    intro k
    unfold idxF
    split
    · right; simp; omega
    · rcases ih (k + 1) with h | h
      · left; exact h
      · right
        have e : idxF t r ((k : Int) + 1) = idxF t r ((k + 1 : Nat) : Int) := rfl
        rw [e]
        simp only [List.length_cons]
        omega
theorem idxF_has (t : ByteArray) (l : List ByteArray) : ∀ k : Nat, (0 ≤ idxF t l k) ↔ hasK l t = true := by
  induction l with
  | nil => intro k; simp [idxF, hasK]
  | cons s r ih =>
    intro k
    unfold idxF hasK
    rw [List.any_cons, eqB_comm t s]
    cases he : eqB s t with
    | true => simp
    | false =>
      have := ih (k + 1)
      unfold hasK at this
      simpa using this
theorem sContains_c (v : Value) (l : List ByteArray) (t : ByteArray) (w : World) (hr : RdS w v l) (hn : l.length ≤ 1000000) :
    Calls Tryd.prog 73 #[v, .string t] w fun e w' => e = .returned (.bool (hasK l t)) ∧ w = w' := by
  have hh := idxF_has t l 0
  have hg := idxF_range t l 0
  have HX := Lib.hid (sIndex_c v l t w hr hn)
  have h0 : idxF t l 0 = idxF t l ((0 : Nat) : Int) := rfl
  rw [← h0] at hh hg
  clear hr h0
  generalize idxF t l 0 = x at hh HX hg
  cases hb : hasK l t with
  | true =>
    have hx := hh.2 hb
    clear hh hb
    go_enter Tryd.func73, Tryd.ntmps73
    go_wp2_with fail
    refine HX.out.mono ?_; rintro e w' ⟨rfl, rfl⟩
    go_wp2_with fail
    go_ret
    exact ⟨rfl, rfl⟩
  | false =>
    have hx : x < 0 := by
      rcases Int.lt_or_le x 0 with h | h
      · exact h
      · rw [hh.1 h] at hb; cases hb
    clear hh hb
    go_enter Tryd.func73, Tryd.ntmps73
    go_wp2_with fail
    refine HX.out.mono ?_; rintro e w' ⟨rfl, rfl⟩
    go_wp2_with fail
    go_ret
    exact ⟨ret_bool (decide_eq_false (by omega)), rfl⟩
def EqRel (n : Nat) (w : World) (i : Value) (wr : World) : Prop := ∃ k m : Nat, k ≤ n ∧ i = .int .i64 k ∧ wr = w.drewN m
end Go.Proofs.YtgofeigebldkiaaDoor
