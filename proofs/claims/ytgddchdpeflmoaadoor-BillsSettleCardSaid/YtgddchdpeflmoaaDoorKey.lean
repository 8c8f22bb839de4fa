/- basic.isSmall, isDigit, IsKey. -/
import Derived.Test.YtgddchdpeflmoaaDoorRows
import Derived.Test.YtgddchdpeflmoaaDoorBase
import Derived.Outline
namespace Go.Proofs.YtgddchdpeflmoaaDoor
open Go.RowKit

def sm (c : Int) : Bool := decide (97 ≤ c) && decide (c ≤ 122)
def dg (c : Int) : Bool := decide (48 ≤ c) && decide (c ≤ 57)
def kc (c : Int) : Bool := sm c || dg c || c == 45 || c == 95
/-- Which strings are keys. -/
def keyB (s : ByteArray) : Bool := decide (1 ≤ s.size) && decide (s.size ≤ 40) && (match s.data.toList with | [] => false | c :: _ => sm c.toNat) && s.data.toList.all fun c => kc c.toNat
theorem ret_bool {a b : Bool} (h : a = b) : Ending.returned (.bool a) = .returned (.bool b) := by rw [h]

theorem small_c (c : Int) (w : World) : Calls Tryd.prog 46 #[.int .u8 c] w fun e w' => e = .returned (.bool (sm c)) ∧ w = w' := by
  by_cases h1 : 97 ≤ c <;> by_cases h2 : c ≤ 122
  all_goals
    have h3 : sm c = (decide (97 ≤ c) && decide (c ≤ 122)) := rfl
    simp only [h1, h2, decide_true, decide_false, Bool.and_true, Bool.and_false] at h3
    have H := Lib.hid h3
    clear h3
    go_enter Tryd.func46, Tryd.ntmps46
    go_wp2_with fail
    go_ret
    exact ⟨ret_bool H.out.symm, rfl⟩
theorem digit_c (c : Int) (w : World) : Calls Tryd.prog 47 #[.int .u8 c] w fun e w' => e = .returned (.bool (dg c)) ∧ w = w' := by
  by_cases h1 : 48 ≤ c <;> by_cases h2 : c ≤ 57
  all_goals
    have h3 : dg c = (decide (48 ≤ c) && decide (c ≤ 57)) := rfl
    simp only [h1, h2, decide_true, decide_false, Bool.and_true, Bool.and_false] at h3
    have H := Lib.hid h3
    clear h3
    go_enter Tryd.func47, Tryd.ntmps47
    go_wp2_with fail
    go_ret
    exact ⟨ret_bool H.out.symm, rfl⟩

theorem take_snoc (s : ByteArray) (k : Nat) (h : k < s.size) : s.data.toList.take (k + 1) = s.data.toList.take k ++ [s[k]] := by
  rw [List.take_succ_eq_append_getElem (by simpa using h)]; rfl
theorem len_data (s : ByteArray) : s.data.toList.length = s.size := by rw [Array.length_toList]; rfl
theorem get_data (s : ByteArray) (k : Nat) (h : k < s.size) : s.data.toList[k]? = some s[k] := by
  rw [List.getElem?_eq_getElem (by rw [len_data]; exact h)]; rfl
theorem keyB_of (s : ByteArray) (h0 : 0 < s.size) (h40 : s.size ≤ 40) (hs : sm (s[0].toNat : Int) = true) : keyB s = s.data.toList.all fun c => kc c.toNat := by
  unfold keyB
  have hl := len_data s
  cases hq : s.data.toList with
  | nil => rw [hq] at hl; simp at hl; omega
  | cons c r =>
    have hc : s[0] = c := by
      have := get_data s 0 h0
      rw [hq] at this
      simpa using this.symm
    rw [hc] at hs
    simp [hs, h40, show 1 ≤ s.size from h0]
theorem keyB_no (s : ByteArray) (h : s.size = 0 ∨ 40 < s.size) : keyB s = false := by
  unfold keyB
  rcases h with h | h
  · simp [h]
  · simp [show ¬ s.size ≤ 40 by omega]
theorem keyB_head (s : ByteArray) (h0 : 0 < s.size) (hs : sm (s[0].toNat : Int) = false) : keyB s = false := by
  unfold keyB
  have hl := len_data s
  cases hq : s.data.toList with
  | nil => rw [hq] at hl; simp at hl; omega
  | cons c r =>
    have hc : s[0] = c := by
      have := get_data s 0 h0
      rw [hq] at this
      simpa using this.symm
    rw [hc] at hs
    simp [hs]
theorem all_no (s : ByteArray) (k : Nat) (hk : k < s.size) (h : kc (s[k].toNat : Int) = false) : (s.data.toList.all fun c => kc c.toNat) = false := by
  rw [List.all_eq_false]
  refine ⟨s[k], ?_, by simp [h]⟩
  exact List.mem_of_getElem? (get_data s k hk)
theorem kc_sm {c : Int} (h : sm c = true) : kc c = true := by simp [kc, h]
theorem kc_dg {c : Int} (h : dg c = true) : kc c = true := by simp [kc, h]
theorem kc_no {c : Int} (h1 : sm c = false) (h2 : dg c = false) (h3 : (c == 45) = false) (h4 : (c == 95) = false) : kc c = false := by simp only [kc, h1, h2, h3, h4, Bool.or_false]

theorem empty_of {s : ByteArray} (h : s.size = 0) : s = ⟨#[]⟩ := by
  apply Go.WideShapes.bytes_inj
  exact List.eq_nil_of_length_eq_zero ((len_data s).trans h)
theorem isE_of {s : ByteArray} (h : 0 < s.size) : s.toList.isEmpty = false := by
  rw [ByteArray.toList_eq]
  have := len_data s
  cases hq : s.data.toList with
  | nil => rw [hq] at this; simp at this; omega
  | cons _ _ => rfl
set_option maxHeartbeats 1000000 in
theorem isKey_c (s : ByteArray) (w : World) (hs : s.size ≤ 9223372036854775807) : Calls Tryd.prog 40 #[.string s] w fun e w' => e = .returned (.bool (keyB s)) ∧ w = w' := by
  by_cases h0 : s.size = 0
  · obtain rfl := empty_of h0
    have H := Lib.hid (keyB_no ⟨#[]⟩ (.inl rfl))
    clear h0
    go_enter Tryd.func40, Tryd.ntmps40
    go_wp2_with fail
    go_ret
    exact ⟨ret_bool H.out.symm, rfl⟩
  have h0' : 0 < s.size := by omega
  have he := isE_of h0'
  by_cases h40 : 40 < s.size
  · have H := Lib.hid (keyB_no s (.inr h40))
    go_enter Tryd.func40, Tryd.ntmps40
    go_wp2_with fail
    go_ret
    exact ⟨ret_bool H.out.symm, rfl⟩
  have h41 : s.size ≤ 40 := by omega
  cases hsm : sm (s[0].toNat : Int) with
  | false =>
    have H := Lib.hid (keyB_head s h0' hsm)
    have H2 := Lib.hid hsm
    clear hsm
    go_enter Tryd.func40, Tryd.ntmps40
    go_wp2_with fail
    refine (small_c _ _).mono ?_; rintro e w' ⟨rfl, rfl⟩
    rw [H2.out]
    go_wp2_with fail
    go_ret
    exact ⟨ret_bool H.out.symm, rfl⟩
  | true =>
    have H := Lib.hid (keyB_of s h0' h41 hsm)
    have H2 := Lib.hid hsm
    clear hsm
    go_enter Tryd.func40, Tryd.ntmps40
    go_wp2_with fail
    refine (small_c _ _).mono ?_; rintro e w' ⟨rfl, rfl⟩
    rw [H2.out]
    go_wp2_with fail
    go_loop [20] (fun i => ∃ k : Nat, k ≤ s.size ∧ i = .int .i64 k ∧ (s.data.toList.take k).all (fun c => kc c.toNat) = true) (fun i => s.size - (intOf i).toNat)
    case atStart => exact ⟨0, Nat.zero_le _, rfl, by simp⟩
    case round =>
      obtain ⟨k, hk, rfl, hall⟩ := hrel
      have HA := Lib.hid hall
      clear hall
      by_cases hlt : k < s.size
      · cases hkc : kc (s[k].toNat : Int) with
        | false =>
          have HN := Lib.hid (all_no s k hlt hkc)
          have hn : sm (s[k].toNat : Int) = false ∧ dg (s[k].toNat : Int) = false ∧ ((s[k].toNat : Int) != 45) = true ∧ ((s[k].toNat : Int) != 95) = true := by
            simp only [kc, Bool.or_eq_false_iff] at hkc
            exact ⟨hkc.1.1.1, hkc.1.1.2, by simp only [bne, hkc.1.2, Bool.not_false], by simp only [bne, hkc.2, Bool.not_false]⟩
          obtain ⟨n1, n2, n3, n4⟩ := hn
          have N1 := Lib.hid n1
          have N2 := Lib.hid n2
          clear n1 n2 hkc
          go_wp2_with fail
          refine (small_c _ _).mono ?_; rintro e w' ⟨rfl, rfl⟩
          rw [N1.out]
          go_wp2_with fail
          refine (digit_c _ _).mono ?_; rintro e w' ⟨rfl, rfl⟩
          rw [N2.out]
          go_wp2_with fail
          go_ret
          exact ⟨ret_bool (by rw [H.out, HN.out]), rfl⟩
        | true =>
          have HN : Hid ((s.data.toList.take (k + 1)).all (fun c => kc c.toNat) = true) := Lib.hid (by rw [take_snoc s k hlt, List.all_append, HA.out, Bool.true_and, List.all_cons, hkc, List.all_nil]; rfl)
          have HK := Lib.hid hkc
          clear hkc
          go_wp2_with fail
          refine (small_c _ _).mono ?_; rintro e w' ⟨rfl, rfl⟩
          cases hsm : sm (s[k].toNat : Int) with
          | true =>
            clear hsm
            go_wp2_with fail
            go_round
            case rel => exact ⟨k + 1, by omega, by go_num, HN.out⟩
            case measure => simp [intOf]; omega
          | false =>
            have HS := Lib.hid hsm
            clear hsm
            go_wp2_with fail
            refine (digit_c _ _).mono ?_; rintro e w' ⟨rfl, rfl⟩
            cases hdg : dg (s[k].toNat : Int) with
            | true =>
              clear hdg
              go_wp2_with fail
              go_round
              case rel => exact ⟨k + 1, by omega, by go_num, HN.out⟩
              case measure => simp [intOf]; omega
            | false =>
              have HD := Lib.hid hdg
              clear hdg
              cases h45 : ((s[k].toNat : Int) != 45) with
              | false =>
                go_wp2_with fail
                go_round
                case rel => exact ⟨k + 1, by omega, by go_num, HN.out⟩
                case measure => simp [intOf]; omega
              | true =>
                have h95 : ((s[k].toNat : Int) != 95) = false := by
                  have := HK.out
                  simp only [kc, HS.out, HD.out, Bool.false_or] at this
                  have h45' : ((s[k].toNat : Int) == 45) = false := by simpa [bne] using h45
                  rw [h45', Bool.false_or] at this
                  simp only [bne, this, Bool.not_true]
                go_wp2_with fail
                go_round
                case rel => exact ⟨k + 1, by omega, by go_num, HN.out⟩
                case measure => simp [intOf]; omega
      · go_wp2_with fail
        go_ret
        exact ⟨ret_bool (by rw [H.out, ← HA.out, List.take_of_length_le (by rw [len_data]; omega)]), rfl⟩
end Go.Proofs.YtgddchdpeflmoaaDoor
