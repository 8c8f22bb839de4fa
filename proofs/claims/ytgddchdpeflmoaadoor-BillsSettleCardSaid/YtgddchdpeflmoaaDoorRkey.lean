/- The reference's 'in', 'only', 'Key'. -/
import Derived.Test.YtgddchdpeflmoaaDoorRows
import Derived.Test.YtgddchdpeflmoaaDoorBase
import Derived.Test.YtgddchdpeflmoaaDoorKey
import Derived.Test.YtgddchdpeflmoaaDoorShelf
import Derived.Outline
namespace Go.Proofs.YtgddchdpeflmoaaDoor
open Go.RowKit Go.Shelf

/-- 'a' from 'lo' to 'hi'. -/
def inB (a lo hi : Int) : Bool := decide (lo ≤ a) && decide (a ≤ hi)
theorem in_c (a lo hi : Int) (w : World) : Calls Tryd.prog 19 #[.int .i64 a, .int .i64 lo, .int .i64 hi] w fun e w' => e = .returned (.bool (inB a lo hi)) ∧ w = w' := by
  by_cases h1 : lo ≤ a <;> by_cases h2 : a ≤ hi
  all_goals
    have h3 : inB a lo hi = (decide (lo ≤ a) && decide (a ≤ hi)) := rfl
    simp only [h1, h2, decide_true, decide_false, Bool.and_true, Bool.and_false] at h3
    have H := Lib.hid h3
    clear h3
    go_enter Tryd.func19, Tryd.ntmps19
    go_wp2_with fail
    go_ret
    exact ⟨ret_bool H.out.symm, rfl⟩

theorem dropWhile_nil {α : Type} (p : α → Bool) (l : List α) : (l.dropWhile p).isEmpty = l.all p := by
  induction l with
  | nil => rfl
  | cons a l ih =>
    rw [List.dropWhile_cons]
    cases h : p a with
    | true => simp [ih, h]
    | false => simp [h]
theorem dropWhile_all {α : Type} (p : α → Bool) (l : List α) : (l.dropWhile p).all p = l.all p := by
  induction l with
  | nil => rfl
  | cons a l ih =>
    rw [List.dropWhile_cons]
    cases h : p a with
    | true => simp [ih, h]
    | false => simp [h]
theorem trimS_nil (l cs : List UInt8) : (Lib.trimS l cs).isEmpty = l.all (cs.contains ·) := by
  unfold Lib.trimS Lib.trimLeftS Lib.trimRightS
  rw [dropWhile_nil, List.all_reverse, dropWhile_all, List.all_reverse]
def ASC (cs : ByteArray) : Prop := cs.size < 4294967281 ∧ ∀ (j : Nat) (b : UInt8), cs.data.toList[j]? = some b → b.toNat < 128
theorem only_c (s cs : ByteArray) (w : World) (hs : s.size ≤ 9223372036854775807) (hcs : ASC cs) :
    Calls Tryd.prog 29 #[.string s, .string cs] w fun e w' => e = .returned (.bool (s.data.toList.all (cs.data.toList.contains ·))) ∧ G w w' none := by
  have hcon := Any.strings_Trim_laid Tryd.lays160 (by kernel_rfl) s cs w hs hcs.1 hcs.2
  change Calls Tryd.prog 41 _ _ (fun e w' => e = .returned (.string ⟨(Lib.trimS s.data.toList cs.data.toList).toArray⟩) ∧ Below w.heap.size w w') at hcon
  have ht : (⟨(Lib.trimS s.data.toList cs.data.toList).toArray⟩ : ByteArray).toList.isEmpty = s.data.toList.all (cs.data.toList.contains ·) := by
    rw [ByteArray.toList_eq]
    exact trimS_nil _ _
  generalize (⟨(Lib.trimS s.data.toList cs.data.toList).toArray⟩ : ByteArray) = r at hcon ht
  have HT := Lib.hid ht
  clear ht
  go_enter Tryd.func29, Tryd.ntmps29
  go_wp2_with fail
  refine hcon.mono ?_; rintro e w' ⟨rfl, hB⟩
  go_wp2_with fail
  go_ret
  exact ⟨ret_bool HT.out, Below.G hB rfl⟩

def smallsS : ByteArray := ⟨#[97, 98, 99, 100, 101, 102, 103, 104, 105, 106, 107, 108, 109, 110, 111, 112, 113, 114, 115, 116, 117, 118, 119, 120, 121, 122]⟩
def keyS : ByteArray := ⟨#[97, 98, 99, 100, 101, 102, 103, 104, 105, 106, 107, 108, 109, 110, 111, 112, 113, 114, 115, 116, 117, 118, 119, 120, 121, 122, 48, 49, 50, 51, 52, 53, 54, 55, 56, 57, 45, 95]⟩
theorem asc_of {cs : ByteArray} (h : cs.size < 4294967281) (h2 : cs.data.toList.all (fun b => decide (b.toNat < 128)) = true) : ASC cs := by
  refine ⟨h, fun j b hj => ?_⟩
  have := List.all_eq_true.1 h2 b (List.mem_of_getElem? hj)
  simpa using this
theorem smalls_asc : ASC smallsS := asc_of (by decide) (by decide)
theorem key_asc : ASC keyS := asc_of (by decide) (by decide)
theorem smalls_has (c : UInt8) : smallsS.data.toList.contains c = sm (c.toNat : Int) := by
  have h : ∀ n : Fin 256, smallsS.data.toList.contains (UInt8.ofNat n.val) = sm (n.val : Int) := by decide +kernel
  have := h ⟨c.toNat, c.toNat_lt⟩
  simpa using this
theorem key_has (c : UInt8) : keyS.data.toList.contains c = kc (c.toNat : Int) := by
  have h : ∀ n : Fin 256, keyS.data.toList.contains (UInt8.ofNat n.val) = kc (n.val : Int) := by decide +kernel
  have := h ⟨c.toNat, c.toNat_lt⟩
  simpa using this
set_option maxRecDepth 100000 in
set_option maxHeartbeats 1000000 in
theorem rkey_c (s : ByteArray) (w : World) (hs : s.size ≤ 9223372036854775807) : Calls Tryd.prog 20 #[.string s] w fun e w' => e = .returned (.bool (keyB s)) ∧ G w w' none := by
  by_cases hin : 1 ≤ s.size ∧ s.size ≤ 40
  · obtain ⟨h1, h40⟩ := hin
    have hb : inB (s.size : Int) 1 40 = true := by simp [inB]; omega
    have HB := Lib.hid hb
    clear hb
    go_enter Tryd.func20, Tryd.ntmps20
    go_wp2_with fail
    refine (in_c _ _ _ _).mono ?_; rintro e w' ⟨rfl, rfl⟩
    rw [HB.out]
    go_wp2_with fail
    have hx0 : (s.extract 0 1).data.toList = [s[0]] := by
      rw [ByteArray.data_extract, Array.toList_extract, List.extract_eq_take_drop, List.drop_zero]
      have := get_data s 0 h1
      cases hq : s.data.toList with
      | nil => rw [hq] at this; simp at this
      | cons c r => rw [hq] at this; simp at this; simp [this]
    refine (only_c (s.extract 0 1) smallsS _ (by have h8 := len_data (s.extract 0 1); rw [hx0] at h8; have h9 : [s[0]].length = 1 := rfl; omega) smalls_asc).mono ?_; rintro e w2 ⟨rfl, hG⟩
    have hall : ((s.extract 0 1).data.toList.all fun c => smallsS.data.toList.contains c) = sm (s[0].toNat : Int) := by rw [hx0, List.all_cons, List.all_nil, Bool.and_true, smalls_has]
    rw [hall]
    clear hall hx0
    cases hsm : sm (s[0].toNat : Int) with
    | false =>
      have H := Lib.hid (keyB_head s h1 hsm)
      clear hsm
      go_wp2_with fail
      go_ret
      exact ⟨ret_bool H.out.symm, hG⟩
    | true =>
      have H := Lib.hid (keyB_of s h1 h40 hsm)
      clear hsm
      go_wp2_with fail
      refine (only_c s keyS _ hs key_asc).mono ?_; rintro e w3 ⟨rfl, hG3⟩
      have hall : (s.data.toList.all fun c => keyS.data.toList.contains c) = (s.data.toList.all fun c => kc c.toNat) := by
        congr 1; funext c; exact key_has c
      rw [hall, ← H.out]
      go_wp2_with fail
      go_ret
      exact ⟨rfl, hG.trans hG3⟩
  · have hb : inB (s.size : Int) 1 40 = false := by simp [inB]; omega
    have HB := Lib.hid hb
    have H := Lib.hid (keyB_no s (by omega))
    clear hb
    go_enter Tryd.func20, Tryd.ntmps20
    go_wp2_with fail
    refine (in_c _ _ _ _).mono ?_; rintro e w' ⟨rfl, rfl⟩
    rw [HB.out]
    go_wp2_with fail
    go_ret
    exact ⟨ret_bool H.out.symm, G.refl _ _⟩
def bnd (n : Int) : Prop := -1099511627776 ≤ n ∧ n ≤ 1099511627776
set_option maxRecDepth 100000 in
theorem within_c (a lo hi : Int) (w : World) : Calls Tryd.prog 21 #[.int .i64 a, .int .i64 lo, .int .i64 hi] w fun e w' => e = .returned (.bool (inB a lo hi)) ∧ w = w' := by
  have h3 : inB a lo hi = (decide (lo ≤ a) && decide (a ≤ hi)) := rfl
  by_cases h1 : lo ≤ a
  · by_cases h2 : a ≤ hi
    · have H : Hid (inB a lo hi = true) := Lib.hid (by simp [h3, h1, h2])
      clear h3
      go_enter Tryd.func21, Tryd.ntmps21
      go_wp2_with fail
      go_ret
      exact ⟨ret_bool H.out.symm, rfl⟩
    · have H : Hid (inB a lo hi = false) := Lib.hid (by simp [h3, h2])
      clear h3
      go_enter Tryd.func21, Tryd.ntmps21
      go_wp2_with fail
      go_ret
      exact ⟨ret_bool (by rw [H.out] <;> exact decide_eq_false h2), rfl⟩
  · have H : Hid (inB a lo hi = false) := Lib.hid (by simp [h3, h1])
    have h1' : a < lo := by omega
    clear h3 h1
    go_enter Tryd.func21, Tryd.ntmps21
    go_wp2_with fail
    go_ret
    exact ⟨ret_bool H.out.symm, rfl⟩
end Go.Proofs.YtgddchdpeflmoaaDoor
