/- The reference's 'in', 'only', 'Key'. -/
import Derived.Test.YtbieiefbgcgogaaRows
import Derived.Test.YtbieiefbgcgogaaBase
import Derived.Test.YtbieiefbgcgogaaKey
import Derived.Test.YtbieiefbgcgogaaShelf
import Derived.Outline
namespace Go.Proofs.Ytbieiefbgcgogaa
open Go.RowKit Go.Shelf

/-- 'a' from 'lo' to 'hi'. -/
def inB (a lo hi : Int) : Bool := decide (lo ≤ a) && decide (a ≤ hi)
theorem dropWhile_nil {α : Type} (p : α → Bool) (l : List α) : (l.dropWhile p).isEmpty = l.all p := by
  induction l with
  | nil => rfl
  | cons a l ih =>
    rw [List.dropWhile_cons]
    cases h : p a with
    | true => simp [ih, h]
    | false => simp [h]
theorem dropWhile_all {α : Type} (p : α → Bool) (l : List α) : (l.dropWhile p).all p = l.all p := by
  induction l with
  | nil => rfl
  | cons a l ih =>
    rw [List.dropWhile_cons]
    cases h : p a with
    | true => simp [ih, h]
    | false => simp [h]
theorem trimS_nil (l cs : List UInt8) : (Lib.trimS l cs).isEmpty = l.all (cs.contains ·) := by
  unfold Lib.trimS Lib.trimLeftS Lib.trimRightS
  rw [dropWhile_nil, List.all_reverse, dropWhile_all, List.all_reverse]
def ASC (cs : ByteArray) : Prop := cs.size < 4294967281 ∧ ∀ (j : Nat) (b : UInt8), cs.data.toList[j]? = some b → b.toNat < 128
def smallsS : ByteArray := ⟨#[97, 98, 99, 100, 101, 102, 103, 104, 105, 106, 107, 108, 109, 110, 111, 112, 113, 114, 115, 116, 117, 118, 119, 120, 121, 122]⟩
def keyS : ByteArray := ⟨#[97, 98, 99, 100, 101, 102, 103, 104, 105, 106, 107, 108, 109, 110, 111, 112, 113, 114, 115, 116, 117, 118, 119, 120, 121, 122, 48, 49, 50, 51, 52, 53, 54, 55, 56, 57, 45, 95]⟩
theorem asc_of {cs : ByteArray} (h : cs.size < 4294967281) (h2 : cs.data.toList.all (fun b => decide (b.toNat < 128)) = true) : ASC cs := by
  refine ⟨h, fun j b hj => ?_⟩
  have := List.all_eq_true.1 h2 b (List.mem_of_getElem? hj)
  simpa using this
theorem smalls_asc : ASC smallsS := asc_of (by decide) (by decide)
theorem key_asc : ASC keyS := asc_of (by decide) (by decide)
theorem smalls_has (c : UInt8) : smallsS.data.toList.contains c = sm (c.toNat : Int) := by
  have h : ∀ n : Fin 256, smallsS.data.toList.contains (UInt8.ofNat n.val) = sm (n.val : Int) := by decide +kernel
  have := h ⟨c.toNat, c.toNat_lt⟩
  simpa using this
theorem key_has (c : UInt8) : keyS.data.toList.contains c = kc (c.toNat : Int) := by
  have h : ∀ n : Fin 256, keyS.data.toList.contains (UInt8.ofNat n.val) = kc (n.val : Int) := by decide +kernel
  have := h ⟨c.toNat, c.toNat_lt⟩
  simpa using this
def bnd (n : Int) : Prop := -1099511627776 ≤ n ∧ n ≤ 1099511627776
set_option maxRecDepth 100000 in
theorem within_c (a lo hi : Int) (w : World) : Calls Try.prog 39 #[.int .i64 a, .int .i64 lo, .int .i64 hi] w fun e w' => e = .returned (.bool (inB a lo hi)) ∧ w = w' := by
  have h3 : inB a lo hi = (decide (lo ≤ a) && decide (a ≤ hi)) := rfl
  by_cases h1 : lo ≤ a
  · by_cases h2 : a ≤ hi
    · have H : Hid (inB a lo hi = true) := Lib.hid (by simp [h3, h1, h2])
      clear h3
      go_enter Try.func39, Try.ntmps39
      go_wp2_with fail
      go_ret
      exact ⟨ret_bool H.out.symm, rfl⟩
    · have H : Hid (inB a lo hi = false) := Lib.hid (by simp [h3, h2])
      clear h3
      go_enter Try.func39, Try.ntmps39
      go_wp2_with fail
      go_ret
      exact ⟨ret_bool (by rw [H.out] <;> exact decide_eq_false h2), rfl⟩
  · have H : Hid (inB a lo hi = false) := Lib.hid (by simp [h3, h1])
    have h1' : a < lo := by omega
    clear h3 h1
    go_enter Try.func39, Try.ntmps39
    go_wp2_with fail
    go_ret
    exact ⟨ret_bool H.out.symm, rfl⟩
end Go.Proofs.Ytbieiefbgcgogaa
