/- The order of strings: what strings.Compare says, and what '<=' says. No program but strings.Compare's contract. -/
import Derived.Test.YtgddchdpeflmoaaDoorChk
import Derived.Test.YtgddchdpeflmoaaDoorShelf
namespace Go.Proofs.YtgddchdpeflmoaaDoor
open Go.RowKit Go.Shelf

abbrev cL := Lib.compareBytes
theorem cL_self (a : List UInt8) : cL a a = 0 := by
  induction a with
  | nil => rfl
  | cons x a ih => show (if x < x then (-1 : Int) else if x < x then 1 else cL a a) = 0; simp [ih]
theorem u8_tri (x y : UInt8) : x < y ∨ x = y ∨ y < x := by
  rcases Nat.lt_trichotomy x.toNat y.toNat with h | h | h
  · exact .inl (UInt8.lt_iff_toNat_lt.2 h)
  · exact .inr (.inl (UInt8.toNat_inj.1 h))
  · exact .inr (.inr (UInt8.lt_iff_toNat_lt.2 h))
theorem u8_asym {x y : UInt8} (h : x < y) : ¬ y < x := by rw [UInt8.lt_iff_toNat_lt] at h ⊢; omega
theorem u8_trans {x y z : UInt8} (h : x < y) (k : y < z) : x < z := by rw [UInt8.lt_iff_toNat_lt] at h k ⊢; omega
theorem cL_cons (x y : UInt8) (a b : List UInt8) : cL (x :: a) (y :: b) = if x < y then -1 else if y < x then 1 else cL a b := rfl
theorem cL_range (a b : List UInt8) : cL a b = -1 ∨ cL a b = 0 ∨ cL a b = 1 := by
  induction a generalizing b with
  | nil => cases b with
    | nil => exact .inr (.inl rfl)
    | cons _ _ => exact .inl rfl
  | cons x a ih => cases b with
    | nil => exact .inr (.inr rfl)
    | cons y b =>
      rw [cL_cons]
      split
      · exact .inl rfl
      · split
        · exact .inr (.inr rfl)
        · exact ih b
theorem cL_eq {a b : List UInt8} (h : cL a b = 0) : a = b := by
  induction a generalizing b with
  | nil => cases b with
    | nil => rfl
    | cons _ _ => cases (show (-1 : Int) = 0 from h)
  | cons x a ih => cases b with
    | nil => cases (show (1 : Int) = 0 from h)
    | cons y b =>
      rw [cL_cons] at h
      rcases u8_tri x y with h1 | rfl | h1
      · rw [if_pos h1] at h; omega
      · rw [if_neg (fun q => u8_asym q q), if_neg (fun q => u8_asym q q)] at h
        rw [ih h]
      · rw [if_neg (u8_asym h1), if_pos h1] at h; omega
theorem cL_neg (a b : List UInt8) : cL b a = - cL a b := by
  induction a generalizing b with
  | nil => cases b <;> rfl
  | cons x a ih => cases b with
    | nil => rfl
    | cons y b =>
      rw [cL_cons, cL_cons]
      rcases u8_tri x y with h1 | rfl | h1
      · rw [if_neg (u8_asym h1), if_pos h1, if_pos h1]; rfl
      · rw [if_neg (fun q => u8_asym q q), if_neg (fun q => u8_asym q q), if_neg (fun q => u8_asym q q), if_neg (fun q => u8_asym q q)]; exact ih b
      · rw [if_pos h1, if_neg (u8_asym h1), if_pos h1]
theorem cL_trans {a b c : List UInt8} (h : cL a b < 0) (k : cL b c < 0) : cL a c < 0 := by
  induction a generalizing b c with
  | nil => cases c with
    | nil => cases b with
      | nil => exact h
      | cons _ _ => have : (1 : Int) < 0 := k; omega
    | cons _ _ => show (-1 : Int) < 0; omega
  | cons x a ih => cases b with
    | nil => have : (1 : Int) < 0 := h; omega
    | cons y b => cases c with
      | nil => have : (1 : Int) < 0 := k; omega
      | cons z c =>
        rw [cL_cons] at h k ⊢
        rcases u8_tri x y with h1 | rfl | h1
        · rcases u8_tri y z with h2 | rfl | h2
          · rw [if_pos (u8_trans h1 h2)]; omega
          · rw [if_pos h1]; omega
          · rw [if_neg (u8_asym h2), if_pos h2] at k; omega
        · rw [if_neg (fun q => u8_asym q q), if_neg (fun q => u8_asym q q)] at h
          rcases u8_tri x z with h2 | rfl | h2
          · rw [if_pos h2]; omega
          · rw [if_neg (fun q => u8_asym q q), if_neg (fun q => u8_asym q q)] at k ⊢
            exact ih h k
          · rw [if_neg (u8_asym h2), if_pos h2] at k; omega
        · rw [if_neg (u8_asym h1), if_pos h1] at h; omega
theorem less_cL (a b : List UInt8) : Op.bytesLess a b = decide (cL a b < 0) := by
  induction a generalizing b with
  | nil => cases b <;> rfl
  | cons x a ih => cases b with
    | nil => rfl
    | cons y b =>
      rw [cL_cons]
      unfold Op.bytesLess
      rcases u8_tri x y with h1 | rfl | h1
      · simp [h1]
      · simp [ih]
      · have h2 := u8_asym h1
        have h3 : x ≠ y := fun e => by rw [e] at h1; exact u8_asym h1 h1
        simp [h1, h2, h3]

/-- What strings.Compare returns. -/
def cmpI (a b : ByteArray) : Int := cL a.data.toList b.data.toList
theorem cmpI_eq {a b : ByteArray} : cmpI a b = 0 ↔ a = b := by
  constructor
  · intro h
    exact Go.WideShapes.bytes_inj (cL_eq h)
  · intro h; rw [h]; exact cL_self _
theorem cmpI_neg (a b : ByteArray) : cmpI b a = - cmpI a b := cL_neg _ _
theorem cmpI_trans {a b c : ByteArray} (h : cmpI a b < 0) (k : cmpI b c < 0) : cmpI a c < 0 := cL_trans h k
theorem cmpI_range (a b : ByteArray) : cmpI a b = -1 ∨ cmpI a b = 0 ∨ cmpI a b = 1 := cL_range _ _
theorem leB_cmp (a b : ByteArray) : leB a b = decide (cmpI a b ≤ 0) := by
  unfold leB cmpI
  rw [less_cL, ByteArray.toList_eq, ByteArray.toList_eq]
  rcases cL_range a.data.toList b.data.toList with h | h | h
  · rw [h]; rfl
  · rw [h, cL_eq h]; simp
  · have : a.data.toList ≠ b.data.toList := fun e => by rw [e, cL_self] at h; omega
    rw [h, beq_eq_false_iff_ne.2 this]; rfl
theorem eqB_cmp (a b : ByteArray) : eqB a b = decide (cmpI a b = 0) := by
  rw [Bool.eq_iff_iff, eqB_iff, decide_eq_true_iff]
  exact cmpI_eq.symm
/-- Rising. -/
def Rise (l : List ByteArray) : Prop := l.Pairwise (fun a b => cmpI a b < 0)
def hasK (l : List ByteArray) (t : ByteArray) : Bool := l.any fun s => eqB s t
theorem hasK_iff {l : List ByteArray} {t : ByteArray} : hasK l t = true ↔ t ∈ l := by
  unfold hasK
  rw [List.any_eq_true]
  constructor
  · rintro ⟨s, hs, he⟩
    rw [eqB_iff] at he
    exact he ▸ hs
  · intro h
    exact ⟨t, h, eqB_iff.2 rfl⟩
theorem ck_rise (b : ByteArray) (l : List Cla) (h : ckErr b l = 0) : Rise (l.map (·.1)) ∧ ∀ p ∈ l, cmpI b p.1 < 0 := by
  induction l generalizing b with
  | nil => exact ⟨List.Pairwise.nil, fun p hp => by cases hp⟩
  | cons p r ih =>
    unfold ckErr at h
    split at h
    · omega
    · split at h
      · omega
      · rename_i hle
        split at h
        · omega
        · obtain ⟨i1, i2⟩ := ih p.1 h
          have hb : cmpI b p.1 < 0 := by
            rw [leB_cmp] at hle
            have h1 := cmpI_neg p.1 b
            simp at hle
            omega
          refine ⟨List.pairwise_cons.2 ⟨fun s hs => ?_, i1⟩, fun q hq => ?_⟩
          · obtain ⟨q, hq, rfl⟩ := List.mem_map.1 hs
            exact i2 q hq
          · rcases List.mem_cons.1 hq with rfl | hq
            · exact hb
            · exact cmpI_trans hb (i2 q hq)
theorem sta_rise (b : ByteArray) (l : List Sta) (h : staErr b l = 0) : Rise (l.map (·.1)) ∧ ∀ p ∈ l, cmpI b p.1 < 0 := by
  induction l generalizing b with
  | nil => exact ⟨List.Pairwise.nil, fun p hp => by cases hp⟩
  | cons p r ih =>
    unfold staErr at h
    split at h
    · omega
    · split at h
      · omega
      · rename_i hle
        split at h
        · omega
        · obtain ⟨i1, i2⟩ := ih p.1 h
          have hb : cmpI b p.1 < 0 := by
            rw [leB_cmp] at hle
            have h1 := cmpI_neg p.1 b
            simp at hle
            omega
          refine ⟨List.pairwise_cons.2 ⟨fun s hs => ?_, i1⟩, fun q hq => ?_⟩
          · obtain ⟨q, hq, rfl⟩ := List.mem_map.1 hs
            exact i2 q hq
          · rcases List.mem_cons.1 hq with rfl | hq
            · exact hb
            · exact cmpI_trans hb (i2 q hq)
/-- The binary search's end: all below 'i' are less, none from 'i' on is. -/
theorem bs_found (l : List ByteArray) (t : ByteArray) (hr : Rise l) (i : Nat) (hi : i ≤ l.length) (h1 : ∀ (j : Nat) (s : ByteArray), j < i → l[j]? = some s → cmpI s t < 0) (h2 : ∀ (j : Nat) (s : ByteArray), i ≤ j → l[j]? = some s → 0 ≤ cmpI s t) :
    hasK l t = (match l[i]? with | some s => decide (cmpI s t = 0) | none => false) := by
  cases hs : l[i]? with
  | none =>
    rw [← Bool.not_eq_true, hasK_iff]
    intro hm
    obtain ⟨j, hj⟩ := List.getElem?_of_mem hm
    have hjl := (List.getElem?_eq_some_iff.1 hj).1
    have hil := List.getElem?_eq_none_iff.1 hs
    have := h1 j t (by omega) hj
    rw [cmpI_eq.2 rfl] at this
    omega
  | some s =>
    rw [Bool.eq_iff_iff, hasK_iff, decide_eq_true_iff]
    constructor
    · intro hm
      obtain ⟨j, hj⟩ := List.getElem?_of_mem hm
      by_cases hji : j < i
      · have := h1 j t hji hj
        rw [cmpI_eq.2 rfl] at this
        omega
      · by_cases e : j = i
        · subst e
          rw [hs] at hj
          obtain rfl := Option.some.inj hj
          exact cmpI_eq.2 rfl
        · have h3 := h2 i s (Nat.le_refl _) hs
          have h4 : cmpI s t < 0 := by
            have hjl := (List.getElem?_eq_some_iff.1 hj)
            have hil := (List.getElem?_eq_some_iff.1 hs)
            have := List.pairwise_iff_getElem.1 hr i j hil.1 hjl.1 (by omega)
            rw [hil.2, hjl.2] at this
            exact this
          omega
    · intro h
      rw [cmpI_eq] at h
      subst h
      exact List.mem_of_getElem? hs
end Go.Proofs.YtgddchdpeflmoaaDoor
