/- Fees: the search by halves. -/
import Derived.Test.YtbieiefbgcgogaaDoorFeg
namespace Go.Proofs.YtbieiefbgcgogaaDoor
open Go.RowKit

theorem cmpF_neg (x y : Fe) : cmpF y x = - cmpF x y := by
  have h1 := cmpI_neg x.1 y.1
  have h2 := cmpI_neg x.2.1 y.2.1
  unfold cmpF orI
  rw [h1, h2]
  split <;> split <;> omega
theorem cmpF_trans {x y z : Fe} (h : cmpF x y < 0) (k : cmpF y z < 0) : cmpF x z < 0 := by
  unfold cmpF orI at *
  by_cases h1 : cmpI x.1 y.1 = 0
  · rw [if_pos h1] at h
    have e1 := cmpI_eq.1 h1
    rw [e1]
    by_cases h2 : cmpI y.1 z.1 = 0
    · rw [if_pos h2] at k ⊢
      exact cmpI_trans h k
    · rw [if_neg h2] at k ⊢
      exact k
  · rw [if_neg h1] at h
    by_cases h2 : cmpI y.1 z.1 = 0
    · rw [← cmpI_eq.1 h2, if_neg h1]
      exact h
    · rw [if_neg h2] at k
      have h3 := cmpI_trans h k
      rw [if_neg (by omega)]
      exact h3
theorem cmpF_zero {x y : Fe} : cmpF x y = 0 ↔ x.1 = y.1 ∧ x.2.1 = y.2.1 := by
  unfold cmpF orI
  by_cases h1 : cmpI x.1 y.1 = 0
  · rw [if_pos h1, cmpI_eq]
    exact ⟨fun h => ⟨cmpI_eq.1 h1, h⟩, fun h => h.2⟩
  · rw [if_neg h1]
    exact ⟨fun h => absurd h h1, fun h => absurd (cmpI_eq.2 h.1) h1⟩
def RiseF (l : List Fe) : Prop := l.Pairwise (fun a b => cmpF a b < 0)
theorem fe_rise {b : Option Fe} {l : List Fe} (h : feErr b l = 0) : RiseF l ∧ (∀ y, b = some y → ∀ x ∈ l, cmpF y x < 0) ∧ ∀ x ∈ l, (0 ≤ x.2.2 ∧ x.2.2 ≤ 1000000) ∧ x.1 ≠ x.2.1 := by
  induction l generalizing b with
  | nil => exact ⟨List.Pairwise.nil, fun _ _ x hx => (by cases hx), fun x hx => (by cases hx)⟩
  | cons p r ih =>
    unfold feErr at h
    split at h
    · omega
    · split at h
      · omega
      · split at h
        · omega
        · rename_i hq
          split at h
          · omega
          · rename_i ha
            split at h
            · omega
            · rename_i hb
              obtain ⟨i1, i2, i3⟩ := ih h
              have hp := i2 p rfl
              have hin : 0 ≤ p.2.2 ∧ p.2.2 ≤ 1000000 := by
                unfold inB at hb
                simp only [Bool.and_eq_false_iff, decide_eq_false_iff_not] at hb
                omega
              have hy : ∀ y, b = some y → cmpF y p < 0 := fun y e => by
                subst e
                have : ¬ 0 ≤ cmpF y p := fun h => ha (decide_eq_true h)
                omega
              refine ⟨List.pairwise_cons.2 ⟨hp, i1⟩, fun y e x hx => ?_, fun x hx => ?_⟩
              · rcases List.mem_cons.1 hx with rfl | hx
                · exact hy y e
                · exact cmpF_trans (hy y e) (hp x hx)
              · rcases List.mem_cons.1 hx with rfl | hx
                · exact ⟨hin, fun e => hq (eqB_iff.2 e)⟩
                · exact i3 x hx
def BelowF (l : List Fe) (t : Fe) (i : Nat) : Prop := ∀ (j : Nat) (s : Fe), j < i → l[j]? = some s → cmpF s t < 0
def FromF (l : List Fe) (t : Fe) (i : Nat) : Prop := ∀ (j : Nat) (s : Fe), i ≤ j → l[j]? = some s → 0 ≤ cmpF s t
theorem RiseF.lt {l : List Fe} (h : RiseF l) {i j : Nat} {a b : Fe} (hij : i < j) (ha : l[i]? = some a) (hb : l[j]? = some b) : cmpF a b < 0 := by
  obtain ⟨h1, rfl⟩ := List.getElem?_eq_some_iff.1 ha
  obtain ⟨h2, rfl⟩ := List.getElem?_eq_some_iff.1 hb
  exact (List.pairwise_iff_getElem.1 h) i j h1 h2 hij
theorem BelowF.up {l : List Fe} {t s : Fe} {i : Nat} (hr : RiseF l) (hs : l[i]? = some s) (h : cmpF s t < 0) : BelowF l t (i + 1) := fun j u hj hu => by
  rcases Nat.lt_or_ge j i with hji | hji
  · exact cmpF_trans (hr.lt hji hu hs) h
  · obtain rfl : j = i := by omega
    rw [hs] at hu
    obtain rfl := Option.some.inj hu
    exact h
theorem FromF.down {l : List Fe} {t s : Fe} {i : Nat} (hr : RiseF l) (hs : l[i]? = some s) (h : 0 ≤ cmpF s t) : FromF l t i := fun j u hj hu => by
  rcases Nat.lt_or_ge i j with hji | hji
  · have h1 := hr.lt hji hs hu
    rcases Int.lt_or_le (cmpF u t) 0 with h2 | h2
    · have := cmpF_trans h1 h2; omega
    · exact h2
  · obtain rfl : j = i := by omega
    rw [hs] at hu
    obtain rfl := Option.some.inj hu
    exact h
def feF (a b : ByteArray) (x : Fe) : Bool := eqB x.1 a && eqB x.2.1 b
theorem feF_iff {a b : ByteArray} {x : Fe} {c : Int} : feF a b x = true ↔ cmpF x (a, b, c) = 0 := by
  unfold feF
  rw [Bool.and_eq_true, eqB_iff, eqB_iff, cmpF_zero]
theorem fb_found {l : List Fe} {a b : ByteArray} {c : Int} {i : Nat} (hr : RiseF l) (h1 : BelowF l (a, b, c) i) (h2 : FromF l (a, b, c) i) :
    (∀ p, l[i]? = some p → cmpF p (a, b, c) = 0 → l.find? (feF a b) = some p) ∧ (∀ p, l[i]? = some p → cmpF p (a, b, c) ≠ 0 → l.find? (feF a b) = none) ∧ (l[i]? = none → l.find? (feF a b) = none) := by
  refine ⟨fun p hp h0 => ?_, fun p hp h0 => ?_, fun hp => ?_⟩
  · obtain ⟨hi, e⟩ := List.getElem?_eq_some_iff.1 hp
    refine List.find?_eq_some_iff_getElem.2 ⟨feF_iff.2 h0, i, hi, e, fun j hj => ?_⟩
    have h3 := h1 j l[j] hj (List.getElem?_eq_getElem (by omega))
    rw [Bool.not_eq_true']
    cases hb : feF a b l[j] with
    | false => rfl
    | true => have := (feF_iff (c := c)).1 hb; omega
  · refine List.find?_eq_none.2 fun x hx hxf => ?_
    obtain ⟨j, hj, rfl⟩ := List.getElem_of_mem hx
    have hg := List.getElem?_eq_getElem hj
    have h0' := (feF_iff (c := c)).1 hxf
    rcases Nat.lt_or_ge j i with hji | hji
    · have := h1 j _ hji hg; omega
    · rcases Nat.lt_or_ge i j with hij | hij
      · have h3 := h2 i p (Nat.le_refl _) hp
        have h4 := hr.lt hij hp hg
        have h5 := cmpF_neg l[j] (a, b, c)
        have h6 := cmpF_neg p (a, b, c)
        have h7 : cmpF (a, b, c) p < 0 := by omega
        have h8 := cmpF_trans h7 h4
        omega
      · obtain rfl : j = i := by omega
        rw [hg] at hp
        obtain rfl := Option.some.inj hp
        exact h0 h0'
  · refine List.find?_eq_none.2 fun x hx hxf => ?_
    obtain ⟨j, hj, rfl⟩ := List.getElem_of_mem hx
    have hg := List.getElem?_eq_getElem hj
    have h0' := (feF_iff (c := c)).1 hxf
    have hil : l.length ≤ i := List.getElem?_eq_none_iff.1 hp
    have := h1 j _ (by omega) hg
    omega
def BfPost (l : List Fe) (a b : ByteArray) (w : World) (e : Ending) (w' : World) : Prop := ∃ i : Nat, e = .returned (.tuple #[.int .i64 i, .bool (l.find? (feF a b)).isSome]) ∧ (∀ q, l.find? (feF a b) = some q → l[i]? = some q) ∧ G w w' none
end Go.Proofs.YtbieiefbgcgogaaDoor
