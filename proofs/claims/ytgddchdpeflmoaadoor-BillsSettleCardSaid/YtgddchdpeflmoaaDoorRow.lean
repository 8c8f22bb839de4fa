/- Rows of elements of whatever make, read as lists. No program. -/
import Derived.Test.YtgddchdpeflmoaaDoorBase
namespace Go.Proofs.YtgddchdpeflmoaaDoor
open Go.RowKit

def rowL {α : Type} (c : α → Array Value) (l : List α) : List Value := l.flatMap fun p => (c p).toList
theorem rowL_cons {α : Type} (c : α → Array Value) (p : α) (l : List α) : rowL c (p :: l) = (c p).toList ++ rowL c l := rfl
theorem rowL_len {α : Type} {c : α → Array Value} {z : Nat} (hz : ∀ p, (c p).size = z) (l : List α) : (rowL c l).length = l.length * z := by
  induction l with
  | nil => simp [rowL]
  | cons p l ih =>
    rw [rowL_cons, List.length_append, ih, List.length_cons, Array.length_toList, hz, Nat.add_mul, Nat.one_mul, Nat.add_comm]
theorem rowL_snoc {α : Type} (c : α → Array Value) (l : List α) (p : α) : rowL c (l ++ [p]) = rowL c l ++ (c p).toList := by simp [rowL]
theorem rowL_at {α : Type} {c : α → Array Value} {z : Nat} (hz : ∀ p, (c p).size = z) (l : List α) (k : Nat) (p : α) (hp : l[k]? = some p) : ∀ j v, (c p).toList[j]? = some v → (rowL c l)[k * z + j]? = some v := by
  induction l generalizing k with
  | nil => simp at hp
  | cons q r ih =>
    intro j v hv
    rw [rowL_cons]
    have hl : (c q).toList.length = z := by rw [Array.length_toList, hz]
    cases k with
    | zero =>
      obtain rfl : q = p := by simpa using hp
      have hj : j < z := by rw [← hl]; exact (List.getElem?_eq_some_iff.1 hv).1
      rw [Nat.zero_mul, Nat.zero_add, List.getElem?_append_left (by rw [hl]; exact hj)]
      exact hv
    | succ k =>
      have e : (k + 1) * z + j - z = k * z + j := by rw [Nat.add_mul, Nat.one_mul]; omega
      have e2 : z ≤ (k + 1) * z + j := by rw [Nat.add_mul, Nat.one_mul]; omega
      rw [List.getElem?_append_right (by rw [hl]; exact e2), hl, e]
      exact ih k (by simpa using hp) j v hv
theorem rowL_set {α : Type} {c : α → Array Value} {z : Nat} (hz : ∀ p, (c p).size = z) (l : List α) (k : Nat) (p q : α) (hp : l[k]? = some p) (j : Nat) (u : Value) (hj : j < z) (hq : (c q).toList = (c p).toList.set j u) : (rowL c l).set (k * z + j) u = rowL c (l.set k q) := by
  induction l generalizing k with
  | nil => simp at hp
  | cons x r ih =>
    have hl : (c x).toList.length = z := by rw [Array.length_toList, hz]
    rw [rowL_cons]
    cases k with
    | zero =>
      obtain rfl : x = p := by simpa using hp
      rw [List.set_cons_zero, rowL_cons, Nat.zero_mul, Nat.zero_add, List.set_append_left _ _ (by rw [hl]; exact hj), hq]
    | succ k =>
      have e : (k + 1) * z + j - z = k * z + j := by rw [Nat.add_mul, Nat.one_mul]; omega
      have e2 : z ≤ (k + 1) * z + j := by rw [Nat.add_mul, Nat.one_mul]; omega
      rw [List.set_cons_succ, rowL_cons, List.set_append_right _ _ (by rw [hl]; exact e2), hl, e, ih k (by simpa using hp)]
theorem ownsRow_set {w : World} {base : Nat} {e : TypeId} {size g n cap : Nat} {xs : List Value} (h : w.ownsRow base e size (.slice (some ⟨g, 0, none⟩) n cap) n xs) (i : Nat) (u : Value) : (w.setCell ⟨g, i, none⟩ u).ownsRow base e size (.slice (some ⟨g, 0, none⟩) n cap) n (xs.set i u) := by
  obtain ⟨h1, h2⟩ := h
  refine ⟨by rw [List.length_set]; exact h1, .inr ?_⟩
  rcases h2 with ⟨h3, _⟩ | ⟨g', cap', cur, e1, hb, hg, hn, hm, hs, ht⟩
  · cases h3
  · obtain ⟨rfl, rfl⟩ : g = g' ∧ cap = cap' := by cases e1; exact ⟨rfl, rfl⟩
    refine ⟨g, cap, cur.setIfInBounds i u, rfl, hb, ?_, hn, hm, by simpa using hs, ?_⟩
    · simp [World.setCell, Array.getElem?_modify, hg]
    · rw [Array.toList_setIfInBounds, List.take_set, ht]
theorem ownsRow_free {w : World} {base : Nat} {e : TypeId} {size g n cap : Nat} {xs : List Value} (h : w.ownsRow base e size (.slice (some ⟨g, 0, none⟩) n cap) n xs) (i : Nat) : w.frozen? ⟨g, i, none⟩ = false := by
  rcases h.2 with ⟨h3, _⟩ | ⟨g', cap', cur, e1, hb, hg, hn, hm, hs, ht⟩
  · cases h3
  · obtain ⟨rfl, rfl⟩ : g = g' ∧ cap = cap' := by cases e1; exact ⟨rfl, rfl⟩
    simp [World.frozen?, hg]
/-- A slice that reads as a list of such elements. -/
abbrev RdR {α : Type} (w : World) (z : Nat) (c : α → Array Value) (v : Value) (l : List α) : Prop := Rd w z v l.length (rowL c l)
theorem RdR.elem {α : Type} {W w : World} {z : Nat} {c : α → Array Value} {a : Option Addr} {n cap : Nat} {l : List α} (hz : ∀ p, (c p).size = z) (h : RdR W z c (.slice a n cap) l) (hG : G W w none) {k : Nat} {p : α} (hp : l[k]? = some p) :
    ∃ bb bo, a = some ⟨bb, bo, none⟩ ∧ bb < W.heap.size ∧ ∀ j v, (c p).toList[j]? = some v → w.cell? ((⟨bb, bo + k * z, none⟩ : Addr).add j) = some v := by
  obtain ⟨a', c', e, h1, h2, h3, h4, h5⟩ := h
  obtain ⟨rfl, rfl, rfl⟩ : a = a' ∧ n = l.length ∧ cap = c' := by cases e; exact ⟨rfl, rfl, rfl⟩
  cases a with
  | none =>
    have := (h4 rfl).1
    have := (List.getElem?_eq_some_iff.1 hp).1
    omega
  | some ad =>
    obtain ⟨bb, bo, bs⟩ := ad
    obtain ⟨q1, q2, q3⟩ := h5 _ rfl
    dsimp only at q1 q2 q3
    subst q1
    refine ⟨bb, bo, rfl, q2, fun j v hv => ?_⟩
    rw [add_at]
    have := q3 (k * z + j) v (rowL_at hz l k p hp j v hv)
    rw [← Nat.add_assoc] at this
    exact ((gcell hG).1 bb _ q2).trans this
/-- The same, told cell by cell. -/
theorem RdR.cell {α : Type} {W w : World} {z : Nat} {c : α → Array Value} {bb bo n cap : Nat} {l : List α} (hz : ∀ p, (c p).size = z) (h : RdR W z c (.slice (some ⟨bb, bo, none⟩) n cap) l) (hG : G W w none) {k : Nat} {p : α} (hp : l[k]? = some p) (j : Nat) (v : Value) (hv : (c p).toList[j]? = some v) :
    w.cell? ⟨bb, bo + k * z + j, none⟩ = some v := by
  obtain ⟨b', o', e, _, h2⟩ := RdR.elem hz h hG hp
  obtain ⟨rfl, rfl⟩ : bb = b' ∧ bo = o' := by cases e; exact ⟨rfl, rfl⟩
  have := h2 j v hv
  rwa [add_at] at this
theorem RdR.form {α : Type} {W : World} {z : Nat} {c : α → Array Value} {v : Value} {l : List α} (h : RdR W z c v l) : ∃ a cap, v = .slice a l.length cap ∧ l.length ≤ cap ∧ cap ≤ maxLen := by
  obtain ⟨a', c', e, h1, h2, h3, h4, h5⟩ := h
  exact ⟨a', c', e, h1, h2⟩
theorem RdR.nil {α : Type} (w : World) (z : Nat) (c : α → Array Value) : RdR w z c (.slice none 0 0) [] := ⟨none, 0, rfl, Nat.le_refl _, Nat.zero_le _, by simp [rowL], fun _ => ⟨rfl, rfl⟩, fun b hb => by cases hb⟩
/-- The first of them. -/
theorem RdR.prefix_ {α : Type} {w : World} {z : Nat} {c : α → Array Value} {a : Option Addr} {n cap : Nat} {l : List α} (hz : ∀ p, (c p).size = z) (h : RdR w z c (.slice a n cap) l) (m : Nat) (hm : m ≤ l.length) : RdR w z c (.slice a m cap) (l.take m) := by
  obtain ⟨a', c', e, h1, h2, h3, h4, h5⟩ := h
  obtain ⟨rfl, rfl, rfl⟩ : a = a' ∧ n = l.length ∧ cap = c' := by cases e; exact ⟨rfl, rfl, rfl⟩
  have hlt : (l.take m).length = m := by rw [List.length_take]; omega
  refine ⟨a, cap, by rw [hlt], by omega, h2, rowL_len hz _, fun e => ⟨by have := (h4 e).1; omega, (h4 e).2⟩, fun b hb => ?_⟩
  obtain ⟨q1, q2, q3⟩ := h5 b hb
  refine ⟨q1, q2, fun j u hj => q3 j u ?_⟩
  have e2 : rowL c l = rowL c (l.take m) ++ rowL c (l.drop m) := by
    unfold rowL
    rw [← List.flatMap_append, List.take_append_drop]
  rw [e2, List.getElem?_append_left ((List.getElem?_eq_some_iff.1 hj).1)]
  exact hj
/-- The first place of one that is asked for, from 'k' on counted; -1: none. -/
def ixP {α : Type} (q : α → Bool) : List α → Int → Int
  | [], _ => -1
  | p :: r, k => if q p = true then k else ixP q r (k + 1)
theorem ixP_spec {α : Type} (q : α → Bool) (l : List α) : ∀ k : Nat, (ixP q l k = -1 ∧ l.any q = false) ∨ ∃ (i : Nat) (p : α), ixP q l k = ((k + i : Nat) : Int) ∧ l[i]? = some p ∧ q p = true := by
  induction l with
  | nil => intro k; exact .inl ⟨rfl, rfl⟩
  | cons p r ih =>
    intro k
    unfold ixP
    by_cases h : q p = true
    · rw [if_pos h]
      exact .inr ⟨0, p, rfl, rfl, h⟩
    · rw [if_neg h]
      rcases ih (k + 1) with ⟨h1, h2⟩ | ⟨i, p', h1, h2, h3⟩
      · left
        exact ⟨h1, by rw [List.any_cons, h2]; simp [h]⟩
      · right
        refine ⟨i + 1, p', ?_, by simpa using h2, h3⟩
        have e : ixP q r ((k : Int) + 1) = ixP q r ((k + 1 : Nat) : Int) := rfl
        rw [e, h1]
        congr 1
        omega
theorem ixP_find {α : Type} (q : α → Bool) (l : List α) : ∀ k : Nat, (ixP q l k = -1 ∧ l.find? q = none) ∨ ∃ (i : Nat) (p : α), ixP q l k = ((k + i : Nat) : Int) ∧ l[i]? = some p ∧ l.find? q = some p := by
  induction l with
  | nil => intro k; exact .inl ⟨rfl, rfl⟩
  | cons p r ih =>
    intro k
    unfold ixP
    by_cases h : q p = true
    · rw [if_pos h]
      exact .inr ⟨0, p, rfl, rfl, by rw [List.find?_cons, h]⟩
    · rw [if_neg h]
      have hf : (p :: r).find? q = r.find? q := by rw [List.find?_cons]; simp [h]
      rw [hf]
      rcases ih (k + 1) with ⟨h1, h2⟩ | ⟨i, p', h1, h2, h3⟩
      · exact .inl ⟨h1, h2⟩
      · right
        refine ⟨i + 1, p', ?_, by simpa using h2, h3⟩
        have e : ixP q r ((k : Int) + 1) = ixP q r ((k + 1 : Nat) : Int) := rfl
        rw [e, h1]
        congr 1
        omega
end Go.Proofs.YtgddchdpeflmoaaDoor
