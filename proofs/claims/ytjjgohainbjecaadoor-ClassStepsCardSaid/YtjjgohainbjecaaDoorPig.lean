/- The plain mathematics of classes: chains of ups; no more different keys than there are. No program. -/
import Derived.Test.YtjjgohainbjecaaDoorChk
import Derived.Test.YtjjgohainbjecaaDoorOrd
namespace Go.Proofs.YtjjgohainbjecaaDoor
open Go.RowKit

theorem nodup_len {α : Type} [DecidableEq α] : ∀ (xs ks : List α), xs.Nodup → (∀ x ∈ xs, x ∈ ks) → xs.length ≤ ks.length
  | [], _, _, _ => Nat.zero_le _
  | x :: r, ks, hn, hs => by
    have hx := hs x (by simp)
    obtain ⟨h1, h2⟩ := List.nodup_cons.1 hn
    have h3 := nodup_len r (ks.erase x) h2 (fun y hy => (List.mem_erase_of_ne (fun e => h1 (by rw [← e]; exact hy))).2 (hs y (List.mem_cons_of_mem _ hy)))
    rw [List.length_erase_of_mem hx] at h3
    have h4 := List.length_pos_of_mem hx
    simp only [List.length_cons]
    omega
theorem eS_toList : eS.toList = [] := by rw [ByteArray.toList_eq]; rfl
theorem isE_iff {t : ByteArray} : t.toList.isEmpty = true ↔ t = eS := by
  constructor
  · intro h
    have h2 : eqB t eS = true := by
      unfold eqB
      rw [List.isEmpty_iff.1 h, eS_toList]
      rfl
    exact eqB_iff.1 h2
  · rintro rfl
    rw [eS_toList]
    rfl
/-- The class above, or the empty string. -/
def nx (u : Up) (s : ByteArray) : ByteArray := (u s).getD eS
def it (u : Up) : Nat → ByteArray → ByteArray
  | 0, s => s
  | n + 1, s => it u n (nx u s)
theorem it_add (u : Up) (a b : Nat) (s : ByteArray) : it u (a + b) s = it u b (it u a s) := by
  induction a generalizing s with
  | zero => rw [Nat.zero_add]; rfl
  | succ a ih => rw [show a + 1 + b = (a + b) + 1 by omega]; exact ih _
theorem it_eS {u : Up} (hu : u eS = none) (n : Nat) : it u n eS = eS := by
  induction n with
  | zero => rfl
  | succ n ih =>
    show it u n (nx u eS) = eS
    rw [show nx u eS = eS by unfold nx; rw [hu]; rfl]
    exact ih
theorem it_stays {u : Up} (hu : u eS = none) {n m : Nat} {s : ByteArray} (h : it u n s = eS) (hm : n ≤ m) : it u m s = eS := by
  rw [show m = n + (m - n) by omega, it_add, h, it_eS hu]
theorem cbk_iff (u : Up) (key : ByteArray) : ∀ (n : Nat) (s : ByteArray), cbk u key n s = true ↔ ∃ k, k < n ∧ it u k s = key
  | 0, s => by constructor
               · intro h; cases h
               · rintro ⟨k, h, _⟩; omega
  | n + 1, s => by
    unfold cbk
    split
    · rename_i h
      exact ⟨fun _ => ⟨0, by omega, eqB_iff.1 h⟩, fun _ => rfl⟩
    · rename_i h
      rw [cbk_iff u key n]
      constructor
      · rintro ⟨k, h1, h2⟩
        exact ⟨k + 1, by omega, h2⟩
      · rintro ⟨k, h1, h2⟩
        cases k with
        | zero => exact absurd (eqB_iff.2 h2) h
        | succ k => exact ⟨k, by omega, h2⟩
theorem cbB_iff (u : Up) (c : Nat) (key : ByteArray) : cbB u c key = true ↔ ∃ k, 1 ≤ k ∧ k ≤ c ∧ it u k key = key := by
  unfold cbB
  rw [cbk_iff]
  constructor
  · rintro ⟨k, h1, h2⟩
    exact ⟨k + 1, by omega, by omega, h2⟩
  · rintro ⟨k, h1, h2, h3⟩
    cases k with
    | zero => omega
    | succ k => exact ⟨k, by omega, h3⟩
theorem pigeon (u : Up) (ks : List ByteArray) (s : ByteArray) (h : ∀ i, i ≤ ks.length → it u i s ∈ ks) : ∃ x ∈ ks, cbB u ks.length x = true := by
  by_cases hd : ∃ i j, i < j ∧ j ≤ ks.length ∧ it u i s = it u j s
  · obtain ⟨i, j, h1, h2, h3⟩ := hd
    refine ⟨it u i s, h i (by omega), (cbB_iff _ _ _).2 ⟨j - i, by omega, by omega, ?_⟩⟩
    rw [← it_add, show i + (j - i) = j by omega]
    exact h3.symm
  · exfalso
    have hn : ((List.range (ks.length + 1)).map (fun i => it u i s)).Nodup := by
      unfold List.Nodup
      rw [List.pairwise_iff_getElem]
      intro i j hi hj hij e
      simp only [List.length_map, List.length_range] at hi hj
      simp only [List.getElem_map, List.getElem_range] at e
      exact hd ⟨i, j, hij, by omega, e⟩
    have h2 := nodup_len _ ks hn (fun x hx => by
      obtain ⟨i, hi, rfl⟩ := List.mem_map.1 hx
      exact h i (by have := List.mem_range.1 hi; omega))
    simp only [List.length_map, List.length_range] at h2
    omega
theorem key_before {u : Up} (hu : u eS = none) {k i : Nat} {s : ByteArray} (h : it u k s ≠ eS) (hi : i < k) : ∃ t, u (it u i s) = some t := by
  cases hk : u (it u i s) with
  | some t => exact ⟨t, rfl⟩
  | none =>
    exfalso
    apply h
    refine it_stays hu (n := i + 1) ?_ hi
    rw [it_add]
    show nx u (it u i s) = eS
    unfold nx
    rw [hk]
    rfl
/-! The map of a list of classes. -/
def ksC (l : List Cla) : List ByteArray := l.map (·.1)
theorem upS_mem {l : List Cla} {s t : ByteArray} (h : upS l s = some t) : s ∈ ksC l := by
  induction l generalizing t with
  | nil => cases h
  | cons p r ih =>
    rw [upS_cons] at h
    cases hr : upS r s with
    | some v => exact List.mem_cons_of_mem _ (ih hr)
    | none =>
      rw [hr] at h
      dsimp only at h
      split at h
      · rename_i e; subst e; exact List.mem_cons_self ..
      · cases h
theorem upS_none {l : List Cla} {s : ByteArray} (h : s ∉ ksC l) : upS l s = none := by
  cases hu : upS l s with
  | none => rfl
  | some t => exact absurd (upS_mem hu) h
theorem upS_at {l : List Cla} (hr : Rise (ksC l)) {p : Cla} (hp : p ∈ l) : upS l p.1 = some p.2 := by
  induction l with
  | nil => cases hp
  | cons q r ih =>
    obtain ⟨h1, h2⟩ := List.pairwise_cons.1 hr
    rw [upS_cons]
    rcases List.mem_cons.1 hp with rfl | hp
    · rw [upS_none (fun hm => by have h3 : cmpI p.1 p.1 < 0 := h1 _ hm; have h4 := cmpI_eq.2 (rfl : p.1 = p.1); omega)]
      simp
    · rw [ih h2 hp]
theorem upS_isSome (l : List Cla) (s : ByteArray) : (upS l s).isSome = hasK (ksC l) s := by
  induction l with
  | nil => rfl
  | cons q r ih =>
    rw [upS_cons]
    show _ = (eqB q.1 s || hasK (ksC r) s)
    rw [← ih]
    cases hr : upS r s with
    | some v => simp
    | none =>
      dsimp only
      by_cases e : s = q.1
      · rw [if_pos e, eqB_iff.2 e.symm]; rfl
      · rw [if_neg e]
        cases hb : eqB q.1 s with
        | true => exact absurd (eqB_iff.1 hb).symm e
        | false => rfl
theorem upC_len (c : Nat) (f : Fn) (l : List Cla) (hr : Rise (ksC l)) (hf : ∀ p ∈ l, f p.1 = none) : upC c f l = c + l.length := by
  induction l generalizing c f with
  | nil => rfl
  | cons p r ih =>
    obtain ⟨h1, h2⟩ := List.pairwise_cons.1 hr
    show upC (cput c f p.1) (fput f p.1 (.string p.2)) r = _
    rw [ih _ _ h2]
    · have : cput c f p.1 = c + 1 := by unfold cput; rw [hf p (List.mem_cons_self ..)]; rfl
      rw [this]
      simp only [List.length_cons]
      omega
    · intro q hq
      have hne : q.1 ≠ p.1 := fun e => by
        have h3 : cmpI p.1 q.1 < 0 := h1 q.1 (List.mem_map.2 ⟨q, hq, rfl⟩)
        have h4 := cmpI_eq.2 e.symm
        omega
      unfold fput
      rw [if_neg hne]
      exact hf q (List.mem_cons_of_mem _ hq)
theorem ck_ne {l : List Cla} (h : ckErr ⟨#[]⟩ l = 0) : eS ∉ ksC l := by
  intro hm
  obtain ⟨p, hp, e⟩ := List.mem_map.1 hm
  have h1 := (ck_rise _ _ h).2 p hp
  have h2 := cmpI_eq.2 (e.symm : eS = p.1)
  have h3 : cmpI eS p.1 < 0 := h1
  omega
/-! What the law's own text looks at. -/
def upsK (u : Up) : Nat → ByteArray → List ByteArray
  | 0, _ => []
  | n + 1, s => match u s with | none => [] | some t => if t.toList.isEmpty = true then [] else t :: upsK u n t
theorem upsK_sub {u : Up} : ∀ {n : Nat} {s t : ByteArray}, t ∈ upsK u n s → ∃ k, 1 ≤ k ∧ k ≤ n ∧ it u k s = t
  | 0, s, t, h => by cases h
  | n + 1, s, t, h => by
    unfold upsK at h
    cases hu : u s with
    | none => rw [hu] at h; cases h
    | some x =>
      rw [hu] at h
      dsimp only at h
      split at h
      · cases h
      · have hx : nx u s = x := by unfold nx; rw [hu]; rfl
        rcases List.mem_cons.1 h with rfl | h
        · exact ⟨1, by omega, by omega, hx⟩
        · obtain ⟨k, h1, h2, h3⟩ := upsK_sub h
          exact ⟨k + 1, by omega, by omega, by show it u k (nx u s) = t; rw [hx]; exact h3⟩
theorem upsK_mem {u : Up} (hu : u eS = none) : ∀ {n k : Nat} {s t : ByteArray}, 1 ≤ k → k ≤ n → it u k s = t → t ≠ eS → t ∈ upsK u n s
  | 0, k, s, t, h1, h2, _, _ => by omega
  | n + 1, k, s, t, h1, h2, h3, h4 => by
    cases k with
    | zero => omega
    | succ k =>
      have h3' : it u k (nx u s) = t := h3
      unfold upsK
      cases hs : u s with
      | none =>
        exfalso
        rw [show nx u s = eS by unfold nx; rw [hs]; rfl, it_eS hu] at h3'
        exact h4 h3'.symm
      | some x =>
        have hx : nx u s = x := by unfold nx; rw [hs]; rfl
        rw [hx] at h3'
        dsimp only
        split
        · rename_i he
          exfalso
          rw [isE_iff.1 he, it_eS hu] at h3'
          exact h4 h3'.symm
        · cases k with
          | zero =>
            have : x = t := h3'
            rw [this]
            exact List.mem_cons_self ..
          | succ k => exact List.mem_cons_of_mem _ (upsK_mem hu (by omega) (by omega) h3' h4)
theorem loop_eq {l : List Cla} (h0 : ckErr ⟨#[]⟩ l = 0) : l.any (fun p => cbB (upS l) (upC 0 eF l) p.1) = l.any (fun p => hasK (upsK (upS l) (l.length + 1) p.1) p.1) := by
  have hr : Rise (ksC l) := (ck_rise _ _ h0).1
  have hne := ck_ne h0
  have hu : upS l eS = none := upS_none hne
  have hc : upC 0 eF l = l.length := by rw [upC_len 0 eF l hr (fun _ _ => rfl), Nat.zero_add]
  have hkl : (ksC l).length = l.length := List.length_map _
  rw [hc, Bool.eq_iff_iff, List.any_eq_true, List.any_eq_true]
  constructor
  · rintro ⟨p, hp, h⟩
    obtain ⟨k, h1, h2, h3⟩ := (cbB_iff _ _ _).1 h
    exact ⟨p, hp, hasK_iff.2 (upsK_mem hu h1 (by omega) h3 (fun e => hne (e ▸ List.mem_map.2 ⟨p, hp, rfl⟩)))⟩
  · rintro ⟨p, hp, h⟩
    obtain ⟨k, h1, h2, h3⟩ := upsK_sub (hasK_iff.1 h)
    by_cases hk : k ≤ l.length
    · exact ⟨p, hp, (cbB_iff _ _ _).2 ⟨k, h1, hk, h3⟩⟩
    · have hpe : it (upS l) k p.1 ≠ eS := by rw [h3]; exact fun e => hne (e ▸ List.mem_map.2 ⟨p, hp, rfl⟩)
      obtain ⟨x, hx, hcb⟩ := pigeon (upS l) (ksC l) p.1 (fun i hi => by
        obtain ⟨t, ht⟩ := key_before hu hpe (show i < k by omega)
        exact upS_mem ht)
      obtain ⟨q, hq, rfl⟩ := List.mem_map.1 hx
      rw [hkl] at hcb
      exact ⟨q, hq, hcb⟩
theorem clErr_parts {l : List Cla} (h : clErr l = 0) : ckErr ⟨#[]⟩ l = 0 ∧ l.length ≤ 30 ∧ l.any (fun p => cbB (upS l) (upC 0 eF l) p.1) = false := by
  unfold clErr at h
  split at h
  · omega
  · split at h
    · rename_i h30 hck
      unfold clTail at h
      split at h
      · omega
      · split at h
        · omega
        · rename_i hcb
          exact ⟨hck, by omega, by simpa using hcb⟩
    · contradiction
/-- Every ladder ends. -/
theorem it_ends {l : List Cla} (h : clErr l = 0) (s : ByteArray) : it (upS l) (l.length + 1) s = eS := by
  obtain ⟨hck, _, hcb⟩ := clErr_parts h
  have hr : Rise (ksC l) := (ck_rise _ _ hck).1
  have hu : upS l eS = none := upS_none (ck_ne hck)
  have hc : upC 0 eF l = l.length := by rw [upC_len 0 eF l hr (fun _ _ => rfl), Nat.zero_add]
  have hkl : (ksC l).length = l.length := List.length_map _
  by_cases he : it (upS l) (l.length + 1) s = eS
  · exact he
  · exfalso
    obtain ⟨x, hx, h2⟩ := pigeon (upS l) (ksC l) s (fun i hi => by
      obtain ⟨t, ht⟩ := key_before hu he (show i < l.length + 1 by omega)
      exact upS_mem ht)
    obtain ⟨q, hq, rfl⟩ := List.mem_map.1 hx
    rw [hkl] at h2
    rw [hc] at hcb
    have h3 : l.any (fun p => cbB (upS l) l.length p.1) = true := List.any_eq_true.2 ⟨q, hq, h2⟩
    rw [hcb] at h3
    cases h3
/-- A class, and those above it. -/
def ladK (u : Up) : Nat → ByteArray → List ByteArray
  | 0, _ => []
  | n + 1, s => if s.toList.isEmpty = true then [] else s :: ladK u n ((u s).getD eS)
theorem ladK_eS (u : Up) (n : Nat) : ladK u n eS = [] := by
  cases n with
  | zero => rfl
  | succ n => unfold ladK; rw [if_pos (isE_iff.2 rfl)]
theorem ladK_eq (u : Up) : ∀ (n : Nat) (s : ByteArray), s ≠ eS → ladK u (n + 1) s = s :: upsK u n s
  | 0, s, h => by
    unfold ladK
    rw [if_neg (fun e => h (isE_iff.1 e))]
    rfl
  | n + 1, s, h => by
    unfold ladK
    rw [if_neg (fun e => h (isE_iff.1 e))]
    congr 1
    unfold upsK
    cases hu : u s with
    | none => exact ladK_eS u _
    | some t =>
      dsimp only [Option.getD_some]
      split
      · rename_i he
        rw [isE_iff.1 he]
        exact ladK_eS u _
      · rename_i he
        exact ladK_eq u n t (fun e => he (isE_iff.2 e))
theorem upsK_len (u : Up) : ∀ (n : Nat) (s : ByteArray), (upsK u n s).length ≤ n
  | 0, s => Nat.le_refl _
  | n + 1, s => by
    unfold upsK
    split
    · simp
    · split
      · simp
      · simp only [List.length_cons]
        have := upsK_len u n ‹_›
        omega
end Go.Proofs.YtjjgohainbjecaaDoor
