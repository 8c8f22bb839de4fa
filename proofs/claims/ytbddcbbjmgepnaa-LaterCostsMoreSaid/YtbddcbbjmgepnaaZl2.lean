/- Chk, Ord, Ext, Tmb, Tim, Fee, Hir, Due, Hik, Hif, His, Ows, Chg, Dum, Reg, Dub, Lin, Dis. -/
import Derived.Test.YtbddcbbjmgepnaaZl1
import Derived.Test.YtbddcbbjmgepnaaShelf
import Derived.Deep.RegionHeld3
import Derived.IntWalk
import Derived.Laws.StructEq
import Derived.Deep.CutRange
import Derived.Deep.MidRow
import Derived.RegionTactic
/- Classes: comesBack, CheckClasses. -/
namespace Go.Proofs.Ytbddcbbjmgepnaa
open Go.RowKit

def eS : ByteArray := ⟨#[]⟩
abbrev Up := ByteArray → Option ByteArray
def UpOk (u : Up) : Prop := ∀ s t, u s = some t → Small t
theorem sv_getD (u : Up) (s : ByteArray) : (sv u s).getD (.string ⟨#[]⟩) = .string ((u s).getD eS) := by unfold sv eS; cases u s <;> rfl
theorem sv_isSome (u : Up) (s : ByteArray) : (sv u s).isSome = (u s).isSome := by unfold sv; cases u s <;> rfl
theorem Small.eS : Small eS := by show (0 : Nat) ≤ _; omega
theorem UpOk.get {u : Up} (h : UpOk u) (s : ByteArray) : Small ((u s).getD eS) := by
  cases hu : u s with
  | none => exact Small.eS
  | some t => exact h s t hu
theorem upS_ok {l : List Cla} (h : ClsOk l) : UpOk (upS l) := by
  induction l with
  | nil => intro s t e; cases e
  | cons p r ih =>
    intro s t e
    rw [upS_cons] at e
    cases hr : upS r s with
    | some v => rw [hr] at e; cases e; exact ih (fun q hq => h q (List.mem_cons_of_mem _ hq)) s _ hr
    | none =>
      rw [hr] at e
      dsimp only at e
      split at e
      · cases e; exact (h p (by simp)).2
      · cases e
section
variable {w : World} {ops : Array Oper} {rest : List Oper} {o : Oper} {a : Act} {Q : Exit → Act → World → Prop}
end
def eqB (a b : ByteArray) : Bool := a.toList == b.toList
theorem eqB_iff {a b : ByteArray} : eqB a b = true ↔ a = b := by
  unfold eqB
  rw [beq_iff_eq]
  constructor
  · intro h
    apply Go.WideShapes.bytes_inj
    rw [ByteArray.toList_eq, ByteArray.toList_eq] at h
    exact h
  · intro h; rw [h]
/-- So many steps up come to the key. -/
def cbk (u : Up) (key : ByteArray) : Nat → ByteArray → Bool
  | 0, _ => false
  | n + 1, up => if eqB up key = true then true else cbk u key n ((u up).getD eS)
def cbB (u : Up) (c : Nat) (key : ByteArray) : Bool := cbk u key c ((u key).getD eS)
def CbRel (u : Up) (c : Nat) (key : ByteArray) (v i : Value) : Prop :=
  ∃ (k : Nat) (up : ByteArray), k ≤ c ∧ i = .int .i64 k ∧ v = .string up ∧ Small up ∧ cbB u c key = cbk u key (c - k) up
/-! ### CheckClasses -/
def badKnown (u : Up) (p : Cla) : Bool := !p.2.toList.isEmpty && !(u p.2).isSome
def clTail (u : Up) (c : Nat) (l : List Cla) : Int := if l.any (badKnown u) = true then 8 else if l.any (fun p => cbB u c p.1) = true then 14 else 0
def clErr (l : List Cla) : Int :=
  if 30 < l.length then 2 else if ckErr ⟨#[]⟩ l = 0 then clTail (upS l) (upC 0 eF l) l else ckErr ⟨#[]⟩ l
def C1Rel (w : World) (l : List Cla) (u : Up) (c g : Nat) (i : Value) (wr : World) : Prop :=
  ∃ k : Nat, k ≤ l.length ∧ i = .int .i64 k ∧ (l.take k).any (badKnown u) = false ∧ MapOf wr g c (sv u) ∧ G w wr none
def C2Rel (w : World) (l : List Cla) (u : Up) (c g : Nat) (i : Value) (wr : World) : Prop :=
  ∃ k : Nat, k ≤ l.length ∧ i = .int .i64 k ∧ (l.take k).any (fun p => cbB u c p.1) = false ∧ MapOf wr g c (sv u) ∧ G w wr none
theorem any_of_at {α : Type} (q : α → Bool) (l : List α) (k : Nat) (p : α) (hp : l[k]? = some p) (hq : q p = true) : l.any q = true := List.any_eq_true.2 ⟨p, List.mem_of_getElem? hp, hq⟩
end Go.Proofs.Ytbddcbbjmgepnaa

/- The order of strings: what strings.Compare says, and what '<=' says. No program but strings.Compare's contract. -/
namespace Go.Proofs.Ytbddcbbjmgepnaa
open Go.RowKit Go.Shelf

abbrev cL := Lib.compareBytes
theorem cL_self (a : List UInt8) : cL a a = 0 := by
  induction a with
  | nil => rfl
  | cons x a ih => show (if x < x then (-1 : Int) else if x < x then 1 else cL a a) = 0; simp [ih]
theorem u8_tri (x y : UInt8) : x < y ∨ x = y ∨ y < x := by
  rcases Nat.lt_trichotomy x.toNat y.toNat with h | h | h
  · exact .inl (UInt8.lt_iff_toNat_lt.2 h)
  · exact .inr (.inl (UInt8.toNat_inj.1 h))
  · exact .inr (.inr (UInt8.lt_iff_toNat_lt.2 h))
theorem u8_asym {x y : UInt8} (h : x < y) : ¬ y < x := by rw [UInt8.lt_iff_toNat_lt] at h ⊢; omega
theorem u8_trans {x y z : UInt8} (h : x < y) (k : y < z) : x < z := by rw [UInt8.lt_iff_toNat_lt] at h k ⊢; omega
theorem cL_cons (x y : UInt8) (a b : List UInt8) : cL (x :: a) (y :: b) = if x < y then -1 else if y < x then 1 else cL a b := rfl
theorem cL_range (a b : List UInt8) : cL a b = -1 ∨ cL a b = 0 ∨ cL a b = 1 := by
  induction a generalizing b with
  | nil => cases b with
    | nil => exact .inr (.inl rfl)
    | cons _ _ => exact .inl rfl
  | cons x a ih => cases b with
    | nil => exact .inr (.inr rfl)
    | cons y b =>
      rw [cL_cons]
      split
      · exact .inl rfl
      · split
        · exact .inr (.inr rfl)
        · exact ih b
theorem cL_eq {a b : List UInt8} (h : cL a b = 0) : a = b := by
  induction a generalizing b with
  | nil => cases b with
    | nil => rfl
    | cons _ _ => cases (show (-1 : Int) = 0 from h)
  | cons x a ih => cases b with
    | nil => cases (show (1 : Int) = 0 from h)
    | cons y b =>
      rw [cL_cons] at h
      rcases u8_tri x y with h1 | rfl | h1
      · rw [if_pos h1] at h; omega
      · rw [if_neg (fun q => u8_asym q q), if_neg (fun q => u8_asym q q)] at h
        rw [ih h]
      · rw [if_neg (u8_asym h1), if_pos h1] at h; omega
theorem cL_neg (a b : List UInt8) : cL b a = - cL a b := by
  induction a generalizing b with
  | nil => cases b <;> rfl
  | cons x a ih => cases b with
    | nil => rfl
    | cons y b =>
      rw [cL_cons, cL_cons]
      rcases u8_tri x y with h1 | rfl | h1
      · rw [if_neg (u8_asym h1), if_pos h1, if_pos h1]; rfl
      · rw [if_neg (fun q => u8_asym q q), if_neg (fun q => u8_asym q q), if_neg (fun q => u8_asym q q), if_neg (fun q => u8_asym q q)]; exact ih b
      · rw [if_pos h1, if_neg (u8_asym h1), if_pos h1]
theorem cL_trans {a b c : List UInt8} (h : cL a b < 0) (k : cL b c < 0) : cL a c < 0 := by
  induction a generalizing b c with
  | nil => cases c with
    | nil => cases b with
      | nil => exact h
      | cons _ _ => have : (1 : Int) < 0 := k; omega
    | cons _ _ => show (-1 : Int) < 0; omega
  | cons x a ih => cases b with
    | nil => have : (1 : Int) < 0 := h; omega
    | cons y b => cases c with
      | nil => have : (1 : Int) < 0 := k; omega
      | cons z c =>
        rw [cL_cons] at h k ⊢
        rcases u8_tri x y with h1 | rfl | h1
        · rcases u8_tri y z with h2 | rfl | h2
          · rw [if_pos (u8_trans h1 h2)]; omega
          · rw [if_pos h1]; omega
          · rw [if_neg (u8_asym h2), if_pos h2] at k; omega
        · rw [if_neg (fun q => u8_asym q q), if_neg (fun q => u8_asym q q)] at h
          rcases u8_tri x z with h2 | rfl | h2
          · rw [if_pos h2]; omega
          · rw [if_neg (fun q => u8_asym q q), if_neg (fun q => u8_asym q q)] at k ⊢
            exact ih h k
          · rw [if_neg (u8_asym h2), if_pos h2] at k; omega
        · rw [if_neg (u8_asym h1), if_pos h1] at h; omega
theorem less_cL (a b : List UInt8) : Op.bytesLess a b = decide (cL a b < 0) := by
  induction a generalizing b with
  | nil => cases b <;> rfl
  | cons x a ih => cases b with
    | nil => rfl
    | cons y b =>
      rw [cL_cons]
      unfold Op.bytesLess
      rcases u8_tri x y with h1 | rfl | h1
      · simp [h1]
      · simp [ih]
      · have h2 := u8_asym h1
        have h3 : x ≠ y := fun e => by rw [e] at h1; exact u8_asym h1 h1
        simp [h1, h2, h3]

/-- What strings.Compare returns. -/
def cmpI (a b : ByteArray) : Int := cL a.data.toList b.data.toList
theorem cmpI_eq {a b : ByteArray} : cmpI a b = 0 ↔ a = b := by
  constructor
  · intro h
    exact Go.WideShapes.bytes_inj (cL_eq h)
  · intro h; rw [h]; exact cL_self _
theorem cmpI_neg (a b : ByteArray) : cmpI b a = - cmpI a b := cL_neg _ _
theorem cmpI_trans {a b c : ByteArray} (h : cmpI a b < 0) (k : cmpI b c < 0) : cmpI a c < 0 := cL_trans h k
theorem cmpI_range (a b : ByteArray) : cmpI a b = -1 ∨ cmpI a b = 0 ∨ cmpI a b = 1 := cL_range _ _
theorem leB_cmp (a b : ByteArray) : leB a b = decide (cmpI a b ≤ 0) := by
  unfold leB cmpI
  rw [less_cL, ByteArray.toList_eq, ByteArray.toList_eq]
  rcases cL_range a.data.toList b.data.toList with h | h | h
  · rw [h]; rfl
  · rw [h, cL_eq h]; simp
  · have : a.data.toList ≠ b.data.toList := fun e => by rw [e, cL_self] at h; omega
    rw [h, beq_eq_false_iff_ne.2 this]; rfl
theorem eqB_cmp (a b : ByteArray) : eqB a b = decide (cmpI a b = 0) := by
  rw [Bool.eq_iff_iff, eqB_iff, decide_eq_true_iff]
  exact cmpI_eq.symm
/-- Rising. -/
def Rise (l : List ByteArray) : Prop := l.Pairwise (fun a b => cmpI a b < 0)
def hasK (l : List ByteArray) (t : ByteArray) : Bool := l.any fun s => eqB s t
theorem hasK_iff {l : List ByteArray} {t : ByteArray} : hasK l t = true ↔ t ∈ l := by
  unfold hasK
  rw [List.any_eq_true]
  constructor
  · rintro ⟨s, hs, he⟩
    rw [eqB_iff] at he
    exact he ▸ hs
  · intro h
    exact ⟨t, h, eqB_iff.2 rfl⟩
theorem ck_rise (b : ByteArray) (l : List Cla) (h : ckErr b l = 0) : Rise (l.map (·.1)) ∧ ∀ p ∈ l, cmpI b p.1 < 0 := by
  induction l generalizing b with
  | nil => exact ⟨List.Pairwise.nil, fun p hp => by cases hp⟩
  | cons p r ih =>
    unfold ckErr at h
    split at h
    · omega
    · split at h
      · omega
      · rename_i hle
        split at h
        · omega
        · obtain ⟨i1, i2⟩ := ih p.1 h
          have hb : cmpI b p.1 < 0 := by
            rw [leB_cmp] at hle
            have h1 := cmpI_neg p.1 b
            simp at hle
            omega
          refine ⟨List.pairwise_cons.2 ⟨fun s hs => ?_, i1⟩, fun q hq => ?_⟩
          · obtain ⟨q, hq, rfl⟩ := List.mem_map.1 hs
            exact i2 q hq
          · rcases List.mem_cons.1 hq with rfl | hq
            · exact hb
            · exact cmpI_trans hb (i2 q hq)
theorem sta_rise (b : ByteArray) (l : List Sta) (h : staErr b l = 0) : Rise (l.map (·.1)) ∧ ∀ p ∈ l, cmpI b p.1 < 0 := by
  induction l generalizing b with
  | nil => exact ⟨List.Pairwise.nil, fun p hp => by cases hp⟩
  | cons p r ih =>
    unfold staErr at h
    split at h
    · omega
    · split at h
      · omega
      · rename_i hle
        split at h
        · omega
        · obtain ⟨i1, i2⟩ := ih p.1 h
          have hb : cmpI b p.1 < 0 := by
            rw [leB_cmp] at hle
            have h1 := cmpI_neg p.1 b
            simp at hle
            omega
          refine ⟨List.pairwise_cons.2 ⟨fun s hs => ?_, i1⟩, fun q hq => ?_⟩
          · obtain ⟨q, hq, rfl⟩ := List.mem_map.1 hs
            exact i2 q hq
          · rcases List.mem_cons.1 hq with rfl | hq
            · exact hb
            · exact cmpI_trans hb (i2 q hq)
/-- The binary search's end: all below 'i' are less, none from 'i' on is. -/
theorem bs_found (l : List ByteArray) (t : ByteArray) (hr : Rise l) (i : Nat) (hi : i ≤ l.length) (h1 : ∀ (j : Nat) (s : ByteArray), j < i → l[j]? = some s → cmpI s t < 0) (h2 : ∀ (j : Nat) (s : ByteArray), i ≤ j → l[j]? = some s → 0 ≤ cmpI s t) :
    hasK l t = (match l[i]? with | some s => decide (cmpI s t = 0) | none => false) := by
  cases hs : l[i]? with
  | none =>
    rw [← Bool.not_eq_true, hasK_iff]
    intro hm
    obtain ⟨j, hj⟩ := List.getElem?_of_mem hm
    have hjl := (List.getElem?_eq_some_iff.1 hj).1
    have hil := List.getElem?_eq_none_iff.1 hs
    have := h1 j t (by omega) hj
    rw [cmpI_eq.2 rfl] at this
    omega
  | some s =>
    rw [Bool.eq_iff_iff, hasK_iff, decide_eq_true_iff]
    constructor
    · intro hm
      obtain ⟨j, hj⟩ := List.getElem?_of_mem hm
      by_cases hji : j < i
      · have := h1 j t hji hj
        rw [cmpI_eq.2 rfl] at this
        omega
      · by_cases e : j = i
        · subst e
          rw [hs] at hj
          obtain rfl := Option.some.inj hj
          exact cmpI_eq.2 rfl
        · have h3 := h2 i s (Nat.le_refl _) hs
          have h4 : cmpI s t < 0 := by
            have hjl := (List.getElem?_eq_some_iff.1 hj)
            have hil := (List.getElem?_eq_some_iff.1 hs)
            have := List.pairwise_iff_getElem.1 hr i j hil.1 hjl.1 (by omega)
            rw [hil.2, hjl.2] at this
            exact this
          omega
    · intro h
      rw [cmpI_eq] at h
      subst h
      exact List.mem_of_getElem? hs
end Go.Proofs.Ytbddcbbjmgepnaa

/- Extras: CheckExtras, its reference, ExtraCost, its reference. -/
namespace Go.Proofs.Ytbddcbbjmgepnaa
open Go.RowKit

/-- An extra: its key, Once, Day, Most. -/
abbrev Ext := ByteArray × Int × Int × Int
def exC (x : Ext) : Array Value := #[.string x.1, .int .i64 x.2.1, .int .i64 x.2.2.1, .int .i64 x.2.2.2]
theorem exC_sz (x : Ext) : (exC x).size = 4 := rfl
def ExOk (l : List Ext) : Prop := ∀ x ∈ l, Small x.1 ∧ bnd x.2.1 ∧ bnd x.2.2.1 ∧ bnd x.2.2.2
def exBad (x : Ext) : Bool := !inB x.2.1 0 1000000 || (!inB x.2.2.1 0 1000000 || !inB x.2.2.2 (-1) 1000000)
def exErr (b : ByteArray) : List Ext → Int
  | [] => 0
  | x :: r => if keyB x.1 = false then 5 else if leB x.1 b = true then 7 else if exBad x = true then 1 else exErr x.1 r
def exE (l : List Ext) : Int := if 30 < l.length then 2 else exErr ⟨#[]⟩ l
def ExRel (w : World) (l : List Ext) (v i : Value) (wr : World) : Prop :=
  ∃ (k : Nat) (b : ByteArray), k ≤ l.length ∧ i = .int .i64 k ∧ v = .string b ∧ exErr ⟨#[]⟩ l = exErr b (l.drop k) ∧ G w wr none
end Go.Proofs.Ytbddcbbjmgepnaa

/- basic.IsTime, basic.IsMoment. -/
namespace Go.Proofs.Ytbddcbbjmgepnaa
open Go.RowKit

theorem wi_info (a b : Int) : (Try.prog.info? 27).map (·.size) = some #[Value.int .i64 a, .int .i64 b].size := (by kernel_rfl : (Try.prog.info? 27).map (·.size) = some 2)
theorem wi_one (a b : Int) : #[Value.int .i64 a, .int .i64 b].all (·.oneCell') = true := by simp [Value.oneCell']
def timB (a z : Int) : Bool := decide (0 ≤ a) && (decide (a < z) && decide (z < 5761440))
theorem timB_iff (a z : Int) : timB a z = true ↔ 0 ≤ a ∧ a < z ∧ z < 5761440 := by unfold timB; simp
theorem timB_yes {a z : Int} (h : 0 ≤ a ∧ a < z ∧ z < 5761440) : timB a z = true := (timB_iff a z).2 h
theorem timB_no {a z : Int} (h : ¬ (0 ≤ a ∧ a < z ∧ z < 5761440)) : timB a z = false := by
  cases hb : timB a z with
  | false => rfl
  | true => exact absurd ((timB_iff a z).1 hb) h
set_option maxRecDepth 100000 in
set_option maxHeartbeats 1000000 in
theorem isTime_c (a z : Int) (w : World) : Calls Try.prog 49 #[.agg #[.int .i64 a, .int .i64 z]] w fun e w' => e = .returned (.bool (timB a z)) ∧ G w w' none := by
  have hG : G w (w.alloc (.cells #[.int .i64 a, .int .i64 z] 27)) none := (G.refl w none).alloc _
  rcases (show a < 0 ∨ (0 ≤ a ∧ z ≤ a) ∨ (0 ≤ a ∧ a < z ∧ 5761440 ≤ z) ∨ (0 ≤ a ∧ a < z ∧ z < 5761440) by omega) with h1 | ⟨h1, h2⟩ | ⟨h1, h2, h3⟩ | ⟨h1, h2, h3⟩
  · have HF : Hid (timB a z = false) := Lib.hid (timB_no (by omega))
    go_enter Try.func49, Try.ntmps49
    go_wp2_with fail
    go_ret
    exact ⟨ret_bool HF.out.symm, hG⟩
  · have HF : Hid (timB a z = false) := Lib.hid (timB_no (by omega))
    go_enter Try.func49, Try.ntmps49
    go_wp2_with fail
    go_ret
    exact ⟨ret_bool HF.out.symm, hG⟩
  · have HF : Hid (timB a z = false) := Lib.hid (timB_no (by omega))
    have h4 : ¬ z < 5761440 := by omega
    go_enter Try.func49, Try.ntmps49
    go_wp2_with fail
    go_ret
    exact ⟨ret_bool (by rw [HF.out] <;> exact decide_eq_false h4), hG⟩
  · have HF : Hid (timB a z = true) := Lib.hid (timB_yes ⟨h1, h2, h3⟩)
    go_enter Try.func49, Try.ntmps49
    go_wp2_with fail
    go_ret
    exact ⟨ret_bool (by rw [HF.out] <;> exact decide_eq_true h3), hG⟩
end Go.Proofs.Ytbddcbbjmgepnaa

/- The time of a hire: Days, begun, TimeFault, DaysOf. -/
namespace Go.Proofs.Ytbddcbbjmgepnaa
open Go.RowKit

def tE (a z : Int) : Int := if 0 ≤ a ∧ a < z ∧ z ≤ 5761439 then (if 172800 < z - a then 2 else 0) else 1
def tN (a z : Int) : Int := if tE a z = 0 then (z - a + 1439) / 1440 else 0
set_option maxRecDepth 100000 in
theorem begun_c (m : Int) (w : World) (h0 : 0 ≤ m) (h1 : m ≤ 5761439) : Calls Try.prog 50 #[.int .i64 m, .int .i64 1440] w fun e w' => e = .returned (.int .i64 ((m + 1439) / 1440)) ∧ w = w' := by
  have HF : Hid ((m + 1440 - 1) / 1440 = (m + 1439) / 1440) := Lib.hid (by omega)
  go_enter Try.func50, Try.ntmps50
  go_wp2_with fail
  go_ret
  exact ⟨ret_int HF.out, rfl⟩
set_option maxRecDepth 100000 in
set_option maxHeartbeats 2000000 in
theorem days_c (a z : Int) (w : World) (ha : bnd a) (hz : bnd z) : Calls Try.prog 25 #[.agg #[.int .i64 a, .int .i64 z]] w fun e w' => e = .returned (.tuple #[.int .i64 (tN a z), .int .i64 (tE a z)]) ∧ G w w' none := by
  unfold bnd at ha hz
  have hG : G w (w.alloc (.cells #[.int .i64 a, .int .i64 z] 27)) none := (G.refl w none).alloc _
  have hB := Bk.new w 27 #[.int .i64 a, .int .i64 z]
  by_cases h0 : 0 ≤ a ∧ a < z ∧ z < 5761440
  · obtain ⟨h1, h2, h3⟩ := h0
    have HI := Lib.hid (timB_yes ⟨h1, h2, h3⟩)
    have HT : Hid (tE a z = if 172800 < z - a then 2 else 0) := Lib.hid (by rw [tE, if_pos ⟨h1, h2, by omega⟩])
    have HD : Hid (tE a z = 0 → tN a z = (z - a + 1439) / 1440) := Lib.hid fun h => by rw [tN, if_pos h]
    have HD2 : Hid (tE a z ≠ 0 → tN a z = 0) := Lib.hid fun h => by rw [tN, if_neg h]
    go_enter Try.func25, Try.ntmps25
    go_wp2_with (refine wpList_load_row rfl 27 _ rfl w.heap.size rfl 27 #[.int .i64 a, .int .i64 z] (0, 0) _ hB Try.underlying27 rfl (wi_info a z) ?_)
    refine (isTime_c a z _).mono ?_; rintro e w1 ⟨rfl, hG1⟩
    rw [HI.out]
    have hB1 := hB.quiet hG1
    have hG01 := hG.trans hG1
    have c0 : w1.cell? ⟨w.heap.size, 0, none⟩ = some (.int .i64 a) := hB1.cell 0
    have c1 : w1.cell? ⟨w.heap.size, 1, none⟩ = some (.int .i64 z) := hB1.cell 1
    clear hB hG hG1
    rcases (show 172800 < z - a ∨ z - a ≤ 172800 by omega) with h4 | h4
    · have HE : Hid (tE a z = 2) := Lib.hid (by rw [HT.out, if_pos h4])
      have HN : Hid (tN a z = 0) := Lib.hid (HD2.out (by rw [HE.out]; decide))
      have h5 : 120 < (z - a + 1439) / 1440 := by omega
      go_wp2_with fail
      refine (begun_c _ _ (by omega) (by omega)).mono ?_; rintro e w' ⟨rfl, rfl⟩
      generalize (z - a + 1439) / 1440 = N at h5 ⊢
      go_wp2_with fail
      go_ret2
      exact ⟨by rw [HE.out, HN.out]; rfl, hG01⟩
    · have HE : Hid (tE a z = 0) := Lib.hid (by rw [HT.out, if_neg (by omega)])
      have HN : Hid (tN a z = (z - a + 1439) / 1440) := Lib.hid (HD.out HE.out)
      have h5 : (z - a + 1439) / 1440 ≤ 120 := by omega
      go_wp2_with fail
      refine (begun_c _ _ (by omega) (by omega)).mono ?_; rintro e w' ⟨rfl, rfl⟩
      generalize (z - a + 1439) / 1440 = N at h5 HN ⊢
      go_wp2_with fail
      go_ret2
      exact ⟨by rw [HE.out, HN.out]; rfl, hG01⟩
  · have HE : Hid (tE a z = 1) := Lib.hid (by rw [tE, if_neg (by omega)])
    have HN : Hid (tN a z = 0) := Lib.hid (by rw [tN, if_neg (by rw [HE.out]; decide)])
    have HI := Lib.hid (timB_no h0)
    clear h0
    go_enter Try.func25, Try.ntmps25
    go_wp2_with (refine wpList_load_row rfl 27 _ rfl w.heap.size rfl 27 #[.int .i64 a, .int .i64 z] (0, 0) _ hB Try.underlying27 rfl (wi_info a z) ?_)
    refine (isTime_c a z _).mono ?_; rintro e w1 ⟨rfl, hG1⟩
    rw [HI.out]
    go_wp2_with fail
    go_ret2
    exact ⟨by rw [HE.out, HN.out]; rfl, hG.trans hG1⟩
theorem tE_zero {a z : Int} (h : tE a z = 0) : 0 ≤ a ∧ a < z ∧ z ≤ 5761439 ∧ z - a ≤ 172800 := by
  unfold tE at h
  split at h
  · split at h
    · omega
    · omega
  · omega
def DofRel (w : World) (a z : Int) (s3 s4 : Value) (wr : World) : Prop :=
  ∃ j : Nat, s3 = .int .i64 j ∧ s4 = .int .i64 (a + 1440 * j) ∧ (j : Int) ≤ (z - a + 1439) / 1440 ∧ Bk wr w.heap.size 27 #[.int .i64 a, .int .i64 z] ∧ G w wr none
end Go.Proofs.Ytbddcbbjmgepnaa

/- Fees: CheckFees, its reference. -/
namespace Go.Proofs.Ytbddcbbjmgepnaa
open Go.RowKit

/-- A fee: from, to, cents. -/
abbrev Fe := ByteArray × ByteArray × Int
def feC (x : Fe) : Array Value := #[.string x.1, .string x.2.1, .int .i64 x.2.2]
theorem feC_sz (x : Fe) : (feC x).size = 3 := rfl
def FeOk (l : List Fe) : Prop := ∀ x ∈ l, Small x.1 ∧ Small x.2.1 ∧ bnd x.2.2
/-- The first that is not 0. -/
def orI (x y : Int) : Int := if x = 0 then y else x
def cmpF (x y : Fe) : Int := orI (cmpI x.1 y.1) (cmpI x.2.1 y.2.1)
def feAfter (b : Option Fe) (x : Fe) : Bool := match b with | none => false | some y => decide (0 ≤ cmpF y x)
def feErr : Option Fe → List Fe → Int
  | _, [] => 0
  | b, x :: r => if keyB x.1 = false then 5 else if keyB x.2.1 = false then 5 else if eqB x.1 x.2.1 = true then 14 else if feAfter b x = true then 7 else if inB x.2.2 0 1000000 = false then 1 else feErr (some x) r
def feE (l : List Fe) : Int := if 500 < l.length then 2 else feErr none l
def prevAt {α : Type} (l : List α) (k : Nat) : Option α := if k = 0 then none else l[k - 1]?
theorem prevAt_succ {α : Type} (l : List α) (k : Nat) (p : α) (h : l[k]? = some p) : prevAt l (k + 1) = some p := by
  unfold prevAt
  rw [if_neg (by omega), Nat.add_sub_cancel, h]
def FeRel (w : World) (l : List Fe) (i : Value) (wr : World) : Prop :=
  ∃ k : Nat, k ≤ l.length ∧ i = .int .i64 k ∧ feErr none l = feErr (prevAt l k) (l.drop k) ∧ G w wr none
end Go.Proofs.Ytbddcbbjmgepnaa

/- Hires: readings, legs; checkReading, checkBegin, isOut, checkEnd. -/
namespace Go.Proofs.Ytbddcbbjmgepnaa
open Go.RowKit

/-- A reading: at, station, meter, fuel. -/
abbrev Rg := Int × ByteArray × Int × Int
def rgC (x : Rg) : Array Value := #[.int .i64 x.1, .string x.2.1, .int .i64 x.2.2.1, .int .i64 x.2.2.2]
theorem rg_info (x : Rg) : (Try.prog.info? 50).map (·.size) = some (rgC x).size := (by kernel_rfl : (Try.prog.info? 50).map (·.size) = some 4)
def rgE (x : Rg) : Int := if momB x.1 = false then 1 else if keyB x.2.1 = false then 5 else if inB x.2.2.1 0 999999 = false then 1 else if inB x.2.2.2 0 8 = false then 1 else 0
/-- A leg: vehicle, out, in. -/
abbrev Lg := ByteArray × Rg × Rg
def lgC (x : Lg) : Array Value := #[.string x.1, .int .i64 x.2.1.1, .string x.2.1.2.1, .int .i64 x.2.1.2.2.1, .int .i64 x.2.1.2.2.2, .int .i64 x.2.2.1, .string x.2.2.2.1, .int .i64 x.2.2.2.2.1, .int .i64 x.2.2.2.2.2]
theorem lgC_sz (x : Lg) : (lgC x).size = 9 := rfl
theorem lg_info (x : Lg) : (Try.prog.info? 74).map (·.size) = some (lgC x).size := (by kernel_rfl : (Try.prog.info? 74).map (·.size) = some 9)
def lgB (x : Lg) : Prop := Small x.1 ∧ Small x.2.1.2.1 ∧ Small x.2.2.2.1
def LgOk (l : List Lg) : Prop := ∀ x ∈ l, lgB x
/-- A hire's head: key, driver, from, to; the cells of a hire. -/
abbrev Hh := ByteArray × ByteArray × Int × Int
def hiC (h : Hh) (v : Value) : Array Value := #[.string h.1, .string h.2.1, .int .i64 h.2.2.1, .int .i64 h.2.2.2, v]
theorem hi_info (h : Hh) (v : Value) : (Try.prog.info? 46).map (·.size) = some (hiC h v).size := (by kernel_rfl : (Try.prog.info? 46).map (·.size) = some 5)
def noIn : Rg := (-1, ⟨#[]⟩, 0, 0)
def beE (f : Int) (b : Option Lg) (x : Lg) : Int := match b with
  | none => if x.2.1.1 = f then 0 else 7
  | some y => if x.2.1.1 = y.2.2.1 then (if x.1 = y.1 then 16 else if x.2.1.2.1 = y.2.2.2.1 then 0 else 8) else 7
def enE (last : Bool) (x : Lg) : Int := if x.2.2.1 = -1 then (if x.2.2 = noIn then (if last = true then 0 else 11) else 3) else if rgE x.2.2 = 0 then (if x.2.2.1 ≤ x.2.1.1 then 7 else 0) else rgE x.2.2
def lgE (f : Int) (b : Option Lg) (last : Bool) (x : Lg) : Int := if keyB x.1 = false then 5 else if rgE x.2.1 = 0 then (if beE f b x = 0 then enE last x else beE f b x) else rgE x.2.1
def lsE (f : Int) : Option Lg → List Lg → Int
  | _, [] => 0
  | b, x :: r => if lgE f b r.isEmpty x = 0 then lsE f (some x) r else lgE f b r.isEmpty x
def hiE (h : Hh) (l : List Lg) : Int := if keyB h.1 = false then 5 else if keyB h.2.1 = false then 5 else if tE h.2.2.1 h.2.2.2 = 0 then (if l.length = 0 then 3 else if 20 < l.length then 2 else lsE h.2.2.1 none l) else tE h.2.2.1 h.2.2.2
theorem Bk.part {w : World} {g : Nat} {T : TypeId} {cs : Array Value} (h : Bk w g T cs) (k : Nat) (ds : Array Value) (hd : ∀ j u, ds.toList[j]? = some u → cs[k + j]? = some u) : ∀ j u, ds.toList[j]? = some u → w.cell? ((⟨g, k, none⟩ : Addr).add j) = some u := fun j u hu => by
  rw [add_at, h.cell]
  exact hd j u hu
theorem lg_out (x : Lg) : ∀ j u, (#[.int .i64 x.2.1.1, .string x.2.1.2.1, .int .i64 x.2.1.2.2.1, .int .i64 x.2.1.2.2.2] : Array Value).toList[j]? = some u → (lgC x)[1 + j]? = some u := fun j u hu => by
  match j, hu with
  | 0, hu => exact hu
  | 1, hu => exact hu
  | 2, hu => exact hu
  | 3, hu => exact hu
  | n + 4, hu => simp at hu
theorem lg_in (x : Lg) : ∀ j u, (#[.int .i64 x.2.2.1, .string x.2.2.2.1, .int .i64 x.2.2.2.2.1, .int .i64 x.2.2.2.2.2] : Array Value).toList[j]? = some u → (lgC x)[5 + j]? = some u := fun j u hu => by
  match j, hu with
  | 0, hu => exact hu
  | 1, hu => exact hu
  | 2, hu => exact hu
  | 3, hu => exact hu
  | n + 4, hu => simp at hu
theorem lgRow {W w : World} {bb bo n cap : Nat} {l : List Lg} (h : RdR W 9 lgC (.slice (some ⟨bb, bo, none⟩) n cap) l) (hG : G W w none) {k : Nat} {p : Lg} (hp : l[k]? = some p) :
    ∀ j v, (lgC p).toList[j]? = some v → w.cell? ((⟨bb, bo + k * 9, none⟩ : Addr).add j) = some v := fun j v hv => by
  rw [add_at]
  exact RdR.cell lgC_sz h hG hp j v hv
theorem drop_empty {α : Type} (l : List α) (k : Nat) : (l.drop k).isEmpty = decide (l.length ≤ k) := by
  by_cases h : l.length ≤ k
  · rw [List.drop_eq_nil_of_le h, decide_eq_true h]; rfl
  · rw [decide_eq_false h]
    cases hd : l.drop k with
    | nil => have := List.drop_eq_nil_iff.1 hd; omega
    | cons _ _ => rfl
theorem toList_ext {a b : ByteArray} (h : a.toList = b.toList) : a = b := by
  rw [ByteArray.toList_eq, ByteArray.toList_eq] at h
  exact ByteArray.ext (Array.toList_inj.1 h)
theorem rg_neq (x y : Rg) (w : World) : (binOp .neq 50 (.agg #[.int .i64 x.1, .string x.2.1, .int .i64 x.2.2.1, .int .i64 x.2.2.2]) (.agg #[.int .i64 y.1, .string y.2.1, .int .i64 y.2.2.1, .int .i64 y.2.2.2])).run Try.prog w = .ok (.bool (!(decide (x = y)))) w := by
  obtain ⟨a, b, c, d⟩ := x
  obtain ⟨e, f, g, h⟩ := y
  have ht : Try.prog.underlying 50 = some (.struct (Try.prog.fieldsOf 50)) := by kernel_rfl
  have hp : Try.prog.stoodInHeld 50 = false := by kernel_rfl
  rw [run_neq_struct, run_equalIn_agg w 9999 50 _ _ ht hp]
  simp [Try.underlying50, Try.underlying3, Try.underlying9, go_sem]
  by_cases h1 : a = e
  · by_cases h2 : b = f
    · subst h2
      by_cases h3 : c = g <;> by_cases h4 : d = h <;> simp [h1, h3, h4]
    · have h2' : ¬ b.toList = f.toList := fun e => h2 (toList_ext e)
      simp [h1, h2, h2']
  · simp [h1]
set_option maxRecDepth 100000 in
set_option maxHeartbeats 2000000 in
theorem checkReading_c (x : Rg) (w : World) (hs : Small x.2.1) :
    Calls Try.prog 69 #[.agg (rgC x)] w fun e w' => e = .returned (.int .i64 (rgE x)) ∧ G w w' none := by
  have hG1 := (G.refl w none).alloc (.cells (rgC x) 50)
  unfold Small at hs
  obtain ⟨t, s, m, f⟩ := x
  simp only [rgC] at hG1 hs ⊢
  have HE : Hid (rgE (t, s, m, f) = if momB t = false then 1 else if keyB s = false then 5 else if inB m 0 999999 = false then 1 else if inB f 0 8 = false then 1 else 0) := Lib.hid rfl
  generalize rgE (t, s, m, f) = R at HE ⊢
  go_enter Try.func69, Try.ntmps69
  go_wp2_with fail
  refine (isMoment_c t _).mono ?_; rintro e w1 ⟨rfl, rfl⟩
  cases k1 : momB t with
  | false =>
    have HF : Hid (R = 1) := Lib.hid (by rw [HE.out, if_pos k1])
    clear k1
    go_wp2_with fail
    go_ret
    exact ⟨ret_int HF.out.symm, hG1⟩
  | true =>
    have HE : Hid (R = if keyB s = false then 5 else if inB m 0 999999 = false then 1 else if inB f 0 8 = false then 1 else 0) := Lib.hid (by rw [HE.out, if_neg (by simp [k1])])
    clear k1
    go_wp2_with fail
    refine (isKey_c s _ hs).mono ?_; rintro e w1 ⟨rfl, rfl⟩
    cases k2 : keyB s with
    | false =>
      have HF : Hid (R = 5) := Lib.hid (by rw [HE.out, if_pos k2])
      clear k2
      go_wp2_with fail
      go_ret
      exact ⟨ret_int HF.out.symm, hG1⟩
    | true =>
      have HE : Hid (R = if inB m 0 999999 = false then 1 else if inB f 0 8 = false then 1 else 0) := Lib.hid (by rw [HE.out, if_neg (by simp [k2])])
      clear k2
      go_wp2_with fail
      refine (within_c m 0 999999 _).mono ?_; rintro e w1 ⟨rfl, rfl⟩
      cases k3 : inB m 0 999999 with
      | false =>
        have HF : Hid (R = 1) := Lib.hid (by rw [HE.out, if_pos k3])
        clear k3
        go_wp2_with fail
        go_ret
        exact ⟨ret_int HF.out.symm, hG1⟩
      | true =>
        have HE : Hid (R = if inB f 0 8 = false then 1 else 0) := Lib.hid (by rw [HE.out, if_neg (by simp [k3])])
        clear k3
        go_wp2_with fail
        refine (within_c f 0 8 _).mono ?_; rintro e w1 ⟨rfl, rfl⟩
        cases k4 : inB f 0 8 with
        | false =>
          have HF : Hid (R = 1) := Lib.hid (by rw [HE.out, if_pos k4])
          clear k4
          go_wp2_with fail
          go_ret
          exact ⟨ret_int HF.out.symm, hG1⟩
        | true =>
          have HF : Hid (R = 0) := Lib.hid (by rw [HE.out, if_neg (by simp [k4])])
          clear k4
          go_wp2_with fail
          go_ret
          exact ⟨ret_int HF.out.symm, hG1⟩
set_option maxRecDepth 100000 in
theorem isOut_c (p : Lg) (w : World) : Calls Try.prog 68 #[.agg (lgC p)] w fun e w' => e = .returned (.bool (p.2.2.1 == -1)) ∧ G w w' none := by
  have hG1 := (G.refl w none).alloc (.cells (lgC p) 74)
  obtain ⟨p1, ⟨o1, o2, o3, o4⟩, i1, i2, i3, i4⟩ := p
  simp only [lgC] at hG1 ⊢
  go_enter Try.func68, Try.ntmps68
  go_wp2_with fail
  go_ret
  exact ⟨rfl, hG1⟩
set_option maxRecDepth 100000 in
set_option maxHeartbeats 4000000 in
theorem checkBegin_c (h : Hh) (v : Value) (l : List Lg) (k : Nat) (p : Lg) (w : World) (hr : RdR w 9 lgC v l) (hp : l[k]? = some p) (hn : l.length ≤ 1000) :
    Calls Try.prog 70 #[.agg (hiC h v), .int .i64 k] w fun e w' => e = .returned (.int .i64 (beE h.2.2.1 (prevAt l k) p)) ∧ G w w' none := by
  have hH := Bk.new w 46 (hiC h v)
  have hGH := (G.refl w none).alloc (.cells (hiC h v) 46)
  have HR := Lib.hid (hr.quiet hGH)
  obtain ⟨a, cap, rfl, hcap, hm⟩ := RdR.form hr
  clear hr
  have hk : k < l.length := (List.getElem?_eq_some_iff.1 hp).1
  obtain ⟨bb, bo, rfl, -, -⟩ := RdR.elem lgC_sz HR.out (G.refl _ none) hp
  have HW := Lib.hid (lgRow HR.out (G.refl _ none) hp)
  have HP := Lib.hid hp
  clear hp
  simp only [hiC] at hH hGH HR HW ⊢
  go_enter Try.func70, Try.ntmps70
  go_upto_if 13 with (refine wpList_load_at rfl 74 _ rfl ⟨bb, bo + k * 9, none⟩ rfl #[.string p.1, .int .i64 p.2.1.1, .string p.2.1.2.1, .int .i64 p.2.1.2.2.1, .int .i64 p.2.1.2.2.2, .int .i64 p.2.2.1, .string p.2.2.2.1, .int .i64 p.2.2.2.2.1, .int .i64 p.2.2.2.2.2] _ HW.out Try.underlying74 rfl (lg_info p) ?_)
  have hL : Bk ((w.alloc (.cells #[.string h.1, .string h.2.1, .int .i64 h.2.2.1, .int .i64 h.2.2.2, .slice (some ⟨bb, bo, none⟩) l.length cap] 46)).alloc (.cells #[.string p.1, .int .i64 p.2.1.1, .string p.2.1.2.1, .int .i64 p.2.1.2.2.1, .int .i64 p.2.1.2.2.2, .int .i64 p.2.2.1, .string p.2.2.2.1, .int .i64 p.2.2.2.2.1, .int .i64 p.2.2.2.2.2] 74)) (w.heap.size + 1) 74 (lgC p) := Bk.newAt (by simp) _ _
  have hG := hGH.alloc (.cells #[.string p.1, .int .i64 p.2.1.1, .string p.2.1.2.1, .int .i64 p.2.1.2.2.1, .int .i64 p.2.1.2.2.2, .int .i64 p.2.2.1, .string p.2.2.2.1, .int .i64 p.2.2.2.2.1, .int .i64 p.2.2.2.2.2] 74)
  have hH := hH.alloc (.cells #[.string p.1, .int .i64 p.2.1.1, .string p.2.1.2.1, .int .i64 p.2.1.2.2.1, .int .i64 p.2.1.2.2.2, .int .i64 p.2.2.1, .string p.2.2.2.1, .int .i64 p.2.2.2.2.1, .int .i64 p.2.2.2.2.2] 74)
  have HR := Lib.hid (HR.out.quiet ((G.refl _ none).alloc (.cells #[.string p.1, .int .i64 p.2.1.1, .string p.2.1.2.1, .int .i64 p.2.1.2.2.1, .int .i64 p.2.1.2.2.2, .int .i64 p.2.2.1, .string p.2.2.2.1, .int .i64 p.2.2.2.2.1, .int .i64 p.2.2.2.2.2] 74)))
  clear HW hGH
  generalize (w.alloc (.cells #[.string h.1, .string h.2.1, .int .i64 h.2.2.1, .int .i64 h.2.2.2, .slice (some ⟨bb, bo, none⟩) l.length cap] 46)).alloc (.cells #[.string p.1, .int .i64 p.2.1.1, .string p.2.1.2.1, .int .i64 p.2.1.2.2.1, .int .i64 p.2.1.2.2.2, .int .i64 p.2.2.1, .string p.2.2.2.1, .int .i64 p.2.2.2.2.1, .int .i64 p.2.2.2.2.2] 74) = w2 at hL hG hH HR ⊢
  have c1 : w2.cell? ⟨w.heap.size + 1, 1, none⟩ = some (.int .i64 p.2.1.1) := hL.cell 1
  have d2 : w2.cell? ⟨w.heap.size, 2, none⟩ = some (.int .i64 h.2.2.1) := hH.cell 2
  cases k with
  | zero =>
    by_cases hq : p.2.1.1 = h.2.2.1
    · have HF : Hid (beE h.2.2.1 (prevAt l 0) p = 0) := Lib.hid (if_pos hq)
      go_wp2_with fail
      go_ret
      exact ⟨ret_int HF.out.symm, hG⟩
    · have HF : Hid (beE h.2.2.1 (prevAt l 0) p = 7) := Lib.hid (if_neg hq)
      go_wp2_with fail
      go_ret
      exact ⟨ret_int HF.out.symm, hG⟩
  | succ m =>
    obtain ⟨q, hq2⟩ : ∃ q, l[m]? = some q := ⟨_, List.getElem?_eq_getElem (by omega)⟩
    have HA : Hid (beE h.2.2.1 (prevAt l (m + 1)) p = if p.2.1.1 = q.2.2.1 then (if p.1 = q.1 then 16 else if p.2.1.2.1 = q.2.2.2.1 then 0 else 8) else 7) := Lib.hid (by rw [prevAt_succ l m q hq2]; rfl)
    have hsub : IntKind.i64.wrap (((m + 1 : Nat) : Int) - 1) = (m : Int) := by rw [show ((m + 1 : Nat) : Int) - 1 = (m : Int) by omega]; rw [IntKind.wrap_i64]; omega
    have hsub2 : IntKind.i64.wrap (m : Int) = (m : Int) := by rw [IntKind.wrap_i64]; omega
    have hsub3 : IntKind.i64.wrap ((m : Int) + 1 - 1) = (m : Int) := by rw [IntKind.wrap_i64]; omega
    have hm0 : (0 : Int) ≤ (m : Int) := Int.natCast_nonneg m
    have hml : (m : Int) < (l.length : Int) := by omega
    have hne : (((m + 1 : Nat) : Int) == 0) = false := by simp; omega
    have hne2 : ((m : Int) + 1 == 0) = false := by simp; omega
    have HW := Lib.hid (lgRow HR.out (G.refl _ none) hq2)
    have d4 : w2.cell? ⟨w.heap.size, 4, none⟩ = some (.slice (some ⟨bb, bo, none⟩) l.length cap) := hH.cell 4
    obtain ⟨B, hB⟩ : ∃ B, beE h.2.2.1 (prevAt l (m + 1)) p = B := ⟨_, rfl⟩
    rw [hB] at HA
    have HBB := Lib.hid hB
    clear hB hq2
    go_upto_region 7 with (refine wpList_load_at rfl 74 _ rfl ⟨bb, bo + m * 9, none⟩ rfl #[.string q.1, .int .i64 q.2.1.1, .string q.2.1.2.1, .int .i64 q.2.1.2.2.1, .int .i64 q.2.1.2.2.2, .int .i64 q.2.2.1, .string q.2.2.2.1, .int .i64 q.2.2.2.2.1, .int .i64 q.2.2.2.2.2] _ HW.out Try.underlying74 rfl (lg_info q) ?_)
    have hQ := Bk.new w2 74 (lgC q)
    have hG := hG.alloc (.cells (lgC q) 74)
    have hL := hL.alloc (.cells (lgC q) 74)
    rw [show #[.string q.1, .int .i64 q.2.1.1, .string q.2.1.2.1, .int .i64 q.2.1.2.2.1, .int .i64 q.2.1.2.2.2, .int .i64 q.2.2.1, .string q.2.2.2.1, .int .i64 q.2.2.2.2.1, .int .i64 q.2.2.2.2.2] = lgC q from rfl]
    generalize w2.alloc (.cells (lgC q) 74) = w3 at hQ hG hL ⊢
    generalize w2.heap.size = g at hQ ⊢
    have c0 : w3.cell? ⟨w.heap.size + 1, 0, none⟩ = some (.string p.1) := hL.cell 0
    have c1 : w3.cell? ⟨w.heap.size + 1, 1, none⟩ = some (.int .i64 p.2.1.1) := hL.cell 1
    have c2 : w3.cell? ⟨w.heap.size + 1, 2, none⟩ = some (.string p.2.1.2.1) := hL.cell 2
    have q0 : w3.cell? ⟨g, 0, none⟩ = some (.string q.1) := hQ.cell 0
    have q5 : w3.cell? ⟨g, 5, none⟩ = some (.int .i64 q.2.2.1) := hQ.cell 5
    have q6 : w3.cell? ⟨g, 6, none⟩ = some (.string q.2.2.2.1) := hQ.cell 6
    clear hL hQ hH HR d2 d4
    by_cases k1 : p.2.1.1 = q.2.2.1
    · have HA : Hid (B = if p.1 = q.1 then 16 else if p.2.1.2.1 = q.2.2.2.1 then 0 else 8) := Lib.hid (by rw [HA.out, if_pos k1])
      have k1' : (p.2.1.1 != q.2.2.1) = false := by simpa using k1
      clear k1
      by_cases k2 : p.1 = q.1
      · have HF : Hid (B = 16) := Lib.hid (by rw [HA.out, if_pos k2])
        have k2' : (p.1.toList == q.1.toList) = true := by rw [k2]; simp
        clear k2
        go_wp2_with fail
        go_ret
        exact ⟨ret_int (by rw [HBB.out, HF.out]), hG⟩
      · have HA : Hid (B = if p.2.1.2.1 = q.2.2.2.1 then 0 else 8) := Lib.hid (by rw [HA.out, if_neg k2])
        have k2' : (p.1.toList == q.1.toList) = false := by simpa using fun e => k2 (toList_ext e)
        clear k2
        by_cases k3 : p.2.1.2.1 = q.2.2.2.1
        · have HF : Hid (B = 0) := Lib.hid (by rw [HA.out, if_pos k3])
          have k3' : (p.2.1.2.1.toList == q.2.2.2.1.toList) = true := by rw [k3]; simp
          have k3n : (p.2.1.2.1.toList != q.2.2.2.1.toList) = false := by rw [k3]; simp
          clear k3
          go_wp2_with fail
          go_ret
          exact ⟨ret_int (by rw [HBB.out, HF.out]), hG⟩
        · have HF : Hid (B = 8) := Lib.hid (by rw [HA.out, if_neg k3])
          have k3' : (p.2.1.2.1.toList == q.2.2.2.1.toList) = false := by simpa using fun e => k3 (toList_ext e)
          have k3n : (p.2.1.2.1.toList != q.2.2.2.1.toList) = true := by simpa using fun e => k3 (toList_ext e)
          clear k3
          go_wp2_with fail
          go_ret
          exact ⟨ret_int (by rw [HBB.out, HF.out]), hG⟩
    · have HF : Hid (B = 7) := Lib.hid (by rw [HA.out, if_neg k1])
      have k1' : (p.2.1.1 != q.2.2.1) = true := by simpa using k1
      clear k1
      go_wp2_with fail
      go_ret
      exact ⟨ret_int (by rw [HBB.out, HF.out]), hG⟩
set_option maxRecDepth 100000 in
set_option maxHeartbeats 4000000 in
theorem checkEnd_c (h : Hh) (v : Value) (l : List Lg) (k : Nat) (p : Lg) (w : World) (hr : RdR w 9 lgC v l) (hp : l[k]? = some p) (hs : Small p.2.2.2.1) (hn : l.length ≤ 1000) :
    Calls Try.prog 71 #[.agg (hiC h v), .int .i64 k] w fun e w' => e = .returned (.int .i64 (enE (l.drop (k + 1)).isEmpty p)) ∧ G w w' none := by
  have hH := Bk.new w 46 (hiC h v)
  have hGH := (G.refl w none).alloc (.cells (hiC h v) 46)
  have HR := Lib.hid (hr.quiet hGH)
  obtain ⟨a, cap, rfl, hcap, hm⟩ := RdR.form hr
  clear hr
  have hk : k < l.length := (List.getElem?_eq_some_iff.1 hp).1
  have hki : (k : Int) < (l.length : Int) := by omega
  obtain ⟨bb, bo, rfl, -, -⟩ := RdR.elem lgC_sz HR.out (G.refl _ none) hp
  have HW := Lib.hid (lgRow HR.out (G.refl _ none) hp)
  clear hp
  have HLA : Hid ((l.drop (k + 1)).isEmpty = decide (l.length ≤ k + 1)) := Lib.hid (drop_empty l (k + 1))
  obtain ⟨E, hE⟩ : ∃ E, enE (l.drop (k + 1)).isEmpty p = E := ⟨_, rfl⟩
  have HE : Hid (E = if p.2.2.1 = -1 then (if p.2.2 = noIn then (if decide (l.length ≤ k + 1) = true then 0 else 11) else 3) else if rgE p.2.2 = 0 then (if p.2.2.1 ≤ p.2.1.1 then 7 else 0) else rgE p.2.2) := Lib.hid (by rw [← hE, HLA.out]; rfl)
  rw [hE]
  clear hE
  simp only [hiC] at hH hGH HR HW ⊢
  go_enter Try.func71, Try.ntmps71
  go_upto_region 2 with (refine wpList_load_at rfl 74 _ rfl ⟨bb, bo + k * 9, none⟩ rfl #[.string p.1, .int .i64 p.2.1.1, .string p.2.1.2.1, .int .i64 p.2.1.2.2.1, .int .i64 p.2.1.2.2.2, .int .i64 p.2.2.1, .string p.2.2.2.1, .int .i64 p.2.2.2.2.1, .int .i64 p.2.2.2.2.2] _ HW.out Try.underlying74 rfl (lg_info p) ?_)
  have hL : Bk ((w.alloc (.cells #[.string h.1, .string h.2.1, .int .i64 h.2.2.1, .int .i64 h.2.2.2, .slice (some ⟨bb, bo, none⟩) l.length cap] 46)).alloc (.cells #[.string p.1, .int .i64 p.2.1.1, .string p.2.1.2.1, .int .i64 p.2.1.2.2.1, .int .i64 p.2.1.2.2.2, .int .i64 p.2.2.1, .string p.2.2.2.1, .int .i64 p.2.2.2.2.1, .int .i64 p.2.2.2.2.2] 74)) (w.heap.size + 1) 74 (lgC p) := Bk.newAt (by simp) _ _
  have hG := hGH.alloc (.cells #[.string p.1, .int .i64 p.2.1.1, .string p.2.1.2.1, .int .i64 p.2.1.2.2.1, .int .i64 p.2.1.2.2.2, .int .i64 p.2.2.1, .string p.2.2.2.1, .int .i64 p.2.2.2.2.1, .int .i64 p.2.2.2.2.2] 74)
  have hH := hH.alloc (.cells #[.string p.1, .int .i64 p.2.1.1, .string p.2.1.2.1, .int .i64 p.2.1.2.2.1, .int .i64 p.2.1.2.2.2, .int .i64 p.2.2.1, .string p.2.2.2.1, .int .i64 p.2.2.2.2.1, .int .i64 p.2.2.2.2.2] 74)
  clear HW hGH HR
  generalize (w.alloc (.cells #[.string h.1, .string h.2.1, .int .i64 h.2.2.1, .int .i64 h.2.2.2, .slice (some ⟨bb, bo, none⟩) l.length cap] 46)).alloc (.cells #[.string p.1, .int .i64 p.2.1.1, .string p.2.1.2.1, .int .i64 p.2.1.2.2.1, .int .i64 p.2.1.2.2.2, .int .i64 p.2.2.1, .string p.2.2.2.1, .int .i64 p.2.2.2.2.1, .int .i64 p.2.2.2.2.2] 74) = w2 at hL hG hH ⊢
  go_wp2_with (refine wpList_load_row rfl 74 _ rfl (w.heap.size + 1) rfl 74 #[.string p.1, .int .i64 p.2.1.1, .string p.2.1.2.1, .int .i64 p.2.1.2.2.1, .int .i64 p.2.1.2.2.2, .int .i64 p.2.2.1, .string p.2.2.2.1, .int .i64 p.2.2.2.2.1, .int .i64 p.2.2.2.2.2] (0, 0) _ hL Try.underlying74 rfl (lg_info p) ?_)
  refine (isOut_c p _).mono ?_; rintro e w3 ⟨rfl, hG3⟩
  have hL := hL.quiet hG3
  have hH := hH.quiet hG3
  have hG := hG.trans hG3
  clear hG3
  have HP := Lib.hid (hL.part 5 #[.int .i64 p.2.2.1, .string p.2.2.2.1, .int .i64 p.2.2.2.2.1, .int .i64 p.2.2.2.2.2] (lg_in p))
  have c1 : w3.cell? ⟨w.heap.size + 1, 1, none⟩ = some (.int .i64 p.2.1.1) := hL.cell 1
  have c5 : w3.cell? ⟨w.heap.size + 1, 5, none⟩ = some (.int .i64 p.2.2.1) := hL.cell 5
  have d4 : w3.cell? ⟨w.heap.size, 4, none⟩ = some (.slice (some ⟨bb, bo, none⟩) l.length cap) := hH.cell 4
  clear hH
  by_cases k1 : p.2.2.1 = -1
  · have k1' : (p.2.2.1 == -1) = true := by simpa using k1
    rw [k1']
    have HN := fun w : World => rg_neq p.2.2 noIn w
    by_cases k2 : p.2.2 = noIn
    · have HNN : Hid (∀ w : World, (binOp .neq 50 (.agg #[.int .i64 p.2.2.1, .string p.2.2.2.1, .int .i64 p.2.2.2.2.1, .int .i64 p.2.2.2.2.2]) (.agg #[.int .i64 (-1), .string ⟨#[]⟩, .int .i64 0, .int .i64 0])).run Try.prog w = .ok (.bool false) w) := Lib.hid fun w => by
        have := HN w
        rw [decide_eq_true k2] at this
        exact this
      have hnn := HNN.out
      have HE : Hid (E = if decide (l.length ≤ k + 1) = true then 0 else 11) := Lib.hid (by rw [HE.out, if_pos k1, if_pos k2])
      have hl1 : IntKind.i64.wrap ((l.length : Int) - 1) = (l.length : Int) - 1 := by rw [IntKind.wrap_i64]; omega
      clear k1 k1' k2 HN HNN
      by_cases k3 : l.length ≤ k + 1
      · have HF : Hid (E = 0) := Lib.hid (by rw [HE.out, if_pos (decide_eq_true k3)])
        have k3' : ¬ ((k : Int) < (l.length : Int) - 1) := by omega
        clear k3
        go_wp2_with (refine wpList_load_at rfl 50 _ rfl ⟨w.heap.size + 1, 5, none⟩ rfl #[.int .i64 p.2.2.1, .string p.2.2.2.1, .int .i64 p.2.2.2.2.1, .int .i64 p.2.2.2.2.2] _ HP.out Try.underlying50 rfl (rg_info p.2.2) ?_)
        go_ret
        exact ⟨ret_int HF.out.symm, hG⟩
      · have HF : Hid (E = 11) := Lib.hid (by rw [HE.out, if_neg (by simpa using k3)])
        have k3' : (k : Int) < (l.length : Int) - 1 := by omega
        clear k3
        go_wp2_with (refine wpList_load_at rfl 50 _ rfl ⟨w.heap.size + 1, 5, none⟩ rfl #[.int .i64 p.2.2.1, .string p.2.2.2.1, .int .i64 p.2.2.2.2.1, .int .i64 p.2.2.2.2.2] _ HP.out Try.underlying50 rfl (rg_info p.2.2) ?_)
        go_ret
        exact ⟨ret_int HF.out.symm, hG⟩
    · have HNN : Hid (∀ w : World, (binOp .neq 50 (.agg #[.int .i64 p.2.2.1, .string p.2.2.2.1, .int .i64 p.2.2.2.2.1, .int .i64 p.2.2.2.2.2]) (.agg #[.int .i64 (-1), .string ⟨#[]⟩, .int .i64 0, .int .i64 0])).run Try.prog w = .ok (.bool true) w) := Lib.hid fun w => by
        have := HN w
        rw [decide_eq_false k2] at this
        exact this
      have hnn := HNN.out
      have HF : Hid (E = 3) := Lib.hid (by rw [HE.out, if_pos k1, if_neg k2])
      clear HE k1 k1' k2 HN HNN
      go_wp2_with (refine wpList_load_at rfl 50 _ rfl ⟨w.heap.size + 1, 5, none⟩ rfl #[.int .i64 p.2.2.1, .string p.2.2.2.1, .int .i64 p.2.2.2.2.1, .int .i64 p.2.2.2.2.2] _ HP.out Try.underlying50 rfl (rg_info p.2.2) ?_)
      go_ret
      exact ⟨ret_int HF.out.symm, hG⟩
  · have k1' : (p.2.2.1 == -1) = false := by simpa using k1
    rw [k1']
    have HE : Hid (E = if rgE p.2.2 = 0 then (if p.2.2.1 ≤ p.2.1.1 then 7 else 0) else rgE p.2.2) := Lib.hid (by rw [HE.out, if_neg k1])
    clear k1 k1'
    go_wp2_with (refine wpList_load_at rfl 50 _ rfl ⟨w.heap.size + 1, 5, none⟩ rfl #[.int .i64 p.2.2.1, .string p.2.2.2.1, .int .i64 p.2.2.2.2.1, .int .i64 p.2.2.2.2.2] _ HP.out Try.underlying50 rfl (rg_info p.2.2) ?_)
    refine (checkReading_c p.2.2 _ hs).mono ?_; rintro e w4 ⟨rfl, hG4⟩
    have hL := hL.quiet hG4
    have hG := hG.trans hG4
    clear hG4 c1 c5 d4 HP
    have c1 : w4.cell? ⟨w.heap.size + 1, 1, none⟩ = some (.int .i64 p.2.1.1) := hL.cell 1
    have c5 : w4.cell? ⟨w.heap.size + 1, 5, none⟩ = some (.int .i64 p.2.2.1) := hL.cell 5
    obtain ⟨R, hR⟩ : ∃ R, rgE p.2.2 = R := ⟨_, rfl⟩
    rw [hR] at HE ⊢
    clear hR
    by_cases k2 : R = 0
    · have HE5 : Hid (E = if p.2.2.1 ≤ p.2.1.1 then 7 else 0) := Lib.hid (by rw [HE.out, if_pos k2])
      subst k2
      by_cases k3 : p.2.2.1 ≤ p.2.1.1
      · have HF : Hid (E = 7) := Lib.hid (by rw [HE5.out, if_pos k3])
        go_wp2_with fail
        go_ret
        exact ⟨ret_int HF.out.symm, hG⟩
      · have HF : Hid (E = 0) := Lib.hid (by rw [HE5.out, if_neg k3])
        go_wp2_with fail
        go_ret
        exact ⟨ret_int HF.out.symm, hG⟩
    · have HF : Hid (E = R) := Lib.hid (by rw [HE.out, if_neg k2])
      have k2' : (R != 0) = true := by simpa using k2
      clear k2
      go_wp2_with fail
      go_ret
      exact ⟨ret_int HF.out.symm, hG⟩
end Go.Proofs.Ytbddcbbjmgepnaa

/- What is due: kmOf, missingOf; the sum for minutes. -/
namespace Go.Proofs.Ytbddcbbjmgepnaa
open Go.RowKit

/-- How far a vehicle went in a leg; the fuel that is missing. -/
def kmL (x : Lg) : Int := (x.2.2.2.2.1 - x.2.1.2.2.1 + 1000000) % 1000000
def miL (x : Lg) : Int := max 0 (x.2.1.2.2.2 - x.2.2.2.2.2)
/-- What is due for so many minutes. -/
def lcN (x : De) (m : Int) : Int := if m ≤ x.grace then 0 else min (x.hour * ((m + 60 - 1) / 60)) (x.day * ((m + 1440 - 1) / 1440))
theorem begunP_c (m p : Int) (w : World) (h0 : 0 ≤ m) (h1 : m ≤ 1000000000) (h2 : 1 ≤ p) (h3 : p ≤ 1000000000) : Calls Try.prog 50 #[.int .i64 m, .int .i64 p] w fun e w' => e = .returned (.int .i64 ((m + p - 1) / p)) ∧ w = w' := by
  go_enter Try.func50, Try.ntmps50
  go_wp2_with fail
  go_ret
  exact ⟨rfl, rfl⟩
set_option maxRecDepth 100000 in
set_option maxHeartbeats 2000000 in
theorem kmOf_c (x : Lg) (w : World) (h1 : 0 ≤ x.2.1.2.2.1 ∧ x.2.1.2.2.1 ≤ 999999) (h2 : 0 ≤ x.2.2.2.2.1 ∧ x.2.2.2.2.1 ≤ 999999) :
    Calls Try.prog 60 #[.agg (lgC x)] w fun e w' => e = .returned (.int .i64 (kmL x)) ∧ G w w' none := by
  have hG := (G.refl w none).alloc (.cells #[.string x.1, .int .i64 x.2.1.1, .string x.2.1.2.1, .int .i64 x.2.1.2.2.1, .int .i64 x.2.1.2.2.2, .int .i64 x.2.2.1, .string x.2.2.2.1, .int .i64 x.2.2.2.2.1, .int .i64 x.2.2.2.2.2] 74)
  obtain ⟨h10, h11⟩ := h1
  obtain ⟨h20, h21⟩ := h2
  have H := Lib.hid (show kmL x = (x.2.2.2.2.1 - x.2.1.2.2.1 + 1000000) % 1000000 from rfl)
  generalize kmL x = E at H ⊢
  have hw1 : IntKind.i64.wrap (x.2.2.2.2.1 - x.2.1.2.2.1) = x.2.2.2.2.1 - x.2.1.2.2.1 := by rw [IntKind.wrap_i64]; omega
  have hw2 : IntKind.i64.wrap (x.2.2.2.2.1 - x.2.1.2.2.1 + 1000000) = x.2.2.2.2.1 - x.2.1.2.2.1 + 1000000 := by rw [IntKind.wrap_i64]; omega
  have hm : (x.2.2.2.2.1 - x.2.1.2.2.1 + 1000000).tmod 1000000 = E := by rw [H.out, Int.tmod_eq_emod_of_nonneg (by omega)]
  rw [show lgC x = #[.string x.1, .int .i64 x.2.1.1, .string x.2.1.2.1, .int .i64 x.2.1.2.2.1, .int .i64 x.2.1.2.2.2, .int .i64 x.2.2.1, .string x.2.2.2.1, .int .i64 x.2.2.2.2.1, .int .i64 x.2.2.2.2.2] from rfl]
  go_enter Try.func60, Try.ntmps60
  go_wp2_with fail
  go_ret
  exact ⟨rfl, hG⟩
set_option maxRecDepth 100000 in
set_option maxHeartbeats 2000000 in
theorem missingOf_c (x : Lg) (w : World) (h1 : 0 ≤ x.2.1.2.2.2 ∧ x.2.1.2.2.2 ≤ 8) (h2 : 0 ≤ x.2.2.2.2.2 ∧ x.2.2.2.2.2 ≤ 8) :
    Calls Try.prog 43 #[.agg (lgC x)] w fun e w' => e = .returned (.int .i64 (miL x)) ∧ G w w' none := by
  have hG := (G.refl w none).alloc (.cells #[.string x.1, .int .i64 x.2.1.1, .string x.2.1.2.1, .int .i64 x.2.1.2.2.1, .int .i64 x.2.1.2.2.2, .int .i64 x.2.2.1, .string x.2.2.2.1, .int .i64 x.2.2.2.2.1, .int .i64 x.2.2.2.2.2] 74)
  obtain ⟨h10, h11⟩ := h1
  obtain ⟨h20, h21⟩ := h2
  have H := Lib.hid (show miL x = max 0 (x.2.1.2.2.2 - x.2.2.2.2.2) from rfl)
  have hw1 : IntKind.i64.wrap (x.2.1.2.2.2 - x.2.2.2.2.2) = x.2.1.2.2.2 - x.2.2.2.2.2 := by rw [IntKind.wrap_i64]; omega
  rw [show lgC x = #[.string x.1, .int .i64 x.2.1.1, .string x.2.1.2.1, .int .i64 x.2.1.2.2.1, .int .i64 x.2.1.2.2.2, .int .i64 x.2.2.1, .string x.2.2.2.1, .int .i64 x.2.2.2.2.1, .int .i64 x.2.2.2.2.2] from rfl]
  go_enter Try.func43, Try.ntmps43
  go_wp2_with fail
  go_ret
  exact ⟨ret_int H.out.symm, hG⟩
end Go.Proofs.Ytbddcbbjmgepnaa

/- Hires: checkLeg, Check. -/
namespace Go.Proofs.Ytbddcbbjmgepnaa
open Go.RowKit

theorem hi_time (h : Hh) (v : Value) : ∀ j u, (#[Value.int .i64 h.2.2.1, .int .i64 h.2.2.2] : Array Value).toList[j]? = some u → (hiC h v)[2 + j]? = some u := fun j u hu => by
  match j, hu with
  | 0, hu => exact hu
  | 1, hu => exact hu
  | n + 2, hu => simp at hu
set_option maxRecDepth 100000 in
set_option maxHeartbeats 4000000 in
theorem checkLeg_c (h : Hh) (v : Value) (l : List Lg) (k : Nat) (p : Lg) (w : World) (hr : RdR w 9 lgC v l) (hp : l[k]? = some p) (hs : lgB p) (hn : l.length ≤ 1000) :
    Calls Try.prog 67 #[.agg (hiC h v), .int .i64 k] w fun e w' => e = .returned (.int .i64 (lgE h.2.2.1 (prevAt l k) (l.drop (k + 1)).isEmpty p)) ∧ G w w' none := by
  have hH := Bk.new w 46 (hiC h v)
  have hGH := (G.refl w none).alloc (.cells (hiC h v) 46)
  have hR := hr.quiet hGH
  obtain ⟨a, cap, rfl, hcap, hm⟩ := RdR.form hr
  clear hr
  have hk : k < l.length := (List.getElem?_eq_some_iff.1 hp).1
  have hki : (k : Int) < (l.length : Int) := by omega
  obtain ⟨bb, bo, rfl, -, -⟩ := RdR.elem lgC_sz hR (G.refl _ none) hp
  have HW := Lib.hid (lgRow hR (G.refl _ none) hp)
  have HP := Lib.hid hp
  obtain ⟨hs1, hs2, hs3⟩ := hs
  have hs1' := hs1
  unfold Small at hs1'
  clear hp
  obtain ⟨E, hE⟩ : ∃ E, lgE h.2.2.1 (prevAt l k) (l.drop (k + 1)).isEmpty p = E := ⟨_, rfl⟩
  have HE : Hid (E = if keyB p.1 = false then 5 else if rgE p.2.1 = 0 then (if beE h.2.2.1 (prevAt l k) p = 0 then enE (l.drop (k + 1)).isEmpty p else beE h.2.2.1 (prevAt l k) p) else rgE p.2.1) := Lib.hid hE.symm
  rw [hE]
  clear hE
  simp only [hiC] at hH hGH hR HW ⊢
  go_enter Try.func67, Try.ntmps67
  go_upto_region 2 with (refine wpList_load_at rfl 74 _ rfl ⟨bb, bo + k * 9, none⟩ rfl #[.string p.1, .int .i64 p.2.1.1, .string p.2.1.2.1, .int .i64 p.2.1.2.2.1, .int .i64 p.2.1.2.2.2, .int .i64 p.2.2.1, .string p.2.2.2.1, .int .i64 p.2.2.2.2.1, .int .i64 p.2.2.2.2.2] _ HW.out Try.underlying74 rfl (lg_info p) ?_)
  have hL : Bk ((w.alloc (.cells #[.string h.1, .string h.2.1, .int .i64 h.2.2.1, .int .i64 h.2.2.2, .slice (some ⟨bb, bo, none⟩) l.length cap] 46)).alloc (.cells #[.string p.1, .int .i64 p.2.1.1, .string p.2.1.2.1, .int .i64 p.2.1.2.2.1, .int .i64 p.2.1.2.2.2, .int .i64 p.2.2.1, .string p.2.2.2.1, .int .i64 p.2.2.2.2.1, .int .i64 p.2.2.2.2.2] 74)) (w.heap.size + 1) 74 (lgC p) := Bk.newAt (by simp) _ _
  have hG := hGH.alloc (.cells #[.string p.1, .int .i64 p.2.1.1, .string p.2.1.2.1, .int .i64 p.2.1.2.2.1, .int .i64 p.2.1.2.2.2, .int .i64 p.2.2.1, .string p.2.2.2.1, .int .i64 p.2.2.2.2.1, .int .i64 p.2.2.2.2.2] 74)
  have hH := hH.alloc (.cells #[.string p.1, .int .i64 p.2.1.1, .string p.2.1.2.1, .int .i64 p.2.1.2.2.1, .int .i64 p.2.1.2.2.2, .int .i64 p.2.2.1, .string p.2.2.2.1, .int .i64 p.2.2.2.2.1, .int .i64 p.2.2.2.2.2] 74)
  have hR := hR.quiet ((G.refl _ none).alloc (.cells #[.string p.1, .int .i64 p.2.1.1, .string p.2.1.2.1, .int .i64 p.2.1.2.2.1, .int .i64 p.2.1.2.2.2, .int .i64 p.2.2.1, .string p.2.2.2.1, .int .i64 p.2.2.2.2.1, .int .i64 p.2.2.2.2.2] 74))
  clear HW hGH
  generalize (w.alloc (.cells #[.string h.1, .string h.2.1, .int .i64 h.2.2.1, .int .i64 h.2.2.2, .slice (some ⟨bb, bo, none⟩) l.length cap] 46)).alloc (.cells #[.string p.1, .int .i64 p.2.1.1, .string p.2.1.2.1, .int .i64 p.2.1.2.2.1, .int .i64 p.2.1.2.2.2, .int .i64 p.2.2.1, .string p.2.2.2.1, .int .i64 p.2.2.2.2.1, .int .i64 p.2.2.2.2.2] 74) = w2 at hL hG hH hR ⊢
  have c0 : w2.cell? ⟨w.heap.size + 1, 0, none⟩ = some (.string p.1) := hL.cell 0
  have HO := Lib.hid (hL.part 1 #[.int .i64 p.2.1.1, .string p.2.1.2.1, .int .i64 p.2.1.2.2.1, .int .i64 p.2.1.2.2.2] (lg_out p))
  go_wp2_with fail
  refine (isKey_c _ _ hs1').mono ?_; rintro e w' ⟨rfl, rfl⟩
  cases k1 : keyB p.1 with
  | false =>
    have HF : Hid (E = 5) := Lib.hid (by rw [HE.out, if_pos k1])
    clear k1
    go_wp2_with fail
    go_ret
    exact ⟨ret_int HF.out.symm, hG⟩
  | true =>
    have HE1 : Hid (E = if rgE p.2.1 = 0 then (if beE h.2.2.1 (prevAt l k) p = 0 then enE (l.drop (k + 1)).isEmpty p else beE h.2.2.1 (prevAt l k) p) else rgE p.2.1) := Lib.hid (by rw [HE.out, if_neg (by simp [k1])])
    clear k1 HE
    go_wp2_with (refine wpList_load_at rfl 50 _ rfl ⟨w.heap.size + 1, 1, none⟩ rfl #[.int .i64 p.2.1.1, .string p.2.1.2.1, .int .i64 p.2.1.2.2.1, .int .i64 p.2.1.2.2.2] _ HO.out Try.underlying50 rfl (rg_info p.2.1) ?_)
    refine (checkReading_c p.2.1 _ hs2).mono ?_; rintro e w4 ⟨rfl, hG4⟩
    have hL := hL.quiet hG4
    have hH := hH.quiet hG4
    have hR := hR.quiet hG4
    have hG := hG.trans hG4
    clear hG4 c0 HO
    obtain ⟨R, hRR⟩ : ∃ R, rgE p.2.1 = R := ⟨_, rfl⟩
    rw [hRR] at HE1 ⊢
    clear hRR
    by_cases k2 : R = 0
    · have HE2 : Hid (E = if beE h.2.2.1 (prevAt l k) p = 0 then enE (l.drop (k + 1)).isEmpty p else beE h.2.2.1 (prevAt l k) p) := Lib.hid (by rw [HE1.out, if_pos k2])
      subst k2
      clear HE1
      go_wp2_with (refine wpList_load_row rfl 46 _ rfl w.heap.size rfl 46 #[.string h.1, .string h.2.1, .int .i64 h.2.2.1, .int .i64 h.2.2.2, .slice (some ⟨bb, bo, none⟩) l.length cap] (0, 0) _ hH Try.underlying46 rfl (hi_info h _) ?_)
      refine (checkBegin_c h _ l k p _ hR HP.out hn).mono ?_; rintro e w5 ⟨rfl, hG5⟩
      have hH := hH.quiet hG5
      have hR := hR.quiet hG5
      have hG := hG.trans hG5
      clear hG5
      obtain ⟨B, hB⟩ : ∃ B, beE h.2.2.1 (prevAt l k) p = B := ⟨_, rfl⟩
      rw [hB] at HE2 ⊢
      clear hB
      by_cases k3 : B = 0
      · have HF : Hid (E = enE (l.drop (k + 1)).isEmpty p) := Lib.hid (by rw [HE2.out, if_pos k3])
        subst k3
        clear HE2
        go_wp2_with (refine wpList_load_row rfl 46 _ rfl w.heap.size rfl 46 #[.string h.1, .string h.2.1, .int .i64 h.2.2.1, .int .i64 h.2.2.2, .slice (some ⟨bb, bo, none⟩) l.length cap] (0, 0) _ hH Try.underlying46 rfl (hi_info h _) ?_)
        refine (checkEnd_c h _ l k p _ hR HP.out hs3 hn).mono ?_; rintro e w6 ⟨rfl, hG6⟩
        have hG := hG.trans hG6
        rw [← HF.out]
        go_wp2_with fail
        go_ret
        exact ⟨rfl, hG⟩
      · have HF : Hid (E = B) := Lib.hid (by rw [HE2.out, if_neg k3])
        have k3' : (B != 0) = true := by simpa using k3
        clear k3 HE2
        go_wp2_with fail
        go_ret
        exact ⟨ret_int HF.out.symm, hG⟩
    · have HF : Hid (E = R) := Lib.hid (by rw [HE1.out, if_neg k2])
      have k2' : (R != 0) = true := by simpa using k2
      clear k2 HE1
      go_wp2_with fail
      go_ret
      exact ⟨ret_int HF.out.symm, hG⟩
def LsRel (w : World) (f : Int) (l : List Lg) (i : Value) (wr : World) : Prop :=
  ∃ k : Nat, k ≤ l.length ∧ i = .int .i64 k ∧ lsE f none l = lsE f (prevAt l k) (l.drop k) ∧ G w wr none
set_option maxRecDepth 100000 in
set_option maxHeartbeats 4000000 in
theorem check_c (h : Hh) (v : Value) (l : List Lg) (w : World) (hr : RdR w 9 lgC v l) (hl : LgOk l) (hs1 : Small h.1) (hs2 : Small h.2.1) (hb1 : bnd h.2.2.1) (hb2 : bnd h.2.2.2) (hn : l.length ≤ 1000) :
    Calls Try.prog 56 #[.agg (hiC h v)] w fun e w' => e = .returned (.int .i64 (hiE h l)) ∧ G w w' none := by
  have hH := Bk.new w 46 (hiC h v)
  have hG := (G.refl w none).alloc (.cells (hiC h v) 46)
  have hR := hr.quiet hG
  obtain ⟨a, cap, rfl, hcap, hm⟩ := RdR.form hr
  clear hr
  unfold Small at hs1 hs2
  obtain ⟨E, hE⟩ : ∃ E, hiE h l = E := ⟨_, rfl⟩
  have HE : Hid (E = if keyB h.1 = false then 5 else if keyB h.2.1 = false then 5 else if tE h.2.2.1 h.2.2.2 = 0 then (if l.length = 0 then 3 else if 20 < l.length then 2 else lsE h.2.2.1 none l) else tE h.2.2.1 h.2.2.2) := Lib.hid hE.symm
  rw [hE]
  clear hE
  simp only [hiC] at hH hG hR ⊢
  go_enter Try.func56, Try.ntmps56
  go_upto_region 1 with fail
  generalize w.alloc (.cells #[.string h.1, .string h.2.1, .int .i64 h.2.2.1, .int .i64 h.2.2.2, .slice a l.length cap] 46) = w2 at hG hH hR ⊢
  have hg := hH.lt
  generalize w.heap.size = g at hH hg ⊢
  have c0 : w2.cell? ⟨g, 0, none⟩ = some (.string h.1) := hH.cell 0
  have c1 : w2.cell? ⟨g, 1, none⟩ = some (.string h.2.1) := hH.cell 1
  go_wp2_with fail
  refine (isKey_c _ _ hs1).mono ?_; rintro e w' ⟨rfl, rfl⟩
  cases k1 : keyB h.1 with
  | false =>
    have HF : Hid (E = 5) := Lib.hid (by rw [HE.out, if_pos k1])
    clear k1
    go_wp2_with fail
    go_ret
    exact ⟨ret_int HF.out.symm, hG⟩
  | true =>
    have K1 := Lib.hid k1
    clear k1
    go_wp2_with fail
    refine (isKey_c _ _ hs2).mono ?_; rintro e w' ⟨rfl, rfl⟩
    cases k2 : keyB h.2.1 with
    | false =>
      have HF : Hid (E = 5) := Lib.hid (by rw [HE.out, if_neg (by simp [K1.out]), if_pos k2])
      clear k2
      go_wp2_with fail
      go_ret
      exact ⟨ret_int HF.out.symm, hG⟩
    | true =>
      have HE1 : Hid (E = if tE h.2.2.1 h.2.2.2 = 0 then (if l.length = 0 then 3 else if 20 < l.length then 2 else lsE h.2.2.1 none l) else tE h.2.2.1 h.2.2.2) := Lib.hid (by rw [HE.out, if_neg (by simp [K1.out]), if_neg (by simp [k2])])
      clear k2 HE
      have HT := Lib.hid (hH.part 2 #[.int .i64 h.2.2.1, .int .i64 h.2.2.2] (hi_time h _))
      go_wp2_with (refine wpList_load_at rfl 27 _ rfl ⟨g, 2, none⟩ rfl #[.int .i64 h.2.2.1, .int .i64 h.2.2.2] _ HT.out Try.underlying27 rfl (wi_info _ _) ?_)
      refine (days_c _ _ _ hb1 hb2).mono ?_; rintro e w3 ⟨rfl, hG3⟩
      have hH := hH.quiet hG3
      have hR := hR.quiet hG3
      have hG := hG.trans hG3
      clear hG3 c0 c1 HT
      obtain ⟨T, hT⟩ : ∃ T, tE h.2.2.1 h.2.2.2 = T := ⟨_, rfl⟩
      rw [hT] at HE1 ⊢
      clear hT
      generalize tN h.2.2.1 h.2.2.2 = N
      by_cases k3 : T = 0
      · have HE2 : Hid (E = if l.length = 0 then 3 else if 20 < l.length then 2 else lsE h.2.2.1 none l) := Lib.hid (by rw [HE1.out, if_pos k3])
        subst k3
        clear HE1
        have c4 : w3.cell? ⟨g, 4, none⟩ = some (.slice a l.length cap) := hH.cell 4
        by_cases k4 : l.length = 0
        · have HF : Hid (E = 3) := Lib.hid (by rw [HE2.out, if_pos k4])
          have k4' : ((l.length : Int) == 0) = true := by rw [k4]; rfl
          clear k4
          go_wp2_with fail
          go_ret
          exact ⟨ret_int HF.out.symm, hG⟩
        · have k4' : ((l.length : Int) == 0) = false := by rw [beq_eq_false_iff_ne]; omega
          by_cases k5 : 20 < l.length
          · have HF : Hid (E = 2) := Lib.hid (by rw [HE2.out, if_neg k4, if_pos k5])
            have k5' : (20 : Int) < (l.length : Int) := by omega
            clear k5 k4
            go_wp2_with fail
            go_ret
            exact ⟨ret_int HF.out.symm, hG⟩
          · have HE3 : Hid (E = lsE h.2.2.1 none l) := Lib.hid (by rw [HE2.out, if_neg k4, if_neg k5])
            have k5' : ¬ (20 : Int) < (l.length : Int) := by omega
            clear k5 k4 HE2
            have HHH := Lib.hid hH
            have HRR := Lib.hid hR
            clear hH hR
            go_wp2_with fail
            go_loopw [37] (LsRel w3 h.2.2.1 l) (fun i _ => l.length - (intOf i).toNat)
            case atStart => exact ⟨0, by omega, rfl, rfl, G.refl _ _⟩
            case round =>
              obtain ⟨k, hkl, rfl, heq, hGr⟩ := hrel
              have HEq := Lib.hid heq
              clear heq c4
              have hH := HHH.out.quiet hGr
              have hR := HRR.out.quiet hGr
              by_cases hk : k < l.length
              · obtain ⟨p, hp⟩ : ∃ p, l[k]? = some p := ⟨_, List.getElem?_eq_getElem hk⟩
                have hdrop : l.drop k = p :: l.drop (k + 1) := by rw [List.drop_eq_getElem_cons hk, ← (List.getElem?_eq_some_iff.1 hp).2]
                have HS : Hid (lsE h.2.2.1 none l = if lgE h.2.2.1 (prevAt l k) (l.drop (k + 1)).isEmpty p = 0 then lsE h.2.2.1 (some p) (l.drop (k + 1)) else lgE h.2.2.1 (prevAt l k) (l.drop (k + 1)).isEmpty p) := Lib.hid (by rw [HEq.out, hdrop]; rfl)
                have hpb := hl p (List.mem_of_getElem? hp)
                have HP := Lib.hid hp
                have HK := Lib.hid hk
                have hki : (k : Int) < (l.length : Int) := by omega
                clear hdrop hp
                go_wp2_with (refine wpList_load_row rfl 46 _ rfl g rfl 46 #[.string h.1, .string h.2.1, .int .i64 h.2.2.1, .int .i64 h.2.2.2, .slice a l.length cap] (0, 0) _ hH Try.underlying46 rfl (hi_info h _) ?_)
                refine (checkLeg_c h _ l k p _ hR HP.out hpb hn).mono ?_; rintro e w5 ⟨rfl, hG5⟩
                have hGr5 := hGr.trans hG5
                clear hG5 hGr hH hR hpb
                obtain ⟨L, hL⟩ : ∃ L, lgE h.2.2.1 (prevAt l k) (l.drop (k + 1)).isEmpty p = L := ⟨_, rfl⟩
                rw [hL] at HS ⊢
                clear hL
                by_cases k6 : L = 0
                · have HF : Hid (lsE h.2.2.1 none l = lsE h.2.2.1 (prevAt l (k + 1)) (l.drop (k + 1))) := Lib.hid (by rw [HS.out, if_pos k6, prevAt_succ l k p HP.out])
                  subst k6
                  clear HS
                  go_wp2_with fail
                  go_roundw
                  case rel => exact ⟨k + 1, by omega, by go_num, HF.out, hGr5⟩
                  case measure => have := HK.out; simp [intOf]; omega
                · have HF : Hid (E = L) := Lib.hid (by rw [HE3.out, HS.out, if_neg k6])
                  have k6' : (L != 0) = true := by simpa using k6
                  clear k6 HS
                  go_wp2_with fail
                  go_ret
                  exact ⟨ret_int HF.out.symm, hG.trans hGr5⟩
              · obtain rfl : k = l.length := by omega
                have HF : Hid (E = 0) := Lib.hid (by rw [HE3.out, HEq.out, List.drop_length]; rfl)
                go_wp2_with fail
                go_ret
                exact ⟨ret_int HF.out.symm, hG.trans hGr⟩
      · have HF : Hid (E = T) := Lib.hid (by rw [HE1.out, if_neg k3])
        have k3' : (T != 0) = true := by simpa using k3
        clear k3 HE1
        go_wp2_with fail
        go_ret
        exact ⟨ret_int HF.out.symm, hG⟩
end Go.Proofs.Ytbddcbbjmgepnaa

/- Hires: the reference's readingFault, legFault, HireFault. -/
namespace Go.Proofs.Ytbddcbbjmgepnaa
open Go.RowKit

end Go.Proofs.Ytbddcbbjmgepnaa

/- Hires: openLeg, right, Start; made, StartOf. -/
namespace Go.Proofs.Ytbddcbbjmgepnaa
open Go.RowKit

def hiZ : Array Value := hiC (⟨#[]⟩, ⟨#[]⟩, 0, 0) (.slice none 0 0)
/-- What is returned of a hire: itself, or none. -/
def hiH (E : Int) (h : Hh) : Hh := if E = 0 then h else (⟨#[]⟩, ⟨#[]⟩, 0, 0)
def hiL (E : Int) (l : List Lg) : List Lg := if E = 0 then l else []
def MadePost (h : Hh) (l : List Lg) (B : Nat → Prop) (w : World) (e : Ending) (w' : World) : Prop :=
  ∃ (H : Hh) (a : Option Addr) (n c : Nat), e = .returned (.tuple #[.agg #[.string H.1, .string H.2.1, .int .i64 H.2.2.1, .int .i64 H.2.2.2, .slice a n c], .int .i64 (hiE h l)]) ∧ H = hiH (hiE h l) h ∧ (∀ k, (Value.slice a n c).ownBlock = some k → B k) ∧ RdR w' 9 lgC (.slice a n c) (hiL (hiE h l) l) ∧ G w w' none
/-- A row's block is there. -/
theorem Rd.blk {w : World} {z : Nat} {v : Value} {n : Nat} {cs : List Value} (h : Rd w z v n cs) : ∀ k, v.ownBlock = some k → k < w.heap.size := by
  obtain ⟨a, c, rfl, h1, h2, h3, h4, h5⟩ := h
  intro k hk
  cases a with
  | none => cases hk
  | some b =>
    have := (h5 b rfl).2.1
    cases hk
    exact this
theorem hi_one (h : Hh) (a : Option Addr) (n c : Nat) : (hiC h (.slice a n c)).all (·.oneCell') = true := by simp [hiC, Value.oneCell']
theorem lg_one (x : Lg) : (lgC x).all (·.oneCell') = true := by simp [lgC, Value.oneCell']
/-- Two results, the first a struct that lies in memory. -/
theorem results_cell_hi {P : Program} {fn : Func} {p u : Tmp} {ty : TypeId} (h : fn.results = #[.cell p ty, .tmp u]) (tmps : Array Value) (w : World) (g : Nat) (t : TypeId) (cs : Array Value) (fr : Nat × Nat) (d : TypeDesc)
    (hp : tmps.getD p undef = .pointer (some ⟨g, 0, none⟩)) (hg : w.heap[g]? = some (.cells cs t fr))
    (hu : P.underlying ty = some d) (hd : (match d with | .struct _ | .array _ _ => true | _ => false) = true) (hi : (P.info? ty).map (·.size) = some cs.size) :
    (results fn tmps).run P w = .ok (.tuple #[.agg cs, tmps.getD u undef]) w := by
  have hp' : tmps[p]?.getD undef = .pointer (some ⟨g, 0, none⟩) := by simpa using hp
  simp [results, h, hp', asAddr, run_loadVar_row w g t ty cs fr d hg hu hd hi]
set_option maxRecDepth 100000 in
set_option maxHeartbeats 4000000 in
theorem right_c (h : Hh) (v : Value) (l : List Lg) (w : World) (hr : RdR w 9 lgC v l) (hl : LgOk l) (hs1 : Small h.1) (hs2 : Small h.2.1) (hb1 : bnd h.2.2.1) (hb2 : bnd h.2.2.2) (hn : l.length ≤ 1000) :
    Calls Try.prog 31 #[.agg (hiC h v)] w (MadePost h l (fun k => v.ownBlock = some k) w) := by
  have hH := (Bk.new w 46 (hiC h v)).alloc (.cells hiZ 46)
  have hG := ((G.refl w none).alloc (.cells (hiC h v) 46)).alloc (.cells hiZ 46)
  have hZ := Bk.newAt (w := w.alloc (.cells (hiC h v) 46)) (b := w.heap.size + 1) (by simp) 46 hiZ
  have hR := hr.quiet hG
  have HLO := Lib.hid hr.blk
  obtain ⟨a, cap, rfl, hcap, hm⟩ := RdR.form hr
  clear hr
  simp only [hiC, hiZ] at hH hG hR hZ ⊢
  go_enter Try.func31, Try.ntmps31
  go_upto_region 1 with fail
  generalize (w.alloc (.cells #[.string h.1, .string h.2.1, .int .i64 h.2.2.1, .int .i64 h.2.2.2, .slice a l.length cap] 46)).alloc (.cells #[.string ⟨#[]⟩, .string ⟨#[]⟩, .int .i64 0, .int .i64 0, .slice none 0 0] 46) = w2 at hG hH hR hZ ⊢
  go_wp2_with (refine wpList_load_row rfl 46 _ rfl w.heap.size rfl 46 #[.string h.1, .string h.2.1, .int .i64 h.2.2.1, .int .i64 h.2.2.2, .slice a l.length cap] (0, 0) _ hH Try.underlying46 rfl (hi_info h _) ?_)
  refine (check_c h _ l _ hR hl hs1 hs2 hb1 hb2 hn).mono ?_; rintro e w3 ⟨rfl, hG3⟩
  have hH := hH.quiet hG3
  have hZ := hZ.quiet hG3
  have hG := hG.trans hG3
  have hR := hR.quiet hG3
  clear hG3
  obtain ⟨E, hE⟩ : ∃ E, hiE h l = E := ⟨_, rfl⟩
  have HFIN : Hid (hiE h l = E) := Lib.hid hE
  rw [hE]
  clear hE
  by_cases k1 : E = 0
  · subst k1
    go_wp2_with (first | (refine wpList_load_row rfl 46 _ rfl w.heap.size rfl 46 #[.string h.1, .string h.2.1, .int .i64 h.2.2.1, .int .i64 h.2.2.2, .slice a l.length cap] (0, 0) _ hH Try.underlying46 rfl (hi_info h _) ?_) | (refine wpList_store_row rfl 46 _ _ rfl (w.heap.size + 1) #[.string h.1, .string h.2.1, .int .i64 h.2.2.1, .int .i64 h.2.2.2, .slice a l.length cap] rfl rfl 46 _ hZ (hi_info _ _) rfl (hi_one h _ _ _) ?_))
    refine bodyPost_ret (results_cell_hi rfl _ _ (w.heap.size + 1) 46 #[.string h.1, .string h.2.1, .int .i64 h.2.2.1, .int .i64 h.2.2.2, .slice a l.length cap] (0, 0) _ rfl (hZ.setRow _) Try.underlying46 rfl (hi_info h _)) rfl ?_
    exact ⟨h, a, l.length, cap, by rw [HFIN.out]; rfl, by rw [HFIN.out]; rfl, fun _ hk => hk, by rw [HFIN.out]; exact hR.grown ((G.refl w3 (some (w.heap.size + 1))).setRow (.inr rfl) _) (fun k e hk => by cases e; have := HLO.out _ hk; omega), hG.setRow (.inl (by omega)) _⟩
  · have k1' : (E != 0) = true := by simpa using k1
    have K1 := Lib.hid k1
    clear k1
    go_wp2_with (refine wpList_store_row rfl 46 _ _ rfl (w.heap.size + 1) #[.string ⟨#[]⟩, .string ⟨#[]⟩, .int .i64 0, .int .i64 0, .slice none 0 0] rfl rfl 46 _ hZ (hi_info (⟨#[]⟩, ⟨#[]⟩, 0, 0) (.slice none 0 0)) rfl (hi_one (⟨#[]⟩, ⟨#[]⟩, 0, 0) _ _ _) ?_)
    refine bodyPost_ret (results_cell_hi rfl _ _ (w.heap.size + 1) 46 #[.string ⟨#[]⟩, .string ⟨#[]⟩, .int .i64 0, .int .i64 0, .slice none 0 0] (0, 0) _ rfl (hZ.setRow _) Try.underlying46 rfl (hi_info (⟨#[]⟩, ⟨#[]⟩, 0, 0) (.slice none 0 0))) rfl ?_
    exact ⟨(⟨#[]⟩, ⟨#[]⟩, 0, 0), none, 0, 0, by rw [HFIN.out]; rfl, by rw [HFIN.out, hiH, if_neg K1.out], fun _ hk => (by cases hk), by rw [HFIN.out, hiL, if_neg K1.out]; exact RdR.nil _ _ _, hG.setRow (.inl (by omega)) _⟩
set_option maxRecDepth 100000 in
set_option maxHeartbeats 2000000 in
theorem openLeg_c (s : ByteArray) (r : Rg) (w : World) : Calls Try.prog 32 #[.string s, .agg (rgC r)] w fun e w' => e = .returned (.agg (lgC (s, r, noIn))) ∧ G w w' none := by
  have hZ := Bk.newAt (w := w.alloc (.cells (rgC r) 50)) (b := w.heap.size + 1) (by simp) 74 (lgC (⟨#[]⟩, (0, ⟨#[]⟩, 0, 0), (0, ⟨#[]⟩, 0, 0)))
  have hB := (Bk.new w 50 (rgC r)).alloc (.cells (lgC (⟨#[]⟩, (0, ⟨#[]⟩, 0, 0), (0, ⟨#[]⟩, 0, 0))) 74)
  have hG := ((G.refl w none).alloc (.cells (rgC r) 50)).alloc (.cells (lgC (⟨#[]⟩, (0, ⟨#[]⟩, 0, 0), (0, ⟨#[]⟩, 0, 0))) 74)
  obtain ⟨r1, r2, r3, r4⟩ := r
  simp only [rgC, lgC, noIn] at hZ hB hG ⊢
  go_enter Try.func32, Try.ntmps32
  go_upto_region 1 with fail
  generalize (w.alloc (.cells #[.int .i64 r1, .string r2, .int .i64 r3, .int .i64 r4] 50)).alloc (.cells #[.string ⟨#[]⟩, .int .i64 0, .string ⟨#[]⟩, .int .i64 0, .int .i64 0, .int .i64 0, .string ⟨#[]⟩, .int .i64 0, .int .i64 0] 74) = w2 at hG hB hZ ⊢
  go_wp2_with (first | (refine wpList_load_row rfl 50 _ rfl w.heap.size rfl 50 #[.int .i64 r1, .string r2, .int .i64 r3, .int .i64 r4] (0, 0) _ hB Try.underlying50 rfl (rg_info (r1, r2, r3, r4)) ?_) | (refine wpList_store_row rfl 74 _ _ rfl (w.heap.size + 1) #[.string s, .int .i64 r1, .string r2, .int .i64 r3, .int .i64 r4, .int .i64 (-1), .string ⟨#[]⟩, .int .i64 0, .int .i64 0] rfl rfl 74 _ hZ (lg_info (s, (r1, r2, r3, r4), noIn)) rfl (lg_one (s, (r1, r2, r3, r4), noIn)) ?_))
  refine bodyPost_ret (results_cell_row rfl _ _ (w.heap.size + 1) 74 #[.string s, .int .i64 r1, .string r2, .int .i64 r3, .int .i64 r4, .int .i64 (-1), .string ⟨#[]⟩, .int .i64 0, .int .i64 0] (0, 0) _ rfl (hZ.setRow _) Try.underlying74 rfl (lg_info (s, (r1, r2, r3, r4), noIn))) rfl ?_
  exact ⟨rfl, hG.setRow (.inl (by omega)) _⟩
end Go.Proofs.Ytbddcbbjmgepnaa

/- Rows of structs that a call owns, of whatever make; prefixes of lists of strings. No program. -/
namespace Go.Proofs.Ytbddcbbjmgepnaa
open Go.RowKit

abbrev OwnX {α : Type} (T : TypeId) (z : Nat) (c : α → Array Value) (w : World) (base : Nat) (v : Value) (l : List α) : Prop := w.ownsRow base T z v l.length (rowL c l)
structure RowOk {α : Type} (P : Program) (T TS : TypeId) (z bytes : Nat) (zv : Value) (c : α → Array Value) : Prop where
  row : (P.info? T).map (fun i => (i.zero, i.size, i.bytes)) = some (some zv, z, bytes)
  slice : P.underlying TS = some (.slice T)
  one : ∀ r, ∀ u ∈ (c r).toList, u.oneCell' = true
  sz : ∀ p, (c p).size = z
  zv : zv.cells.size = z
  pos : 0 < z
  few : bytes ≤ 100000
section
variable {α : Type} {T : TypeId} {z : Nat} {c : α → Array Value}
theorem bk_at {w : World} {g : Nat} {cs : Array Value} (h : Bk w g T cs) : ∀ j u, cs.toList[j]? = some u → w.cell? ((⟨g, 0, none⟩ : Addr).add j) = some u := fun j u hu => by
  rw [add_at, Nat.zero_add, h.cell]
  simpa using hu
theorem wp_append_x {P : Program} {TS : TypeId} {bytes : Nat} {zv : Value} (hk : RowOk P T TS z bytes zv c) {w : World} {o : Oper} {a : Act} {K : Act → World → Prop} {Q : Exit → Act → World → Prop} (s x : Operand)
    (ho : o.op = .call { callee := .builtin .append, args := #[s, x], argTypes := #[TS, TS] }) (base : Nat) (v : Value) (l : List α) (hs : a.eval s = v) (hown : OwnX T z c w base v l)
    (g : Nat) (r : α) (hx : a.eval x = .slice (some ⟨g, 0, none⟩) 1 1) (hb : Bk w g T (c r)) (hl : l.length ≤ 1000) (hbase : base ≤ w.heap.size)
    (hK : ∀ v' w', OwnX T z c w' base v' (l ++ [r]) → w.grownBy w' v.ownBlock → K (a.put o.dst v') w') : o.wp P a w K Q := by
  obtain ⟨i0, hi, hz0, hz1, hz2⟩ := info_parts hk.row
  have hm : (l.length + 1) * bytes ≤ 1001 * 100000 := Nat.mul_le_mul (by omega) hk.few
  refine wp_append_own w s x TS ho base T i0 zv z bytes hk.slice hi hz0 hz1 hz2 hk.zv hk.pos v l.length (rowL c l) hs hown ⟨g, 0, none⟩ 1 1 (c r).toList hx (by rw [Array.length_toList, hk.sz, Nat.one_mul]) (bk_at hb) (hk.one r) (by unfold maxLen; omega) (by omega) hbase ?_
  intro v' w' h1 h2 _
  refine hK v' w' ?_ h2
  unfold OwnX
  rw [List.length_append, rowL_snoc]
  exact h1
theorem OwnX.alloc {w : World} {base : Nat} {v : Value} {l : List α} (h : OwnX T z c w base v l) (o : Obj) : OwnX T z c (w.alloc o) base v l := World.ownsRow.alloc h o
theorem OwnX.kept {w w' : World} {base : Nat} {v : Value} {l : List α} {s : Nat} (h : OwnX T z c w base v l) (hg : G w w' (some s)) (hs : s < base) : OwnX T z c w' base v l := by
  refine World.ownsRow.kept h hg (.inr fun e => ?_)
  have := (World.ownsRow.lt h s e).1
  omega
theorem OwnX.quiet {w w' : World} {base : Nat} {v : Value} {l : List α} (h : OwnX T z c w base v l) (hg : G w w' none) : OwnX T z c w' base v l := World.ownsRow.kept h hg (Classical.em _)
theorem OwnX.drew {w : World} {base : Nat} {v : Value} {l : List α} (h : OwnX T z c w base v l) : OwnX T z c w.drew base v l := h.quiet ((G.refl w none).drew)
theorem OwnX.ne {w : World} {base : Nat} {v : Value} {l : List α} (h : OwnX T z c w base v l) {r : Nat} (hr : r < base ∨ w.heap.size ≤ r) : some r ≠ v.ownBlock := fun e => by
  have := World.ownsRow.lt h r e.symm
  omega
theorem OwnX.far {w : World} {base : Nat} {v : Value} {l : List α} (h : OwnX T z c w base v l) {p : Addr} (hp : some p.block ≠ v.ownBlock) (u : Value) : OwnX T z c (w.setCell p u) base v l := World.ownsRow.kept h (grownBy_setCell_row w p u) (.inr hp.symm)
theorem OwnX.low {w : World} {base : Nat} {v : Value} {l : List α} (h : OwnX T z c w base v l) : ∀ r, v.ownBlock = some r → base ≤ r := fun r e => (World.ownsRow.lt h r e).1
theorem OwnX.down {w : World} {base b : Nat} {v : Value} {l : List α} (h : OwnX T z c w base v l) (hb : b ≤ base) : OwnX T z c w b v l := by
  obtain ⟨h1, h2⟩ := h
  rcases h2 with ⟨rfl, h3⟩ | ⟨g, cap, cur, rfl, h3, h4, h5, h6, h7, h8⟩
  · exact ⟨h1, .inl ⟨rfl, h3⟩⟩
  · exact ⟨h1, .inr ⟨g, cap, cur, rfl, Nat.le_trans hb h3, h4, h5, h6, h7, h8⟩⟩
theorem OwnX.set (hz : ∀ p, (c p).size = z) {w : World} {base g n cap : Nat} {l : List α} {k : Nat} {p q : α} (h : w.ownsRow base T z (.slice (some ⟨g, 0, none⟩) n cap) n (rowL c l)) (hp : l[k]? = some p) (j : Nat) (u : Value) (hj : j < z) (hq : (c q).toList = (c p).toList.set j u) :
    (w.setCell ⟨g, k * z + j, none⟩ u).ownsRow base T z (.slice (some ⟨g, 0, none⟩) n cap) n (rowL c (l.set k q)) := by
  rw [← rowL_set hz l k p q hp j u hj hq]
  exact ownsRow_set h _ _
end
/-- The first of a list of strings. -/
theorem rdS_prefix {w : World} {a : Option Addr} {n cap : Nat} {l : List ByteArray} (h : Rd w 1 (.slice a n cap) l.length (l.map Value.string)) (m : Nat) (hm : m ≤ l.length) : Rd w 1 (.slice a m cap) (l.take m).length ((l.take m).map Value.string) := by
  obtain ⟨a', c', e, h1, h2, h3, h4, h5⟩ := h
  obtain ⟨rfl, rfl, rfl⟩ : a = a' ∧ n = l.length ∧ cap = c' := by cases e; exact ⟨rfl, rfl, rfl⟩
  have hlt : (l.take m).length = m := by rw [List.length_take]; omega
  refine ⟨a, cap, by rw [hlt], by omega, h2, by simp, fun e => ⟨by have := (h4 e).1; omega, (h4 e).2⟩, fun b hb => ?_⟩
  obtain ⟨q1, q2, q3⟩ := h5 b hb
  refine ⟨q1, q2, fun j u hj => q3 j u ?_⟩
  rw [List.map_take] at hj
  rw [← hj, List.getElem?_take]
  have hjl := (List.getElem?_eq_some_iff.1 hj).1
  simp at hjl
  rw [if_pos (by omega)]
end Go.Proofs.Ytbddcbbjmgepnaa

/- Hires: slices.Clone of legs, the last leg, whether it is open; a change to a copy of an open hire. -/
namespace Go.Proofs.Ytbddcbbjmgepnaa
open Go.RowKit

/-- Nothing that was there has turned, but the blocks of S. -/
structure GS (S : Nat → Prop) (a b : World) : Prop where
  os : b.os = a.os
  tape : b.tape = a.tape
  output : b.output = a.output
  size : a.heap.size ≤ b.heap.size
  block : ∀ k, k < a.heap.size → ¬ S k → b.heap[k]? = a.heap[k]?
theorem GS.of_G {S : Nat → Prop} {a b : World} (h : G a b none) : GS S a b := ⟨h.os, h.tape, h.output, h.size, fun k hk _ => h.block k hk (by simp)⟩
theorem GS.of_Gs {S : Nat → Prop} {a b : World} {s : Nat} (h : G a b (some s)) (hs : S s) : GS S a b := ⟨h.os, h.tape, h.output, h.size, fun k hk hS => h.block k hk (fun e => by cases e; exact hS hs)⟩
theorem GS.trans {S : Nat → Prop} {a b c : World} (h : GS S a b) (k : GS S b c) : GS S a c :=
  ⟨k.os.trans h.os, k.tape.trans h.tape, k.output.trans h.output, Nat.le_trans h.size k.size, fun j hj hS => (k.block j (Nat.lt_of_lt_of_le hj h.size) hS).trans (h.block j hj hS)⟩
theorem GS.mono {S T : Nat → Prop} {a b : World} (h : GS S a b) (hST : ∀ k, k < a.heap.size → S k → T k) : GS T a b := ⟨h.os, h.tape, h.output, h.size, fun k hk hT => h.block k hk (fun hS => hT (hST k hk hS))⟩
/-- The blocks that were written were made since. -/
theorem GS.own {S : Nat → Prop} {A a b : World} (hG : G A a none) (h : GS S a b) (hS : ∀ k, S k → A.heap.size ≤ k) : G A b none :=
  ⟨h.os.trans hG.os, h.tape.trans hG.tape, h.output.trans hG.output, Nat.le_trans hG.size h.size, fun k hk _ => (h.block k (Nat.lt_of_lt_of_le hk hG.size) (fun hs => by have := hS k hs; omega)).trans (hG.block k hk (by simp))⟩
theorem Bk.gs {S : Nat → Prop} {w w' : World} {g : Nat} {T : TypeId} {cs : Array Value} (h : Bk w g T cs) (hg : GS S w w') (hs : ¬ S g) : Bk w' g T cs := (hg.block g h.lt hs).trans h

theorem lg_oneL (r : Lg) : ∀ u ∈ (lgC r).toList, u.oneCell' = true := by
  intro u hu
  simp [lgC] at hu
  rcases hu with rfl | rfl | rfl | rfl | rfl | rfl | rfl | rfl | rfl <;> rfl
theorem lg_rowOk : RowOk Try.prog 74 44 9 96 (.agg (lgC (⟨#[]⟩, (0, ⟨#[]⟩, 0, 0), (0, ⟨#[]⟩, 0, 0)))) lgC := ⟨by kernel_rfl, Try.underlying44, lg_oneL, lgC_sz, rfl, by omega, by omega⟩
abbrev OwnLg (w : World) (base : Nat) (v : Value) (l : List Lg) : Prop := OwnX 74 9 lgC w base v l
theorem rowL_one {α : Type} {c : α → Array Value} (h : ∀ r, ∀ u ∈ (c r).toList, u.oneCell' = true) (l : List α) : ∀ u ∈ rowL c l, u.oneCell' = true := by
  intro u hu
  obtain ⟨x, _, hx⟩ := List.mem_flatMap.1 hu
  exact h x u hx

set_option maxRecDepth 100000 in
set_option maxHeartbeats 2000000 in
theorem cloneLg_c (v : Value) (l : List Lg) (w : World) (hr : RdR w 9 lgC v l) (hn : l.length ≤ 1000) :
    Calls Try.prog 58 #[v] w fun e w' => ∃ v', e = .returned v' ∧ OwnLg w' w.heap.size v' l ∧ G w w' none := by
  have q22 : ∀ (w : World) (a : Option Addr) (n c n' c' : Nat), (binOp .eql 44 (.slice a n c) (.slice none n' c')).run Try.prog w = .ok (.bool a.isNone) w := fun w a n c n' c' => Lib.run_eql_slice_nil w _ _ a n c n' c' Try.underlying44
  obtain ⟨a, cap, rfl, h1, h2, h3, h4, h5⟩ := hr
  cases a with
  | none =>
    obtain ⟨hz, hc⟩ := h4 rfl
    subst hc
    have hl : l = [] := List.eq_nil_of_length_eq_zero hz
    subst hl
    clear h1 h2 h3 h4 h5 hn
    go_enter Try.func58, Try.ntmps58
    go_wp2_with fail
    go_ret
    exact ⟨_, rfl, World.ownsRow_nil _ _ _ _, G.refl _ _⟩
  | some ad =>
    obtain ⟨b, o, s⟩ := ad
    obtain ⟨e1, e2, e3⟩ := h5 _ rfl
    dsimp only at e1 e2 e3
    subst e1
    obtain ⟨i0, hi, hz0, hz1, hz2⟩ := info_parts lg_rowOk.row
    have E3 := Lib.hid e3
    clear e3 h4 h5
    go_enter Try.func58, Try.ntmps58
    go_wp2_with (at_builtin; refine wpList_append_own _ rfl _ _ 44 rfl w.heap.size 74 i0 (.agg (lgC (⟨#[]⟩, (0, ⟨#[]⟩, 0, 0), (0, ⟨#[]⟩, 0, 0)))) 9 96 Try.underlying44 hi hz0 hz1 hz2 rfl (by omega) _ _ _ rfl (World.ownsRow_made w #[] 0 (Nat.le_refl _) (Nat.zero_le _) (by simp)) ⟨b, o, none⟩ l.length cap (rowL lgC l) rfl ?qc1 ?qc2 ?qc3 ?qc4 ?qc5 ?qc6 ?_)
    case qc1 => exact h3
    case qc2 =>
      intro j u hj
      rw [add_at]
      exact Lib.cell?_alloc_some _ (E3.out j u hj)
    case qc3 => exact rowL_one lg_oneL l
    case qc4 => unfold maxLen; omega
    case qc5 => omega
    case qc6 => simp
    intro v' w1 hown hgrow hnil
    go_wp2_with fail
    go_ret
    refine ⟨v', rfl, by simpa using hown, ?_⟩
    exact ((G.refl w none).alloc _).other hgrow (fun k hk => by simp [Value.ownBlock] at hk; omega)
/-- Whether the last leg is still out. -/
def ioB (l : List Lg) : Bool := match l[l.length - 1]? with
  | some x => x.2.2.1 == -1
  | none => false
theorem ioB_pos {l : List Lg} (h : ioB l = true) : 0 < l.length := by
  cases l with
  | nil => cases h
  | cons a r => simp
set_option maxRecDepth 100000 in
set_option maxHeartbeats 1000000 in
theorem lastOf_c (h : Hh) (bb bo n cap : Nat) (w : World) (hn : 0 < n) (hn2 : n ≤ 1000) :
    Calls Try.prog 35 #[.agg (hiC h (.slice (some ⟨bb, bo, none⟩) n cap))] w fun e w' => e = .returned (.pointer (some ⟨bb, bo + (n - 1) * 9, none⟩)) ∧ G w w' none := by
  have hG := (G.refl w none).alloc (.cells (hiC h (.slice (some ⟨bb, bo, none⟩) n cap)) 46)
  obtain ⟨m, rfl⟩ : ∃ m, n = m + 1 := ⟨n - 1, by omega⟩
  have e1 : m + 1 - 1 = m := by omega
  have hw : IntKind.i64.wrap (((m + 1 : Nat) : Int) - 1) = (m : Int) := by rw [IntKind.wrap_i64]; omega
  have hlt : m < m + 1 := by omega
  rw [e1]
  simp only [hiC] at hG ⊢
  go_enter Try.func35, Try.ntmps35
  go_wp2_with fail
  go_ret
  exact ⟨rfl, hG⟩
set_option maxRecDepth 100000 in
set_option maxHeartbeats 1000000 in
theorem isOpen_h (h : Hh) (v : Value) (l : List Lg) (w : World) (hr : RdR w 9 lgC v l) (h0 : 0 < l.length) (hn : l.length ≤ 1000) :
    Calls Try.prog 57 #[.agg (hiC h v)] w fun e w' => e = .returned (.bool (ioB l)) ∧ G w w' none := by
  obtain ⟨a, cap, rfl, hcap, hm⟩ := RdR.form hr
  obtain ⟨p, hp⟩ : ∃ p, l[l.length - 1]? = some p := ⟨_, List.getElem?_eq_getElem (by omega)⟩
  obtain ⟨bb, bo, rfl, hbb, -⟩ := RdR.elem lgC_sz hr (G.refl w none) hp
  have H : Hid (ioB l = (p.2.2.1 == -1)) := Lib.hid (by unfold ioB; rw [hp])
  have hH := Bk.new w 46 (hiC h (.slice (some ⟨bb, bo, none⟩) l.length cap))
  have hG := (G.refl w none).alloc (.cells (hiC h (.slice (some ⟨bb, bo, none⟩) l.length cap)) 46)
  have HR := Lib.hid (hr.quiet hG)
  have HP := Lib.hid hp
  clear hr hp
  simp only [hiC] at hH hG HR ⊢
  go_enter Try.func57, Try.ntmps57
  go_upto_region 1 with fail
  generalize w.alloc (.cells #[.string h.1, .string h.2.1, .int .i64 h.2.2.1, .int .i64 h.2.2.2, .slice (some ⟨bb, bo, none⟩) l.length cap] 46) = w2 at hG hH HR ⊢
  go_wp2_with (refine wpList_load_row rfl 46 _ rfl w.heap.size rfl 46 #[.string h.1, .string h.2.1, .int .i64 h.2.2.1, .int .i64 h.2.2.2, .slice (some ⟨bb, bo, none⟩) l.length cap] (0, 0) _ hH Try.underlying46 rfl (hi_info h _) ?_)
  refine (lastOf_c h bb bo l.length cap _ h0 hn).mono ?_; rintro e w3 ⟨rfl, hG3⟩
  have HROW := Lib.hid (lgRow HR.out hG3 HP.out)
  go_wp2_with (refine wpList_load_at rfl 74 _ rfl ⟨bb, bo + (l.length - 1) * 9, none⟩ rfl (lgC p) _ HROW.out Try.underlying74 rfl (lg_info p) ?_)
  refine (isOut_c p _).mono ?_; rintro e w4 ⟨rfl, hG4⟩
  go_wp2_with fail
  go_ret
  exact ⟨ret_bool H.out.symm, (hG.trans hG3).trans hG4⟩
end Go.Proofs.Ytbddcbbjmgepnaa

/- What is due: legs of a hire that has ended; sums over its legs. -/
namespace Go.Proofs.Ytbddcbbjmgepnaa
open Go.RowKit

theorem rgE_ok {x : Rg} (h : rgE x = 0) : momB x.1 = true ∧ keyB x.2.1 = true ∧ (0 ≤ x.2.2.1 ∧ x.2.2.1 ≤ 999999) ∧ (0 ≤ x.2.2.2 ∧ x.2.2.2 ≤ 8) := by
  unfold rgE at h
  split at h
  · cases h
  split at h
  · cases h
  split at h
  · cases h
  split at h
  · cases h
  · next h1 h2 h3 h4 =>
    refine ⟨by simpa using h1, by simpa using h2, ?_, ?_⟩
    · simp [inB] at h3; omega
    · simp [inB] at h4; omega
theorem lgE_ok {f : Int} {b : Option Lg} {last : Bool} {x : Lg} (h : lgE f b last x = 0) : rgE x.2.1 = 0 ∧ beE f b x = 0 ∧ enE last x = 0 := by
  unfold lgE at h
  split at h
  · cases h
  split at h
  · next h1 =>
    split at h
    · next h2 => exact ⟨h1, h2, h⟩
    · contradiction
  · contradiction
theorem lsE_legs : ∀ (l : List Lg) (f : Int) (b : Option Lg), lsE f b l = 0 → ∀ (k : Nat) (x : Lg), l[k]? = some x → rgE x.2.1 = 0 ∧ enE (decide (k + 1 = l.length)) x = 0
  | [], _, _, _, _, _, h => by simp at h
  | y :: r, f, b, h, k, x, hx => by
    unfold lsE at h
    split at h
    · next h1 =>
      obtain ⟨a1, -, a3⟩ := lgE_ok h1
      cases k with
      | zero =>
        simp at hx
        subst hx
        refine ⟨a1, ?_⟩
        have e : decide (0 + 1 = (y :: r).length) = r.isEmpty := by cases r <;> simp
        rw [e]
        exact a3
      | succ k =>
        have := lsE_legs r f (some y) h k x (by simpa using hx)
        have e : decide (k + 1 + 1 = (y :: r).length) = decide (k + 1 = r.length) := by simp
        rw [e]
        exact this
    · contradiction
theorem hiE_ls {h : Hh} {l : List Lg} (e : hiE h l = 0) : lsE h.2.2.1 none l = 0 ∧ tE h.2.2.1 h.2.2.2 = 0 := by
  unfold hiE at e
  split at e
  · cases e
  split at e
  · cases e
  split at e
  · next h3 =>
    split at e
    · cases e
    split at e
    · cases e
    · exact ⟨e, h3⟩
  · contradiction
/-- The readings of a hire that is right, and not open. -/
theorem ended_ok {h : Hh} {l : List Lg} (e : hiE h l = 0) (ho : ioB l = false) : ∀ x ∈ l, rgE x.2.1 = 0 ∧ rgE x.2.2 = 0 := by
  intro x hx
  obtain ⟨k, hk⟩ := List.mem_iff_getElem?.1 hx
  obtain ⟨h1, h2⟩ := lsE_legs l _ _ (hiE_ls e).1 k x hk
  refine ⟨h1, ?_⟩
  unfold enE at h2
  split at h2
  · next h3 =>
    split at h2
    · split at h2
      · next h4 =>
        have h5 : k = l.length - 1 := by have := of_decide_eq_true h4; omega
        subst h5
        unfold ioB at ho
        rw [hk] at ho
        simp [h3] at ho
      · cases h2
    · cases h2
  · split at h2
    · assumption
    · contradiction
def kmS (l : List Lg) : Int := (l.map kmL).sum
def miS (l : List Lg) : Int := (l.map miL).sum
theorem sum_step {α : Type} (f : α → Int) (l : List α) (k : Nat) (p : α) (hp : l[k]? = some p) : ((l.take (k + 1)).map f).sum = ((l.take k).map f).sum + f p := by
  rw [List.take_add_one, hp]
  simp
theorem sum_bnd {α : Type} (f : α → Int) (B : Int) (l : List α) (hb : ∀ x ∈ l, 0 ≤ f x ∧ f x ≤ B) : 0 ≤ (l.map f).sum ∧ (l.map f).sum ≤ B * (l.length : Int) := by
  induction l with
  | nil => simp
  | cons a r ih =>
    obtain ⟨h1, h2⟩ := ih (fun x hx => hb x (List.mem_cons_of_mem _ hx))
    obtain ⟨h3, h4⟩ := hb a List.mem_cons_self
    simp only [List.map_cons, List.sum_cons, List.length_cons]
    have e : B * ((r.length + 1 : Nat) : Int) = B * (r.length : Int) + B := by rw [Int.natCast_add, Int.mul_add]; simp
    rw [e]
    omega
theorem sum_take {α : Type} (f : α → Int) (B : Int) (l : List α) (hb : ∀ x ∈ l, 0 ≤ f x ∧ f x ≤ B) (hB : 0 ≤ B) (hB2 : B ≤ 1000000) (k : Nat) (hk : k ≤ 1000) : 0 ≤ ((l.take k).map f).sum ∧ ((l.take k).map f).sum ≤ 1000000000 := by
  obtain ⟨h1, h2⟩ := sum_bnd f B (l.take k) (fun x hx => hb x (List.mem_of_mem_take hx))
  have h3 : ((l.take k).length : Int) ≤ 1000 := by rw [List.length_take]; omega
  have h4 : B * ((l.take k).length : Int) ≤ 1000000 * 1000 := Int.mul_le_mul hB2 h3 (by omega) (by omega)
  omega
def HsuRel (w : World) (f : Lg → Int) (l : List Lg) (s i : Value) (wr : World) : Prop :=
  ∃ k : Nat, k ≤ l.length ∧ i = .int .i64 k ∧ s = .int .i64 ((l.take k).map f).sum ∧ G w wr none
set_option maxRecDepth 100000 in
set_option maxHeartbeats 2000000 in
theorem hsum_c (F : FuncId) (f : Lg → Int) (B : Int) (h : Hh) (v : Value) (l : List Lg) (w : World) (hcf : ∀ (args : Array Value) (w : World), (callFunc F args).run Try.prog w = .ok (.enter F args) w)
    (hf : ∀ x ∈ l, ∀ w, Calls Try.prog F #[.agg (lgC x)] w fun e w' => e = .returned (.int .i64 (f x)) ∧ G w w' none) (hb : ∀ x ∈ l, 0 ≤ f x ∧ f x ≤ B) (hB0 : 0 ≤ B) (hB : B ≤ 1000000) (hr : RdR w 9 lgC v l) (hn : l.length ≤ 1000) :
    Calls Try.prog 42 #[.agg (hiC h v), .func (.func F) #[] #[]] w fun e w' => e = .returned (.int .i64 (l.map f).sum) ∧ G w w' none := by
  obtain ⟨a, cap, rfl, hcap, hm⟩ := RdR.form hr
  have hH := Bk.new w 46 (hiC h (.slice a l.length cap))
  have hG := (G.refl w none).alloc (.cells (hiC h (.slice a l.length cap)) 46)
  have HR := Lib.hid (hr.quiet hG)
  clear hr
  simp only [hiC] at hH hG HR ⊢
  go_enter Try.func42, Try.ntmps42
  go_upto_region 1 with fail
  generalize w.alloc (.cells #[.string h.1, .string h.2.1, .int .i64 h.2.2.1, .int .i64 h.2.2.2, .slice a l.length cap] 46) = w2 at hG hH HR ⊢
  have c4 : w2.cell? ⟨w.heap.size, 4, none⟩ = some (.slice a l.length cap) := hH.cell 4
  go_wp2_with fail
  clear c4 hH
  go_loopw [5, 11] (HsuRel w2 f l) (fun _ i _ => l.length - (intOf i).toNat)
  case atStart => exact ⟨0, by omega, rfl, rfl, G.refl _ _⟩
  case round =>
    obtain ⟨k, hkl, rfl, rfl, hGr⟩ := hrel
    have hbk := sum_take f B l hb hB0 hB k (by omega)
    by_cases hk : k < l.length
    · obtain ⟨p, hp⟩ : ∃ p, l[k]? = some p := ⟨_, List.getElem?_eq_getElem hk⟩
      have hst := sum_step f l k p hp
      have hpb := hb p (List.mem_of_getElem? hp)
      have HF := Lib.hid (show ∀ w, Calls Try.prog F #[.agg #[.string p.1, .int .i64 p.2.1.1, .string p.2.1.2.1, .int .i64 p.2.1.2.2.1, .int .i64 p.2.1.2.2.2, .int .i64 p.2.2.1, .string p.2.2.2.1, .int .i64 p.2.2.2.2.1, .int .i64 p.2.2.2.2.2]] w fun e w' => e = .returned (.int .i64 (f p)) ∧ G w w' none from hf p (List.mem_of_getElem? hp))
      obtain ⟨bb, bo, rfl, -, -⟩ := RdR.elem lgC_sz HR.out hGr hp
      have HW := Lib.hid (lgRow HR.out hGr hp)
      have HK := Lib.hid hk
      have hGr5 := hGr.alloc (.cells #[.string p.1, .int .i64 p.2.1.1, .string p.2.1.2.1, .int .i64 p.2.1.2.2.1, .int .i64 p.2.1.2.2.2, .int .i64 p.2.2.1, .string p.2.2.2.1, .int .i64 p.2.2.2.2.1, .int .i64 p.2.2.2.2.2] 74)
      obtain ⟨S, hS⟩ : ∃ S, ((l.take k).map f).sum = S := ⟨_, rfl⟩
      rw [hS] at hst hbk ⊢
      have HST := Lib.hid hst
      have hw : IntKind.i64.wrap (S + f p) = S + f p := by rw [IntKind.wrap_i64]; omega
      clear hp hGr hS hst hf hb
      go_wp2_with (refine wpList_load_at rfl 74 _ rfl ⟨bb, bo + k * 9, none⟩ rfl #[.string p.1, .int .i64 p.2.1.1, .string p.2.1.2.1, .int .i64 p.2.1.2.2.1, .int .i64 p.2.1.2.2.2, .int .i64 p.2.2.1, .string p.2.2.2.1, .int .i64 p.2.2.2.2.1, .int .i64 p.2.2.2.2.2] _ HW.out Try.underlying74 rfl (lg_info p) ?_)
      refine (HF.out _).mono ?_; rintro e w5 ⟨rfl, hG5⟩
      have hGr5 := hGr5.trans hG5
      go_wp2_with fail
      go_roundw
      case rel => exact ⟨k + 1, by omega, by go_num, by rw [HST.out], hGr5⟩
      case measure => have := HK.out; simp [intOf]; omega
    · obtain rfl : k = l.length := by omega
      have HF : Hid (((l.take l.length).map f).sum = (l.map f).sum) := Lib.hid (by rw [List.take_length])
      go_wp2_with fail
      go_ret
      exact ⟨ret_int HF.out, hG.trans hGr⟩
end Go.Proofs.Ytbddcbbjmgepnaa

/- Steps of a region that draws its order, by hand. No program. -/
namespace Go.Proofs.Ytbddcbbjmgepnaa
open Go.RowKit
section
variable {P : Program} {ops : Array Oper} {o : Oper} {a : Act} {w : World} {K : Act → World → Prop} {Q : Exit → Act → World → Prop} {E : Prop}
theorem st_val (hg : o.guard = none) {v : Value} {w' : World} (hr : (execOp a.eval o).run P w = .ok (.value v) w') (hK : K (a.put o.dst v) w') : if Region.wanted o (yielded ops a.tmps) = true then Oper.wp P o a w K Q else E := by
  rw [if_pos (by simp [Region.wanted, hg])]
  unfold Oper.wp
  rw [hr]
  exact hK
theorem st_wp (hg : o.guard = none) (h : Oper.wp P o a w K Q) : if Region.wanted o (yielded ops a.tmps) = true then Oper.wp P o a w K Q else E := by
  rw [if_pos (by simp [Region.wanted, hg])]
  exact h
theorem st_call (hg : o.guard = none) {f : FuncId} {args : Array Value} {w1 : World} (hr : (execOp a.eval o).run P w = .ok (.enter f args) w1) (hc : Calls P f args w1 fun e w' => ∃ v, e = .returned v ∧ K (a.put o.dst v) w') : if Region.wanted o (yielded ops a.tmps) = true then Oper.wp P o a w K Q else E := by
  rw [if_pos (by simp [Region.wanted, hg])]
  unfold Oper.wp
  rw [hr]
  refine hc.mono ?_
  rintro e w' ⟨v, rfl, hK⟩
  exact hK
theorem run_load_row {ty : TypeId} {x : Operand} (ho : o.op = .load ty x) (g : Nat) (hx : a.eval x = .pointer (some ⟨g, 0, none⟩)) (t : TypeId) (cs : Array Value) (d : TypeDesc) (hg : Bk w g t cs)
    (hu : P.underlying ty = some d) (hd : (match d with | .struct _ | .array _ _ => true | _ => false) = true) (hi : (P.info? ty).map (·.size) = some cs.size) : (execOp a.eval o).run P w = .ok (.value (.agg cs)) w := by
  unfold execOp
  simp only [ho, hx, Instr.loadAt, Instr.sureAddr, Sem.run_bind, Sem.run_pure, Result.andThen_ok, run_loadVar_row w g t ty cs (0, 0) d hg hu hd hi]
/-- One that may come up, and it alone. -/
theorem ready_one {md : Region.Mode} {fuel : Nat} {listed : Array Bool} {i : Nat} (hr : Region.ready md ops listed = [i]) (ho : ops[i]? = some o)
    (h : ∀ K' : Act → World → Prop, (∀ a w, wpAny P md ops Q fuel (listed.setIfInBounds i true) a w → K' a w) → if Region.wanted o (yielded ops a.tmps) = true then Oper.wp P o a w K' Q else K' (a.put o.dst undef) w) : wpAny P md ops Q (fuel + 1) listed a w :=
  wpAny_ready hr (by simp) (AllReady.cons ho h AllReady.nil)
theorem ready_two {md : Region.Mode} {fuel : Nat} {listed : Array Bool} {i j : Nat} {o2 : Oper} (hr : Region.ready md ops listed = [i, j]) (ho : ops[i]? = some o) (ho2 : ops[j]? = some o2)
    (h : ∀ K' : Act → World → Prop, (∀ a w, wpAny P md ops Q fuel (listed.setIfInBounds i true) a w → K' a w) → if Region.wanted o (yielded ops a.tmps) = true then Oper.wp P o a w K' Q else K' (a.put o.dst undef) w)
    (h2 : ∀ K' : Act → World → Prop, (∀ a w, wpAny P md ops Q fuel (listed.setIfInBounds j true) a w → K' a w) → if Region.wanted o2 (yielded ops a.tmps) = true then Oper.wp P o2 a w K' Q else K' (a.put o2.dst undef) w) : wpAny P md ops Q (fuel + 1) listed a w :=
  wpAny_ready hr (by simp) (AllReady.cons ho h (AllReady.cons ho2 h2 AllReady.nil))
end
end Go.Proofs.Ytbddcbbjmgepnaa

/- What is due: checkEnded, lateness, lateCents, distanceCents. Its drawn regions are written by gendub.py. -/
namespace Go.Proofs.Ytbddcbbjmgepnaa
open Go.RowKit

theorem cf_km : ∀ (args : Array Value) (w : World), (callFunc 60 args).run Try.prog w = .ok (.enter 60 args) w := fun args w => by kernel_rfl
theorem cf_mi : ∀ (args : Array Value) (w : World), (callFunc 43 args).run Try.prog w = .ok (.enter 43 args) w := fun args w => by kernel_rfl
theorem hiE_pos0 {h : Hh} {l : List Lg} (e : hiE h l = 0) : 0 < l.length ∧ l.length ≤ 20 := by
  unfold hiE at e
  split at e
  · cases e
  split at e
  · cases e
  split at e
  · split at e
    · cases e
    · split at e
      · cases e
      · omega
  · contradiction
def ceE (h : Hh) (l : List Lg) : Int := if hiE h l = 0 then (if ioB l = true then 11 else 0) else hiE h l
theorem ceE_ok {h : Hh} {l : List Lg} (e : ceE h l = 0) : hiE h l = 0 ∧ ioB l = false := by
  unfold ceE at e
  split at e
  · next h1 =>
    split at e
    · cases e
    · next h2 => exact ⟨h1, by simpa using h2⟩
  · contradiction
/-- By how many minutes a hire was late. -/
def laN (h : Hh) (l : List Lg) : Int := match l[l.length - 1]? with
  | some x => max 0 (x.2.2.1 - h.2.2.2)
  | none => 0
set_option maxRecDepth 100000 in
set_option maxHeartbeats 2000000 in
theorem lateness_c (h : Hh) (v : Value) (l : List Lg) (w : World) (hr : RdR w 9 lgC v l) (h0 : 0 < l.length) (hn : l.length ≤ 1000) (hb2 : bnd h.2.2.2) (hp2 : ∀ p, l[l.length - 1]? = some p → bnd p.2.2.1) :
    Calls Try.prog 40 #[.agg (hiC h v)] w fun e w' => e = .returned (.int .i64 (laN h l)) ∧ G w w' none := by
  obtain ⟨a, cap, rfl, hcap, hm⟩ := RdR.form hr
  obtain ⟨p, hp⟩ : ∃ p, l[l.length - 1]? = some p := ⟨_, List.getElem?_eq_getElem (by omega)⟩
  obtain ⟨bb, bo, rfl, hbb, -⟩ := RdR.elem lgC_sz hr (G.refl w none) hp
  have H : Hid (laN h l = max 0 (p.2.2.1 - h.2.2.2)) := Lib.hid (by unfold laN; rw [hp])
  have hpb := hp2 p hp
  unfold bnd at hb2 hpb
  have hw1 : IntKind.i64.wrap (p.2.2.1 - h.2.2.2) = p.2.2.1 - h.2.2.2 := by rw [IntKind.wrap_i64]; omega
  have hH := Bk.new w 46 (hiC h (.slice (some ⟨bb, bo, none⟩) l.length cap))
  have hG := (G.refl w none).alloc (.cells (hiC h (.slice (some ⟨bb, bo, none⟩) l.length cap)) 46)
  have hR := hr.quiet hG
  have HP := Lib.hid hp
  clear hr hp hb2 hpb hp2
  simp only [hiC] at hH hG hR ⊢
  go_enter Try.func40, Try.ntmps40
  go_upto_region 1 with fail
  generalize w.alloc (.cells #[.string h.1, .string h.2.1, .int .i64 h.2.2.1, .int .i64 h.2.2.2, .slice (some ⟨bb, bo, none⟩) l.length cap] 46) = w2 at hG hH hR ⊢
  have hH2 := hH.quiet ((G.refl w2 none).drew)
  have hR2 := hR.quiet ((G.refl w2 none).drew)
  have hG2 := hG.drew
  generalize w.heap.size = g at hH hH2 ⊢
  have hd2 := RdR.cell lgC_sz hR2 (G.refl _ none) HP.out 5 (.int .i64 p.2.2.1) rfl
  -- @REGION1
  refine wp_region_held_drew (S := (fun w' => w'.cell? ⟨g, 0, none⟩ = some (.string h.1) ∧ w'.cell? ⟨g, 1, none⟩ = some (.string h.2.1) ∧ w'.cell? ⟨g, 2, none⟩ = some (.int .i64 h.2.2.1) ∧ w'.cell? ⟨g, 3, none⟩ = some (.int .i64 h.2.2.2) ∧ w'.cell? ⟨g, 4, none⟩ = some (.slice (some ⟨bb, bo, none⟩) l.length cap) ∧ w'.cell? ⟨bb, bo + (l.length - 1) * 9 + 5, none⟩ = some (.int .i64 p.2.2.1))) (by kernel_rfl) ?_ (fun hHeld => ?_)
  · exact ⟨hH2.cell 0, hH2.cell 1, hH2.cell 2, hH2.cell 3, hH2.cell 4, hd2⟩
  refine wpAnyH_take (i := 0) (oi := { dst := some 3, op := Op.load 46 (Operand.tmp 1), type := 46, pos := _, after := #[], guard := none }) (v := ?_) rfl (by kernel_rfl) (by kernel_rfl) (by kernel_rfl) (fun _ _ _ h => h) (Or.inl ⟨by rfl, ?_⟩) (by assumption) ?_
  rotate_left
  · (intro w hSw; obtain ⟨s0, s1, s2, s3, s4, s5⟩ := hSw; (go_simp <;> with_reducible rfl))
  try simp only [Act.put, List.setIfInBounds_toArray, List.set_cons_zero, List.set_cons_succ]
  refine wpAnyH_take (i := 6) (oi := { dst := some 9, op := Op.fieldAddr 46 (Operand.tmp 1) 2, type := 0, pos := _, after := #[], guard := none }) (v := ?_) rfl (by kernel_rfl) (by kernel_rfl) (by kernel_rfl) (fun _ _ _ h => h) (Or.inl ⟨by rfl, ?_⟩) (by assumption) ?_
  rotate_left
  · (intro w hSw; obtain ⟨s0, s1, s2, s3, s4, s5⟩ := hSw; (go_simp <;> with_reducible rfl))
  try simp only [Act.put, List.setIfInBounds_toArray, List.set_cons_zero, List.set_cons_succ]
  refine wpAnyH_take (i := 7) (oi := { dst := some 10, op := Op.fieldAddr 27 (Operand.tmp 9) 1, type := 0, pos := _, after := #[{ on := 6, ground := Ground.data }], guard := none }) (v := ?_) rfl (by kernel_rfl) (by kernel_rfl) (by kernel_rfl) (fun _ _ _ h => h) (Or.inl ⟨by rfl, ?_⟩) (by assumption) ?_
  rotate_left
  · (intro w hSw; obtain ⟨s0, s1, s2, s3, s4, s5⟩ := hSw; (go_simp <;> with_reducible rfl))
  try simp only [Act.put, List.setIfInBounds_toArray, List.set_cons_zero, List.set_cons_succ]
  refine wpAnyH_take (i := 8) (oi := { dst := some 11, op := Op.load 3 (Operand.tmp 10), type := 3, pos := _, after := #[{ on := 7, ground := Ground.data }], guard := none }) (v := ?_) rfl (by kernel_rfl) (by kernel_rfl) (by kernel_rfl) (fun _ _ _ h => h) (Or.inl ⟨by rfl, ?_⟩) (by assumption) ?_
  rotate_left
  · (intro w hSw; obtain ⟨s0, s1, s2, s3, s4, s5⟩ := hSw; (go_simp <;> with_reducible rfl))
  try simp only [Act.put, List.setIfInBounds_toArray, List.set_cons_zero, List.set_cons_succ]
  refine wpAnyH_ready (rs := [1]) (by kernel_rfl) (by simp) ?_
  refine AllReadyH.cons (o := { dst := some 4, op := Op.call { callee := Callee.value (Operand.func 35), args := #[Operand.tmp 3], argTypes := #[46] }, type := 78, pos := _, after := #[{ on := 0, ground := Ground.data }], guard := none }) rfl (fun K hK => ?_) AllReadyH.nil
  go_simp
  refine (lastOf_c h bb bo l.length cap _ h0 hn).mono ?_
  rintro e w3 ⟨rfl, hG3⟩
  have hH3 := hH2.quiet hG3
  have hd3 := RdR.cell lgC_sz hR2 hG3 HP.out 5 (.int .i64 p.2.2.1) rfl
  have hG3 := hG2.trans hG3
  refine hK.out _ _ ?_ (fun hHeld => ?_)
  · exact ⟨hH3.cell 0, hH3.cell 1, hH3.cell 2, hH3.cell 3, hH3.cell 4, hd3⟩
  clear hK K
  try simp only [Act.put, List.setIfInBounds_toArray, List.set_cons_zero, List.set_cons_succ]
  refine wpAnyH_take (i := 2) (oi := { dst := some 5, op := Op.nilCheck (Operand.tmp 4), type := 0, pos := _, after := #[{ on := 1, ground := Ground.data }], guard := none }) (v := ?_) rfl (by kernel_rfl) (by kernel_rfl) (by kernel_rfl) (fun _ _ _ h => h) (Or.inl ⟨by rfl, ?_⟩) (by assumption) ?_
  rotate_left
  · (intro w hSw; obtain ⟨s0, s1, s2, s3, s4, s5⟩ := hSw; (go_simp <;> with_reducible rfl))
  try simp only [Act.put, List.setIfInBounds_toArray, List.set_cons_zero, List.set_cons_succ]
  refine wpAnyH_take (i := 3) (oi := { dst := some 6, op := Op.fieldAddr 74 (Operand.tmp 5) 2, type := 0, pos := _, after := #[{ on := 2, ground := Ground.data }], guard := none }) (v := ?_) rfl (by kernel_rfl) (by kernel_rfl) (by kernel_rfl) (fun _ _ _ h => h) (Or.inl ⟨by rfl, ?_⟩) (by assumption) ?_
  rotate_left
  · (intro w hSw; obtain ⟨s0, s1, s2, s3, s4, s5⟩ := hSw; (go_simp <;> with_reducible rfl))
  try simp only [Act.put, List.setIfInBounds_toArray, List.set_cons_zero, List.set_cons_succ]
  refine wpAnyH_take (i := 4) (oi := { dst := some 7, op := Op.fieldAddr 50 (Operand.tmp 6) 0, type := 0, pos := _, after := #[{ on := 3, ground := Ground.data }], guard := none }) (v := ?_) rfl (by kernel_rfl) (by kernel_rfl) (by kernel_rfl) (fun _ _ _ h => h) (Or.inl ⟨by rfl, ?_⟩) (by assumption) ?_
  rotate_left
  · (intro w hSw; obtain ⟨s0, s1, s2, s3, s4, s5⟩ := hSw; (go_simp <;> with_reducible rfl))
  try simp only [Act.put, List.setIfInBounds_toArray, List.set_cons_zero, List.set_cons_succ]
  refine wpAnyH_take (i := 5) (oi := { dst := some 8, op := Op.load 3 (Operand.tmp 7), type := 3, pos := _, after := #[{ on := 4, ground := Ground.data }], guard := none }) (v := ?_) rfl (by kernel_rfl) (by kernel_rfl) (by kernel_rfl) (fun _ _ _ h => h) (Or.inl ⟨by rfl, ?_⟩) (by assumption) ?_
  rotate_left
  · (intro w hSw; obtain ⟨s0, s1, s2, s3, s4, s5⟩ := hSw; (go_simp <;> with_reducible rfl))
  try simp only [Act.put, List.setIfInBounds_toArray, List.set_cons_zero, List.set_cons_succ]
  refine wpAnyH_take (i := 9) (oi := { dst := some 12, op := Op.binOp BinOp.sub 3 (Operand.tmp 8) (Operand.tmp 11) 3, type := 3, pos := _, after := #[{ on := 5, ground := Ground.data }, { on := 8, ground := Ground.data }], guard := none }) (v := ?_) rfl (by kernel_rfl) (by kernel_rfl) (by kernel_rfl) (fun _ _ _ h => h) (Or.inl ⟨by rfl, ?_⟩) (by assumption) ?_
  rotate_left
  · (intro w hSw; obtain ⟨s0, s1, s2, s3, s4, s5⟩ := hSw; (go_simp <;> with_reducible rfl))
  try simp only [Act.put, List.setIfInBounds_toArray, List.set_cons_zero, List.set_cons_succ]
  refine wpAnyH_take (i := 10) (oi := { dst := some 13, op := Op.call { callee := Callee.builtin Builtin.max, args := #[Operand.const (Value.int IntKind.i64 0), Operand.tmp 12], argTypes := #[3, 3] }, type := 3, pos := _, after := #[{ on := 9, ground := Ground.data }], guard := none }) (v := ?_) rfl (by kernel_rfl) (by kernel_rfl) (by kernel_rfl) (fun _ _ _ h => h) (Or.inl ⟨by rfl, ?_⟩) (by assumption) ?_
  rotate_left
  · (intro w hSw; obtain ⟨s0, s1, s2, s3, s4, s5⟩ := hSw; (go_simp <;> with_reducible rfl))
  try simp only [Act.put, List.setIfInBounds_toArray, List.set_cons_zero, List.set_cons_succ]
  refine wpAnyH_take (i := 11) (oi := { dst := some 2, op := Op.assign (Operand.tmp 13), type := 3, pos := _, after := #[{ on := 10, ground := Ground.data }, { on := 1, ground := Ground.chain }, { on := 0, ground := Ground.phase }, { on := 1, ground := Ground.phase }, { on := 2, ground := Ground.phase }, { on := 3, ground := Ground.phase }, { on := 4, ground := Ground.phase }, { on := 5, ground := Ground.phase }, { on := 6, ground := Ground.phase }, { on := 7, ground := Ground.phase }, { on := 8, ground := Ground.phase }, { on := 9, ground := Ground.phase }, { on := 10, ground := Ground.phase }], guard := none }) (v := ?_) rfl (by kernel_rfl) (by kernel_rfl) (by kernel_rfl) (fun _ _ _ h => h) (Or.inl ⟨by rfl, ?_⟩) (by assumption) ?_
  rotate_left
  · (intro w hSw; obtain ⟨s0, s1, s2, s3, s4, s5⟩ := hSw; (go_simp <;> with_reducible rfl))
  try simp only [Act.put, List.setIfInBounds_toArray, List.set_cons_zero, List.set_cons_succ]
  refine wpAnyH_done (by kernel_rfl) ?_ _
  -- @END1
  go_wp2_with fail
  go_ret
  exact ⟨ret_int H.out.symm, hG3⟩
set_option maxRecDepth 100000 in
set_option maxHeartbeats 2000000 in
theorem lateCents_c (x : De) (m : Int) (w : World) (hx : deE x = 0) (h0 : 0 ≤ m) (h1 : m ≤ 100000000) :
    Calls Try.prog 39 #[.agg (deC x), .int .i64 m] w fun e w' => e = .returned (.int .i64 (lcN x m)) ∧ G w w' none := by
  obtain ⟨-, -, -, d4, d5, d6, -⟩ := deE_ok hx
  obtain ⟨a0, a1, a2, a3, a4, a5, a6⟩ := x
  have H : Hid (lcN ⟨a0, a1, a2, a3, a4, a5, a6⟩ m = if m ≤ a3 then 0 else min (a4 * ((m + 60 - 1) / 60)) (a5 * ((m + 1440 - 1) / 1440))) := Lib.hid rfl
  dsimp only at d4 d5 d6
  generalize lcN ⟨a0, a1, a2, a3, a4, a5, a6⟩ m = E at H ⊢
  clear hx
  have hH := Bk.new w 42 #[.int .i64 a0, .int .i64 a1, .int .i64 a2, .int .i64 a3, .int .i64 a4, .int .i64 a5, .int .i64 a6]
  have hG := (G.refl w none).alloc (.cells #[.int .i64 a0, .int .i64 a1, .int .i64 a2, .int .i64 a3, .int .i64 a4, .int .i64 a5, .int .i64 a6] 42)
  rw [show deC ⟨a0, a1, a2, a3, a4, a5, a6⟩ = #[.int .i64 a0, .int .i64 a1, .int .i64 a2, .int .i64 a3, .int .i64 a4, .int .i64 a5, .int .i64 a6] from rfl]
  go_enter Try.func39, Try.ntmps39
  go_upto_region 1 with fail
  generalize w.alloc (.cells #[.int .i64 a0, .int .i64 a1, .int .i64 a2, .int .i64 a3, .int .i64 a4, .int .i64 a5, .int .i64 a6] 42) = w2 at hG hH ⊢
  have c3 : w2.cell? ⟨w.heap.size, 3, none⟩ = some (.int .i64 a3) := hH.cell 3
  by_cases k1 : m ≤ a3
  · have HX := Lib.hid (H.out.trans (if_pos k1))
    go_wp2_with fail
    go_ret
    exact ⟨ret_int HX.out.symm, hG⟩
  · have HX := Lib.hid (H.out.trans (if_neg k1))
    have HB1 := Lib.hid (fun w => begunP_c m 60 w h0 (by omega) (by omega) (by omega))
    have HB2 := Lib.hid (fun w => begunP_c m 1440 w h0 (by omega) (by omega) (by omega))
    obtain ⟨q1, hq1⟩ : ∃ q, (m + 60 - 1) / 60 = q := ⟨_, rfl⟩
    obtain ⟨q2, hq2⟩ : ∃ q, (m + 1440 - 1) / 1440 = q := ⟨_, rfl⟩
    have b1 : 0 ≤ q1 ∧ q1 ≤ 100000000 := by omega
    have b2 : 0 ≤ q2 ∧ q2 ≤ 100000000 := by omega
    rw [hq1] at HX HB1
    rw [hq2] at HX HB2
    have p1 : 0 ≤ a4 * q1 := Int.mul_nonneg d5.1 b1.1
    have p2 : a4 * q1 ≤ 1000000 * 100000000 := Int.mul_le_mul d5.2 b1.2 b1.1 (by omega)
    have p3 : 0 ≤ a5 * q2 := Int.mul_nonneg d6.1 b2.1
    have p4 : a5 * q2 ≤ 1000000 * 100000000 := Int.mul_le_mul d6.2 b2.2 b2.1 (by omega)
    obtain ⟨P1, hP1⟩ : ∃ q, a4 * q1 = q := ⟨_, rfl⟩
    obtain ⟨P2, hP2⟩ : ∃ q, a5 * q2 = q := ⟨_, rfl⟩
    rw [hP1] at HX p1 p2
    rw [hP2] at HX p3 p4
    have hw1 : IntKind.i64.wrap (a4 * q1) = P1 := by rw [IntKind.wrap_i64]; omega
    have hw2 : IntKind.i64.wrap (a5 * q2) = P2 := by rw [IntKind.wrap_i64]; omega
    clear hP1 hP2 hq1 hq2 H
    go_upto_region 3 with fail
    have hH2 := hH.quiet ((G.refl w2 none).drew)
    have hG2 := hG.drew
    -- @REGION2
    refine wp_region_held_drew (S := (fun w' => w'.cell? ⟨w.heap.size, 0, none⟩ = some (.int .i64 a0) ∧ w'.cell? ⟨w.heap.size, 1, none⟩ = some (.int .i64 a1) ∧ w'.cell? ⟨w.heap.size, 2, none⟩ = some (.int .i64 a2) ∧ w'.cell? ⟨w.heap.size, 3, none⟩ = some (.int .i64 a3) ∧ w'.cell? ⟨w.heap.size, 4, none⟩ = some (.int .i64 a4) ∧ w'.cell? ⟨w.heap.size, 5, none⟩ = some (.int .i64 a5) ∧ w'.cell? ⟨w.heap.size, 6, none⟩ = some (.int .i64 a6))) (by kernel_rfl) ?_ (fun hHeld => ?_)
    · exact ⟨hH2.cell 0, hH2.cell 1, hH2.cell 2, hH2.cell 3, hH2.cell 4, hH2.cell 5, hH2.cell 6⟩
    refine wpAnyH_take (i := 0) (oi := { dst := some 9, op := Op.fieldAddr 42 (Operand.tmp 2) 4, type := 0, pos := _, after := #[], guard := none }) (v := ?_) rfl (by kernel_rfl) (by kernel_rfl) (by kernel_rfl) (fun _ _ _ h => h) (Or.inl ⟨by rfl, ?_⟩) (by assumption) ?_
    rotate_left
    · (intro w hSw; obtain ⟨s0, s1, s2, s3, s4, s5, s6⟩ := hSw; (go_simp <;> with_reducible rfl))
    try simp only [Act.put, List.setIfInBounds_toArray, List.set_cons_zero, List.set_cons_succ]
    refine wpAnyH_take (i := 1) (oi := { dst := some 10, op := Op.load 3 (Operand.tmp 9), type := 3, pos := _, after := #[{ on := 0, ground := Ground.data }], guard := none }) (v := ?_) rfl (by kernel_rfl) (by kernel_rfl) (by kernel_rfl) (fun _ _ _ h => h) (Or.inl ⟨by rfl, ?_⟩) (by assumption) ?_
    rotate_left
    · (intro w hSw; obtain ⟨s0, s1, s2, s3, s4, s5, s6⟩ := hSw; (go_simp <;> with_reducible rfl))
    try simp only [Act.put, List.setIfInBounds_toArray, List.set_cons_zero, List.set_cons_succ]
    refine wpAnyH_take (i := 2) (oi := { dst := some 11, op := Op.move (Operand.tmp 1), type := 3, pos := _, after := #[], guard := none }) (v := ?_) rfl (by kernel_rfl) (by kernel_rfl) (by kernel_rfl) (fun _ _ _ h => h) (Or.inl ⟨by rfl, ?_⟩) (by assumption) ?_
    rotate_left
    · (intro w hSw; obtain ⟨s0, s1, s2, s3, s4, s5, s6⟩ := hSw; (go_simp <;> with_reducible rfl))
    try simp only [Act.put, List.setIfInBounds_toArray, List.set_cons_zero, List.set_cons_succ]
    refine wpAnyH_take (i := 5) (oi := { dst := some 14, op := Op.fieldAddr 42 (Operand.tmp 2) 5, type := 0, pos := _, after := #[], guard := none }) (v := ?_) rfl (by kernel_rfl) (by kernel_rfl) (by kernel_rfl) (fun _ _ _ h => h) (Or.inl ⟨by rfl, ?_⟩) (by assumption) ?_
    rotate_left
    · (intro w hSw; obtain ⟨s0, s1, s2, s3, s4, s5, s6⟩ := hSw; (go_simp <;> with_reducible rfl))
    try simp only [Act.put, List.setIfInBounds_toArray, List.set_cons_zero, List.set_cons_succ]
    refine wpAnyH_take (i := 6) (oi := { dst := some 15, op := Op.load 3 (Operand.tmp 14), type := 3, pos := _, after := #[{ on := 5, ground := Ground.data }], guard := none }) (v := ?_) rfl (by kernel_rfl) (by kernel_rfl) (by kernel_rfl) (fun _ _ _ h => h) (Or.inl ⟨by rfl, ?_⟩) (by assumption) ?_
    rotate_left
    · (intro w hSw; obtain ⟨s0, s1, s2, s3, s4, s5, s6⟩ := hSw; (go_simp <;> with_reducible rfl))
    try simp only [Act.put, List.setIfInBounds_toArray, List.set_cons_zero, List.set_cons_succ]
    refine wpAnyH_take (i := 7) (oi := { dst := some 16, op := Op.move (Operand.tmp 1), type := 3, pos := _, after := #[], guard := none }) (v := ?_) rfl (by kernel_rfl) (by kernel_rfl) (by kernel_rfl) (fun _ _ _ h => h) (Or.inl ⟨by rfl, ?_⟩) (by assumption) ?_
    rotate_left
    · (intro w hSw; obtain ⟨s0, s1, s2, s3, s4, s5, s6⟩ := hSw; (go_simp <;> with_reducible rfl))
    try simp only [Act.put, List.setIfInBounds_toArray, List.set_cons_zero, List.set_cons_succ]
    refine wpAnyH_ready (rs := [3]) (by kernel_rfl) (by simp) ?_
    refine AllReadyH.cons (o := { dst := some 12, op := Op.call { callee := Callee.value (Operand.func 50), args := #[Operand.tmp 11, Operand.const (Value.int IntKind.i64 60)], argTypes := #[3, 3] }, type := 3, pos := _, after := #[{ on := 2, ground := Ground.data }], guard := none }) rfl (fun K hK => ?_) AllReadyH.nil
    go_simp
    refine (HB1.out _).mono ?_
    rintro e w3 ⟨rfl, rfl⟩
    refine hK.out _ _ ?_ (fun hHeld => ?_)
    · exact ⟨hH2.cell 0, hH2.cell 1, hH2.cell 2, hH2.cell 3, hH2.cell 4, hH2.cell 5, hH2.cell 6⟩
    clear hK K
    try simp only [Act.put, List.setIfInBounds_toArray, List.set_cons_zero, List.set_cons_succ]
    refine wpAnyH_take (i := 4) (oi := { dst := some 13, op := Op.binOp BinOp.mul 3 (Operand.tmp 10) (Operand.tmp 12) 3, type := 3, pos := _, after := #[{ on := 1, ground := Ground.data }, { on := 3, ground := Ground.data }], guard := none }) (v := ?_) rfl (by kernel_rfl) (by kernel_rfl) (by kernel_rfl) (fun _ _ _ h => h) (Or.inl ⟨by rfl, ?_⟩) (by assumption) ?_
    rotate_left
    · (intro w hSw; obtain ⟨s0, s1, s2, s3, s4, s5, s6⟩ := hSw; (go_simp <;> with_reducible rfl))
    try simp only [Act.put, List.setIfInBounds_toArray, List.set_cons_zero, List.set_cons_succ]
    refine wpAnyH_ready (rs := [8]) (by kernel_rfl) (by simp) ?_
    refine AllReadyH.cons (o := { dst := some 17, op := Op.call { callee := Callee.value (Operand.func 50), args := #[Operand.tmp 16, Operand.const (Value.int IntKind.i64 1440)], argTypes := #[3, 3] }, type := 3, pos := _, after := #[{ on := 7, ground := Ground.data }, { on := 3, ground := Ground.chain }], guard := none }) rfl (fun K hK => ?_) AllReadyH.nil
    go_simp
    refine (HB2.out _).mono ?_
    rintro e w3 ⟨rfl, rfl⟩
    refine hK.out _ _ ?_ (fun hHeld => ?_)
    · exact ⟨hH2.cell 0, hH2.cell 1, hH2.cell 2, hH2.cell 3, hH2.cell 4, hH2.cell 5, hH2.cell 6⟩
    clear hK K
    try simp only [Act.put, List.setIfInBounds_toArray, List.set_cons_zero, List.set_cons_succ]
    refine wpAnyH_take (i := 9) (oi := { dst := some 18, op := Op.binOp BinOp.mul 3 (Operand.tmp 15) (Operand.tmp 17) 3, type := 3, pos := _, after := #[{ on := 6, ground := Ground.data }, { on := 8, ground := Ground.data }], guard := none }) (v := ?_) rfl (by kernel_rfl) (by kernel_rfl) (by kernel_rfl) (fun _ _ _ h => h) (Or.inl ⟨by rfl, ?_⟩) (by assumption) ?_
    rotate_left
    · (intro w hSw; obtain ⟨s0, s1, s2, s3, s4, s5, s6⟩ := hSw; (go_simp <;> with_reducible rfl))
    try simp only [Act.put, List.setIfInBounds_toArray, List.set_cons_zero, List.set_cons_succ]
    refine wpAnyH_take (i := 10) (oi := { dst := some 19, op := Op.call { callee := Callee.builtin Builtin.min, args := #[Operand.tmp 13, Operand.tmp 18], argTypes := #[3, 3] }, type := 3, pos := _, after := #[{ on := 4, ground := Ground.data }, { on := 9, ground := Ground.data }], guard := none }) (v := ?_) rfl (by kernel_rfl) (by kernel_rfl) (by kernel_rfl) (fun _ _ _ h => h) (Or.inl ⟨by rfl, ?_⟩) (by assumption) ?_
    rotate_left
    · (intro w hSw; obtain ⟨s0, s1, s2, s3, s4, s5, s6⟩ := hSw; (go_simp <;> with_reducible rfl))
    try simp only [Act.put, List.setIfInBounds_toArray, List.set_cons_zero, List.set_cons_succ]
    refine wpAnyH_take (i := 11) (oi := { dst := some 4, op := Op.assign (Operand.tmp 19), type := 3, pos := _, after := #[{ on := 10, ground := Ground.data }, { on := 8, ground := Ground.chain }, { on := 0, ground := Ground.phase }, { on := 1, ground := Ground.phase }, { on := 2, ground := Ground.phase }, { on := 3, ground := Ground.phase }, { on := 4, ground := Ground.phase }, { on := 5, ground := Ground.phase }, { on := 6, ground := Ground.phase }, { on := 7, ground := Ground.phase }, { on := 8, ground := Ground.phase }, { on := 9, ground := Ground.phase }, { on := 10, ground := Ground.phase }], guard := none }) (v := ?_) rfl (by kernel_rfl) (by kernel_rfl) (by kernel_rfl) (fun _ _ _ h => h) (Or.inl ⟨by rfl, ?_⟩) (by assumption) ?_
    rotate_left
    · (intro w hSw; obtain ⟨s0, s1, s2, s3, s4, s5, s6⟩ := hSw; (go_simp <;> with_reducible rfl))
    try simp only [Act.put, List.setIfInBounds_toArray, List.set_cons_zero, List.set_cons_succ]
    refine wpAnyH_done (by kernel_rfl) ?_ _
    -- @END2
    go_wp2_with fail
    go_ret
    exact ⟨ret_int HX.out.symm, hG2⟩
end Go.Proofs.Ytbddcbbjmgepnaa

/- Lines: CheckLines, LinesFault, sumOf, Total, SumOf. Written by genlin.py. -/
namespace Go.Proofs.Ytbddcbbjmgepnaa
open Go.RowKit

/-- A line: kind, key, cents. -/
abbrev Li := Int × ByteArray × Int
def liC (x : Li) : Array Value := #[.int .i64 x.1, .string x.2.1, .int .i64 x.2.2]
theorem liC_sz (x : Li) : (liC x).size = 3 := rfl
theorem li_info (x : Li) : (Try.prog.info? 84).map (·.size) = some (liC x).size := (by kernel_rfl : (Try.prog.info? 84).map (·.size) = some 3)
def LiOk (l : List Li) : Prop := ∀ x ∈ l, Small x.2.1
def liErr : List Li → Int
  | [] => 0
  | x :: r => if inB x.1 1 6 = false then 4 else if keyB x.2.1 = false then 5 else if inB x.2.2 (-1000000000) 1000000000 = false then 1 else liErr r
def liE (l : List Li) : Int := if 1000 < l.length then 2 else liErr l
/-- What the lines cost in all. -/
def liS (l : List Li) : Int := (l.map fun x => x.2.2).sum
def LiB (l : List Li) : Prop := ∀ x ∈ l, -1000000000 ≤ x.2.2 ∧ x.2.2 ≤ 1000000000
theorem liErr_b : ∀ (l : List Li), liErr l = 0 → LiB l
  | [], _, p, hp => by cases hp
  | x :: r, h, p, hp => by
    unfold liErr at h
    split at h
    · omega
    · split at h
      · omega
      · split at h
        · omega
        · rename_i h3
          rcases List.mem_cons.1 hp with rfl | hp
          · simpa [inB] using h3
          · exact liErr_b r h p hp
theorem liE_ok {l : List Li} (h : liE l = 0) : LiB l ∧ l.length ≤ 1000 := by
  unfold liE at h
  split at h
  · omega
  · exact ⟨liErr_b l h, by omega⟩
theorem liS_step (l : List Li) (k : Nat) (p : Li) (hp : l[k]? = some p) : liS (l.take (k + 1)) = liS (l.take k) + p.2.2 := by
  unfold liS
  rw [List.take_add_one, hp]
  simp
theorem liS_bnd (l : List Li) (hb : LiB l) : ∀ k, k ≤ l.length → -(1000000000 * (k : Int)) ≤ liS (l.take k) ∧ liS (l.take k) ≤ 1000000000 * (k : Int)
  | 0, _ => by simp [liS]
  | k + 1, h => by
    obtain ⟨p, hp⟩ : ∃ p, l[k]? = some p := ⟨_, List.getElem?_eq_getElem (by omega)⟩
    have h1 := liS_bnd l hb k (by omega)
    have h2 := hb p (List.mem_of_getElem? hp)
    rw [liS_step l k p hp]
    omega
def LiRel (w : World) (l : List Li) (i : Value) (wr : World) : Prop :=
  ∃ k : Nat, k ≤ l.length ∧ i = .int .i64 k ∧ liErr l = liErr (l.drop k) ∧ G w wr none
def LsuRel (w : World) (l : List Li) (s i : Value) (wr : World) : Prop :=
  ∃ k : Nat, k ≤ l.length ∧ i = .int .i64 k ∧ s = .int .i64 (liS (l.take k)) ∧ G w wr none
theorem liRow {W w : World} {bb bo n cap : Nat} {l : List Li} (h : RdR W 3 liC (.slice (some ⟨bb, bo, none⟩) n cap) l) (hG : G W w none) {k : Nat} {p : Li} (hp : l[k]? = some p) :
    ∀ j v, (liC p).toList[j]? = some v → w.cell? ((⟨bb, bo + k * 3, none⟩ : Addr).add j) = some v := fun j v hv => by
  rw [add_at]
  exact RdR.cell liC_sz h hG hp j v hv
theorem isLineKind_c (k : Int) (w : World) : Calls Try.prog 61 #[.int .i64 k] w fun e w' => e = .returned (.bool (inB k 1 6)) ∧ w = w' := by
  go_enter Try.func61, Try.ntmps61
  go_wp2_with fail
  refine (within_c _ _ _ _).mono ?_; rintro e w' ⟨rfl, rfl⟩
  go_wp2_with fail
  go_ret
  exact ⟨rfl, rfl⟩
set_option maxRecDepth 100000 in
set_option maxHeartbeats 4000000 in
theorem checkLines_c (v : Value) (l : List Li) (w : World) (hr : RdR w 3 liC v l) (hl : LiOk l) (hn : l.length ≤ 2000) :
    Calls Try.prog 44 #[v] w fun e w' => e = .returned (.int .i64 (liE l)) ∧ G w w' none := by
  have HR := Lib.hid hr
  obtain ⟨a, cap, rfl, hcap, hm⟩ := RdR.form hr
  clear hr
  by_cases h30 : 1000 < l.length
  · have H := Lib.hid (show liE l = 2 by simp [liE, h30])
    go_enter Try.func44, Try.ntmps44
    go_wp2_with fail
    go_ret
    exact ⟨by rw [H.out]; rfl, G.refl _ _⟩
  · have H := Lib.hid (show liE l = liErr l by simp [liE, h30])
    go_enter Try.func44, Try.ntmps44
    go_wp2_with fail
    go_loopw [10] (LiRel w l) (fun i _ => l.length - (intOf i).toNat)
    case atStart => exact ⟨0, by omega, rfl, rfl, G.refl _ _⟩
    case round =>
      obtain ⟨k, hkl, rfl, heq, hG⟩ := hrel
      have HE := Lib.hid heq
      clear heq
      by_cases hk : k < l.length
      · obtain ⟨p, hp⟩ : ∃ p, l[k]? = some p := ⟨_, List.getElem?_eq_getElem hk⟩
        have hdrop : l.drop k = p :: l.drop (k + 1) := by rw [List.drop_eq_getElem_cons hk, ← (List.getElem?_eq_some_iff.1 hp).2]
        have hs1 := hl p (List.mem_of_getElem? hp)
        obtain ⟨bb, bo, rfl, -, -⟩ := RdR.elem liC_sz HR.out hG hp
        have HW := Lib.hid (liRow HR.out hG hp)
        unfold Small at hs1
        have HS : Hid (liErr (l.drop k) = if inB p.1 1 6 = false then 4 else if keyB p.2.1 = false then 5 else if inB p.2.2 (-1000000000) 1000000000 = false then 1 else liErr (l.drop (k + 1))) := Lib.hid (by rw [hdrop]; rfl)
        have HK := Lib.hid hk
        have hB5 : Bk (wr.alloc (.cells #[.int .i64 p.1, .string p.2.1, .int .i64 p.2.2] 84)) wr.heap.size 84 (liC p) := Bk.new _ _ _
        have hG5 := hG.alloc (.cells #[.int .i64 p.1, .string p.2.1, .int .i64 p.2.2] 84)
        clear hdrop hp hG
        go_wp2_with (refine wpList_load_at rfl 84 _ rfl ⟨bb, bo + k * 3, none⟩ rfl #[.int .i64 p.1, .string p.2.1, .int .i64 p.2.2] _ HW.out Try.underlying84 rfl (li_info p) ?_)
        generalize wr.alloc (.cells #[.int .i64 p.1, .string p.2.1, .int .i64 p.2.2] 84) = w5 at hB5 hG5 ⊢
        generalize wr.heap.size = g at hB5 ⊢
        have c0 : w5.cell? ⟨g, 0, none⟩ = some (.int .i64 p.1) := hB5.cell 0
        have c1 : w5.cell? ⟨g, 1, none⟩ = some (.string p.2.1) := hB5.cell 1
        have c2 : w5.cell? ⟨g, 2, none⟩ = some (.int .i64 p.2.2) := hB5.cell 2
        refine (isLineKind_c _ _).mono ?_; rintro e w' ⟨rfl, rfl⟩
        cases k0 : inB p.1 1 6 with
        | false =>
          have HF : Hid (liE l = 4) := Lib.hid (by rw [H.out, HE.out, HS.out, if_pos k0])
          clear k0
          go_wp2_with fail
          go_ret
          exact ⟨by rw [HF.out]; rfl, hG5⟩
        | true =>
          have K0 := Lib.hid k0
          clear k0
          go_wp2_with fail
          refine (isKey_c _ _ hs1).mono ?_; rintro e w' ⟨rfl, rfl⟩
          cases k1 : keyB p.2.1 with
          | false =>
            have HF : Hid (liE l = 5) := Lib.hid (by rw [H.out, HE.out, HS.out, if_neg (by simp [K0.out]), if_pos k1])
            clear k1
            go_wp2_with fail
            go_ret
            exact ⟨by rw [HF.out]; rfl, hG5⟩
          | true =>
            have K1 := Lib.hid k1
            clear k1
            go_wp2_with fail
            refine (within_c _ _ _ _).mono ?_; rintro e w' ⟨rfl, rfl⟩
            cases k2 : inB p.2.2 (-1000000000) 1000000000 with
            | false =>
              have HF : Hid (liE l = 1) := Lib.hid (by rw [H.out, HE.out, HS.out, if_neg (by simp [K0.out]), if_neg (by simp [K1.out]), if_pos k2])
              clear k2
              go_wp2_with fail
              go_ret
              exact ⟨by rw [HF.out]; rfl, hG5⟩
            | true =>
              have HF : Hid (liErr l = liErr (l.drop (k + 1))) := Lib.hid (by rw [HE.out, HS.out, if_neg (by simp [K0.out]), if_neg (by simp [K1.out]), if_neg (by simp [k2])])
              clear k2
              go_wp2_with fail
              go_roundw
              case rel => exact ⟨k + 1, by omega, by go_num, HF.out, hG5⟩
              case measure => have := HK.out; simp [intOf]; omega
      · obtain rfl : k = l.length := by omega
        have HE2 : Hid (liE l = 0) := Lib.hid (by rw [H.out, HE.out, List.drop_length]; rfl)
        go_wp2_with fail
        go_ret
        exact ⟨by rw [HE2.out]; rfl, hG⟩
set_option maxRecDepth 100000 in
set_option maxHeartbeats 2000000 in
theorem sumOf_c (v : Value) (l : List Li) (w : World) (hr : RdR w 3 liC v l) (hb : LiB l) (hn : l.length ≤ 1000) :
    Calls Try.prog 45 #[v] w fun e w' => e = .returned (.int .i64 (liS l)) ∧ G w w' none := by
  have HR := Lib.hid hr
  obtain ⟨a, cap, rfl, hcap, hm⟩ := RdR.form hr
  clear hr
  go_enter Try.func45, Try.ntmps45
  go_wp2_with fail
  go_loopw [3, 8] (LsuRel w l) (fun _ i _ => l.length - (intOf i).toNat)
  case atStart => exact ⟨0, by omega, rfl, rfl, G.refl _ _⟩
  case round =>
    obtain ⟨k, hkl, rfl, rfl, hG⟩ := hrel
    have hbk := liS_bnd l hb k (by omega)
    by_cases hk : k < l.length
    · obtain ⟨p, hp⟩ : ∃ p, l[k]? = some p := ⟨_, List.getElem?_eq_getElem hk⟩
      have hst := liS_step l k p hp
      have hpb := hb p (List.mem_of_getElem? hp)
      obtain ⟨bb, bo, rfl, -, -⟩ := RdR.elem liC_sz HR.out hG hp
      have HW := Lib.hid (liRow HR.out hG hp)
      have HK := Lib.hid hk
      have hG5 := hG.alloc (.cells #[.int .i64 p.1, .string p.2.1, .int .i64 p.2.2] 84)
      obtain ⟨S, hS⟩ : ∃ S, liS (l.take k) = S := ⟨_, rfl⟩
      rw [hS] at hst hbk ⊢
      have HST := Lib.hid hst
      have hw : IntKind.i64.wrap (S + p.2.2) = S + p.2.2 := by rw [IntKind.wrap_i64]; omega
      clear hp hG hS hst
      go_wp2_with (refine wpList_load_at rfl 84 _ rfl ⟨bb, bo + k * 3, none⟩ rfl #[.int .i64 p.1, .string p.2.1, .int .i64 p.2.2] _ HW.out Try.underlying84 rfl (li_info p) ?_)
      go_roundw
      case rel => exact ⟨k + 1, by omega, by go_num, by rw [HST.out], hG5⟩
      case measure => have := HK.out; simp [intOf]; omega
    · obtain rfl : k = l.length := by omega
      have HF : Hid (liS (l.take l.length) = liS l) := Lib.hid (by rw [List.take_length])
      go_wp2_with fail
      go_ret
      exact ⟨ret_int HF.out, hG⟩
def toN (l : List Li) : Int := if liE l = 0 then liS l else 0
set_option maxRecDepth 100000 in
set_option maxHeartbeats 2000000 in
theorem total_c (v : Value) (l : List Li) (w : World) (hr : RdR w 3 liC v l) (hl : LiOk l) (hn : l.length ≤ 2000) :
    Calls Try.prog 15 #[v] w fun e w' => e = .returned (.tuple #[.int .i64 (toN l), .int .i64 (liE l)]) ∧ G w w' none := by
  go_enter Try.func15, Try.ntmps15
  go_wp2_with fail
  refine (checkLines_c v l _ hr hl hn).mono ?_; rintro e w1 ⟨rfl, hG1⟩
  by_cases h : liE l = 0
  · obtain ⟨h1, h2⟩ := liE_ok h
    have HF : Hid (toN l = liS l) := Lib.hid (if_pos h)
    have HE := Lib.hid h
    rw [h]
    clear h
    go_wp2_with fail
    refine (sumOf_c v l _ (hr.quiet hG1) h1 h2).mono ?_; rintro e w2 ⟨rfl, hG2⟩
    go_wp2_with fail
    go_ret2
    exact ⟨by rw [HF.out, HE.out]; rfl, hG1.trans hG2⟩
  · have HF : Hid (toN l = 0) := Lib.hid (if_neg h)
    have h' : (liE l != 0) = true := by simpa using h
    clear h
    go_wp2_with fail
    go_ret2
    exact ⟨by rw [HF.out]; rfl, hG1⟩
end Go.Proofs.Ytbddcbbjmgepnaa

/- What is due: distanceCents, checkBill. The drawn region is written by gendis.py. -/
namespace Go.Proofs.Ytbddcbbjmgepnaa
open Go.RowKit

/-- What is due for the kilometres that are not free. -/
def dcN (x : De) (h : Hh) (l : List Lg) : Int := x.km * max 0 (kmS l - x.free * tN h.2.2.1 h.2.2.2)
theorem tN_bnd {a z : Int} (e : tE a z = 0) : 1 ≤ tN a z ∧ tN a z ≤ 121 := by
  have h : 0 ≤ a ∧ a < z ∧ z ≤ 5761439 ∧ z - a ≤ 172800 := by
    unfold tE at e
    split at e
    · split at e
      · cases e
      · omega
    · cases e
  unfold tN
  rw [if_pos e]
  omega
theorem km_bnd {h : Hh} {l : List Lg} (e : hiE h l = 0) (ho : ioB l = false) : (∀ x ∈ l, 0 ≤ kmL x ∧ kmL x ≤ 999999) ∧ 0 ≤ kmS l ∧ kmS l ≤ 20000000 := by
  have h1 : ∀ x ∈ l, 0 ≤ kmL x ∧ kmL x ≤ 999999 := fun x _ => by unfold kmL; omega
  have h2 := sum_bnd kmL 999999 l h1
  have h3 := (hiE_pos0 e).2
  exact ⟨h1, h2.1, by have := h2.2; unfold kmS; omega⟩
theorem mi_bnd {h : Hh} {l : List Lg} (e : hiE h l = 0) (ho : ioB l = false) : (∀ x ∈ l, 0 ≤ miL x ∧ miL x ≤ 8) ∧ 0 ≤ miS l ∧ miS l ≤ 160 := by
  have h1 : ∀ x ∈ l, 0 ≤ miL x ∧ miL x ≤ 8 := fun x hx => by
    obtain ⟨q1, q2⟩ := ended_ok e ho x hx
    have := (rgE_ok q1).2.2.2
    have := (rgE_ok q2).2.2.2
    unfold miL
    omega
  have h2 := sum_bnd miL 8 l h1
  have h3 := (hiE_pos0 e).2
  exact ⟨h1, h2.1, by have := h2.2; unfold miS; omega⟩
theorem kmSum_c (h : Hh) (v : Value) (l : List Lg) (w : World) (hr : RdR w 9 lgC v l) (e : hiE h l = 0) (ho : ioB l = false) :
    Calls Try.prog 42 #[.agg (hiC h v), .func (.func 60) #[] #[]] w fun e w' => e = .returned (.int .i64 (kmS l)) ∧ G w w' none :=
  hsum_c 60 kmL 999999 h v l w cf_km (fun x hx w => by
    obtain ⟨q1, q2⟩ := ended_ok e ho x hx
    exact kmOf_c x w (rgE_ok q1).2.2.1 (rgE_ok q2).2.2.1) (km_bnd e ho).1 (by omega) (by omega) hr (by have := (hiE_pos0 e).2; omega)
theorem miSum_c (h : Hh) (v : Value) (l : List Lg) (w : World) (hr : RdR w 9 lgC v l) (e : hiE h l = 0) (ho : ioB l = false) :
    Calls Try.prog 42 #[.agg (hiC h v), .func (.func 43) #[] #[]] w fun e w' => e = .returned (.int .i64 (miS l)) ∧ G w w' none :=
  hsum_c 43 miL 8 h v l w cf_mi (fun x hx w => by
    obtain ⟨q1, q2⟩ := ended_ok e ho x hx
    exact missingOf_c x w (rgE_ok q1).2.2.2 (rgE_ok q2).2.2.2) (mi_bnd e ho).1 (by omega) (by omega) hr (by have := (hiE_pos0 e).2; omega)
set_option maxRecDepth 100000 in
set_option maxHeartbeats 2000000 in
theorem distanceCents_c (x : De) (h : Hh) (v : Value) (l : List Lg) (w : World) (hx : deE x = 0) (he : hiE h l = 0) (ho : ioB l = false) (hr : RdR w 9 lgC v l) (hb1 : bnd h.2.2.1) (hb2 : bnd h.2.2.2) :
    Calls Try.prog 41 #[.agg (deC x), .agg (hiC h v)] w fun e w' => e = .returned (.int .i64 (dcN x h l)) ∧ G w w' none := by
  obtain ⟨d0, d1, -⟩ := deE_ok hx
  obtain ⟨a0, a1, a2, a3, a4, a5, a6⟩ := x
  have H : Hid (dcN ⟨a0, a1, a2, a3, a4, a5, a6⟩ h l = a1 * max 0 (kmS l - a0 * tN h.2.2.1 h.2.2.2)) := Lib.hid rfl
  dsimp only at d0 d1
  generalize dcN ⟨a0, a1, a2, a3, a4, a5, a6⟩ h l = E at H ⊢
  have hte := (hiE_ls he).2
  have htn := tN_bnd hte
  have hkm := (km_bnd he ho).2
  have HKM := Lib.hid (fun w' (hr' : RdR w' 9 lgC v l) => kmSum_c h v l w' hr' he ho)
  have HDA := Lib.hid (fun w' => days_c h.2.2.1 h.2.2.2 w' hb1 hb2)
  rw [hte] at HDA
  obtain ⟨T, hT⟩ : ∃ T, tN h.2.2.1 h.2.2.2 = T := ⟨_, rfl⟩
  obtain ⟨S, hS⟩ : ∃ S, kmS l = S := ⟨_, rfl⟩
  rw [hT] at H HDA htn
  rw [hS] at H HKM hkm
  have p1 : 0 ≤ a0 * T := Int.mul_nonneg d0.1 (by omega)
  have p2 : a0 * T ≤ 10000 * 121 := Int.mul_le_mul d0.2 htn.2 (by omega) (by omega)
  obtain ⟨P, hP⟩ : ∃ P, a0 * T = P := ⟨_, rfl⟩
  have hw1 : IntKind.i64.wrap (a0 * T) = P := by rw [IntKind.wrap_i64]; omega
  have hw2 : IntKind.i64.wrap (S - P) = S - P := by rw [IntKind.wrap_i64]; omega
  rw [hP] at H p1 p2
  have q1 : 0 ≤ a1 * max 0 (S - P) := Int.mul_nonneg d1.1 (by omega)
  have q2 : a1 * max 0 (S - P) ≤ 100000 * 20000000 := Int.mul_le_mul d1.2 (by omega) (by omega) (by omega)
  have hw3 : IntKind.i64.wrap (a1 * max 0 (S - P)) = a1 * max 0 (S - P) := by rw [IntKind.wrap_i64]; omega
  clear hT hS hP hx he ho hte htn hkm q1 q2 p1 p2
  obtain ⟨a, cap, rfl, hcap, hm⟩ := RdR.form hr
  have hD := (Bk.new w 42 #[.int .i64 a0, .int .i64 a1, .int .i64 a2, .int .i64 a3, .int .i64 a4, .int .i64 a5, .int .i64 a6]).alloc (.cells (hiC h (.slice a l.length cap)) 46)
  have hH := Bk.newAt (w := w.alloc (.cells #[.int .i64 a0, .int .i64 a1, .int .i64 a2, .int .i64 a3, .int .i64 a4, .int .i64 a5, .int .i64 a6] 42)) (b := w.heap.size + 1) (by simp) 46 (hiC h (.slice a l.length cap))
  have hG := ((G.refl w none).alloc (.cells #[.int .i64 a0, .int .i64 a1, .int .i64 a2, .int .i64 a3, .int .i64 a4, .int .i64 a5, .int .i64 a6] 42)).alloc (.cells (hiC h (.slice a l.length cap)) 46)
  have hR := hr.quiet hG
  have HT := Lib.hid (hi_time h (.slice a l.length cap))
  clear hr
  rw [show deC ⟨a0, a1, a2, a3, a4, a5, a6⟩ = #[.int .i64 a0, .int .i64 a1, .int .i64 a2, .int .i64 a3, .int .i64 a4, .int .i64 a5, .int .i64 a6] from rfl]
  simp only [hiC] at hD hH hG hR HKM HT ⊢
  go_enter Try.func41, Try.ntmps41
  go_upto_region 1 with fail
  generalize (w.alloc (.cells #[.int .i64 a0, .int .i64 a1, .int .i64 a2, .int .i64 a3, .int .i64 a4, .int .i64 a5, .int .i64 a6] 42)).alloc (.cells #[.string h.1, .string h.2.1, .int .i64 h.2.2.1, .int .i64 h.2.2.2, .slice a l.length cap] 46) = w2 at hG hD hH hR ⊢
  go_wp2_with (refine wpList_load_at rfl 27 _ rfl ⟨w.heap.size + 1, 2, none⟩ rfl #[.int .i64 h.2.2.1, .int .i64 h.2.2.2] _ (hH.part 2 #[.int .i64 h.2.2.1, .int .i64 h.2.2.2] HT.out) Try.underlying27 rfl (wi_info _ _) ?_)
  refine (HDA.out _).mono ?_; rintro e w3 ⟨rfl, hG3⟩
  have hD3 := hD.quiet hG3
  have hH3 := hH.quiet hG3
  have hR3 := hR.quiet hG3
  have hG3 := hG.trans hG3
  clear hD hH hR hG
  go_upto_region 2 with fail
  have hD2 := hD3.quiet ((G.refl w3 none).drew)
  have hH2 := hH3.quiet ((G.refl w3 none).drew)
  have hR2 := hR3.quiet ((G.refl w3 none).drew)
  have hG2 := hG3.drew
  clear hD3 hH3 hR3 hG3
  -- @REGION1
  refine wp_region_held_drew (S := (fun w' => w'.cell? ⟨w.heap.size, 0, none⟩ = some (.int .i64 a0) ∧ w'.cell? ⟨w.heap.size, 1, none⟩ = some (.int .i64 a1) ∧ w'.cell? ⟨w.heap.size, 2, none⟩ = some (.int .i64 a2) ∧ w'.cell? ⟨w.heap.size, 3, none⟩ = some (.int .i64 a3) ∧ w'.cell? ⟨w.heap.size, 4, none⟩ = some (.int .i64 a4) ∧ w'.cell? ⟨w.heap.size, 5, none⟩ = some (.int .i64 a5) ∧ w'.cell? ⟨w.heap.size, 6, none⟩ = some (.int .i64 a6) ∧ w'.cell? ⟨w.heap.size + 1, 0, none⟩ = some (.string h.1) ∧ w'.cell? ⟨w.heap.size + 1, 1, none⟩ = some (.string h.2.1) ∧ w'.cell? ⟨w.heap.size + 1, 2, none⟩ = some (.int .i64 h.2.2.1) ∧ w'.cell? ⟨w.heap.size + 1, 3, none⟩ = some (.int .i64 h.2.2.2) ∧ w'.cell? ⟨w.heap.size + 1, 4, none⟩ = some (.slice a l.length cap))) (by kernel_rfl) ?_ (fun hHeld => ?_)
  · exact ⟨hD2.cell 0, hD2.cell 1, hD2.cell 2, hD2.cell 3, hD2.cell 4, hD2.cell 5, hD2.cell 6, hH2.cell 0, hH2.cell 1, hH2.cell 2, hH2.cell 3, hH2.cell 4⟩
  refine wpAnyH_take (i := 0) (oi := { dst := some 13, op := Op.fieldAddr 42 (Operand.tmp 2) 1, type := 0, pos := _, after := #[], guard := none }) (v := ?_) rfl (by kernel_rfl) (by kernel_rfl) (by kernel_rfl) (fun _ _ _ h => h) (Or.inl ⟨by rfl, ?_⟩) (by assumption) ?_
  rotate_left
  · (intro w hSw; obtain ⟨s0, s1, s2, s3, s4, s5, s6, s7, s8, s9, s10, s11⟩ := hSw; (go_simp <;> with_reducible rfl))
  try simp only [Act.put, List.setIfInBounds_toArray, List.set_cons_zero, List.set_cons_succ]
  refine wpAnyH_take (i := 1) (oi := { dst := some 14, op := Op.load 3 (Operand.tmp 13), type := 3, pos := _, after := #[{ on := 0, ground := Ground.data }], guard := none }) (v := ?_) rfl (by kernel_rfl) (by kernel_rfl) (by kernel_rfl) (fun _ _ _ h => h) (Or.inl ⟨by rfl, ?_⟩) (by assumption) ?_
  rotate_left
  · (intro w hSw; obtain ⟨s0, s1, s2, s3, s4, s5, s6, s7, s8, s9, s10, s11⟩ := hSw; (go_simp <;> with_reducible rfl))
  try simp only [Act.put, List.setIfInBounds_toArray, List.set_cons_zero, List.set_cons_succ]
  refine wpAnyH_take (i := 2) (oi := { dst := some 15, op := Op.load 46 (Operand.tmp 3), type := 46, pos := _, after := #[], guard := none }) (v := ?_) rfl (by kernel_rfl) (by kernel_rfl) (by kernel_rfl) (fun _ _ _ h => h) (Or.inl ⟨by rfl, ?_⟩) (by assumption) ?_
  rotate_left
  · (intro w hSw; obtain ⟨s0, s1, s2, s3, s4, s5, s6, s7, s8, s9, s10, s11⟩ := hSw; (go_simp <;> with_reducible rfl))
  try simp only [Act.put, List.setIfInBounds_toArray, List.set_cons_zero, List.set_cons_succ]
  refine wpAnyH_take (i := 4) (oi := { dst := some 17, op := Op.fieldAddr 42 (Operand.tmp 2) 0, type := 0, pos := _, after := #[], guard := none }) (v := ?_) rfl (by kernel_rfl) (by kernel_rfl) (by kernel_rfl) (fun _ _ _ h => h) (Or.inl ⟨by rfl, ?_⟩) (by assumption) ?_
  rotate_left
  · (intro w hSw; obtain ⟨s0, s1, s2, s3, s4, s5, s6, s7, s8, s9, s10, s11⟩ := hSw; (go_simp <;> with_reducible rfl))
  try simp only [Act.put, List.setIfInBounds_toArray, List.set_cons_zero, List.set_cons_succ]
  refine wpAnyH_take (i := 5) (oi := { dst := some 18, op := Op.load 3 (Operand.tmp 17), type := 3, pos := _, after := #[{ on := 4, ground := Ground.data }], guard := none }) (v := ?_) rfl (by kernel_rfl) (by kernel_rfl) (by kernel_rfl) (fun _ _ _ h => h) (Or.inl ⟨by rfl, ?_⟩) (by assumption) ?_
  rotate_left
  · (intro w hSw; obtain ⟨s0, s1, s2, s3, s4, s5, s6, s7, s8, s9, s10, s11⟩ := hSw; (go_simp <;> with_reducible rfl))
  try simp only [Act.put, List.setIfInBounds_toArray, List.set_cons_zero, List.set_cons_succ]
  refine wpAnyH_take (i := 6) (oi := { dst := some 19, op := Op.move (Operand.tmp 5), type := 3, pos := _, after := #[], guard := none }) (v := ?_) rfl (by kernel_rfl) (by kernel_rfl) (by kernel_rfl) (fun _ _ _ h => h) (Or.inl ⟨by rfl, ?_⟩) (by assumption) ?_
  rotate_left
  · (intro w hSw; obtain ⟨s0, s1, s2, s3, s4, s5, s6, s7, s8, s9, s10, s11⟩ := hSw; (go_simp <;> with_reducible rfl))
  try simp only [Act.put, List.setIfInBounds_toArray, List.set_cons_zero, List.set_cons_succ]
  refine wpAnyH_take (i := 7) (oi := { dst := some 20, op := Op.binOp BinOp.mul 3 (Operand.tmp 18) (Operand.tmp 19) 3, type := 3, pos := _, after := #[{ on := 5, ground := Ground.data }, { on := 6, ground := Ground.data }], guard := none }) (v := ?_) rfl (by kernel_rfl) (by kernel_rfl) (by kernel_rfl) (fun _ _ _ h => h) (Or.inl ⟨by rfl, ?_⟩) (by assumption) ?_
  rotate_left
  · (intro w hSw; obtain ⟨s0, s1, s2, s3, s4, s5, s6, s7, s8, s9, s10, s11⟩ := hSw; (go_simp <;> with_reducible rfl))
  try simp only [Act.put, List.setIfInBounds_toArray, List.set_cons_zero, List.set_cons_succ]
  refine wpAnyH_ready (rs := [3]) (by kernel_rfl) (by simp) ?_
  refine AllReadyH.cons (o := { dst := some 16, op := Op.call { callee := Callee.value (Operand.func 42), args := #[Operand.tmp 15, Operand.func 60], argTypes := #[46, 90] }, type := 3, pos := _, after := #[{ on := 2, ground := Ground.data }], guard := none }) rfl (fun K hK => ?_) AllReadyH.nil
  go_simp
  refine (HKM.out _ hR2).mono ?_
  rintro e w5 ⟨rfl, hG5⟩
  have hD5 := hD2.quiet hG5
  have hH5 := hH2.quiet hG5
  have hG5 := hG2.trans hG5
  refine hK.out _ _ ?_ (fun hHeld => ?_)
  · exact ⟨hD5.cell 0, hD5.cell 1, hD5.cell 2, hD5.cell 3, hD5.cell 4, hD5.cell 5, hD5.cell 6, hH5.cell 0, hH5.cell 1, hH5.cell 2, hH5.cell 3, hH5.cell 4⟩
  clear hK K
  try simp only [Act.put, List.setIfInBounds_toArray, List.set_cons_zero, List.set_cons_succ]
  refine wpAnyH_take (i := 8) (oi := { dst := some 21, op := Op.binOp BinOp.sub 3 (Operand.tmp 16) (Operand.tmp 20) 3, type := 3, pos := _, after := #[{ on := 3, ground := Ground.data }, { on := 7, ground := Ground.data }], guard := none }) (v := ?_) rfl (by kernel_rfl) (by kernel_rfl) (by kernel_rfl) (fun _ _ _ h => h) (Or.inl ⟨by rfl, ?_⟩) (by assumption) ?_
  rotate_left
  · (intro w hSw; obtain ⟨s0, s1, s2, s3, s4, s5, s6, s7, s8, s9, s10, s11⟩ := hSw; (go_simp <;> with_reducible rfl))
  try simp only [Act.put, List.setIfInBounds_toArray, List.set_cons_zero, List.set_cons_succ]
  refine wpAnyH_take (i := 9) (oi := { dst := some 22, op := Op.call { callee := Callee.builtin Builtin.max, args := #[Operand.const (Value.int IntKind.i64 0), Operand.tmp 21], argTypes := #[3, 3] }, type := 3, pos := _, after := #[{ on := 8, ground := Ground.data }], guard := none }) (v := ?_) rfl (by kernel_rfl) (by kernel_rfl) (by kernel_rfl) (fun _ _ _ h => h) (Or.inl ⟨by rfl, ?_⟩) (by assumption) ?_
  rotate_left
  · (intro w hSw; obtain ⟨s0, s1, s2, s3, s4, s5, s6, s7, s8, s9, s10, s11⟩ := hSw; (go_simp <;> with_reducible rfl))
  try simp only [Act.put, List.setIfInBounds_toArray, List.set_cons_zero, List.set_cons_succ]
  refine wpAnyH_take (i := 10) (oi := { dst := some 23, op := Op.binOp BinOp.mul 3 (Operand.tmp 14) (Operand.tmp 22) 3, type := 3, pos := _, after := #[{ on := 1, ground := Ground.data }, { on := 9, ground := Ground.data }], guard := none }) (v := ?_) rfl (by kernel_rfl) (by kernel_rfl) (by kernel_rfl) (fun _ _ _ h => h) (Or.inl ⟨by rfl, ?_⟩) (by assumption) ?_
  rotate_left
  · (intro w hSw; obtain ⟨s0, s1, s2, s3, s4, s5, s6, s7, s8, s9, s10, s11⟩ := hSw; (go_simp <;> with_reducible rfl))
  try simp only [Act.put, List.setIfInBounds_toArray, List.set_cons_zero, List.set_cons_succ]
  refine wpAnyH_take (i := 11) (oi := { dst := some 4, op := Op.assign (Operand.tmp 23), type := 3, pos := _, after := #[{ on := 10, ground := Ground.data }, { on := 3, ground := Ground.chain }, { on := 0, ground := Ground.phase }, { on := 1, ground := Ground.phase }, { on := 2, ground := Ground.phase }, { on := 3, ground := Ground.phase }, { on := 4, ground := Ground.phase }, { on := 5, ground := Ground.phase }, { on := 6, ground := Ground.phase }, { on := 7, ground := Ground.phase }, { on := 8, ground := Ground.phase }, { on := 9, ground := Ground.phase }, { on := 10, ground := Ground.phase }], guard := none }) (v := ?_) rfl (by kernel_rfl) (by kernel_rfl) (by kernel_rfl) (fun _ _ _ h => h) (Or.inl ⟨by rfl, ?_⟩) (by assumption) ?_
  rotate_left
  · (intro w hSw; obtain ⟨s0, s1, s2, s3, s4, s5, s6, s7, s8, s9, s10, s11⟩ := hSw; (go_simp <;> with_reducible rfl))
  try simp only [Act.put, List.setIfInBounds_toArray, List.set_cons_zero, List.set_cons_succ]
  refine wpAnyH_done (by kernel_rfl) ?_ _
  -- @END1
  go_wp2_with fail
  go_ret
  exact ⟨ret_int H.out.symm, hG5⟩
/-- The error of a bill, ahead of what is added. -/
def cbE (x : De) (h : Hh) (l : List Lg) (ls : List Li) : Int := if deE x = 0 then (if hiE h l = 0 then (if liE ls = 0 then (if ioB l = true then 11 else 0) else liE ls) else hiE h l) else deE x
theorem cbE_ok {x : De} {h : Hh} {l : List Lg} {ls : List Li} (e : cbE x h l ls = 0) : deE x = 0 ∧ hiE h l = 0 ∧ liE ls = 0 ∧ ioB l = false := by
  unfold cbE at e
  split at e
  · next h1 =>
    split at e
    · next h2 =>
      split at e
      · next h3 =>
        split at e
        · cases e
        · next h4 => exact ⟨h1, h2, h3, by simpa using h4⟩
      · contradiction
    · contradiction
  · contradiction
set_option maxRecDepth 100000 in
set_option maxHeartbeats 4000000 in
theorem checkBill_c (x : De) (h : Hh) (v : Value) (l : List Lg) (u : Value) (ls : List Li) (w : World) (hr : RdR w 9 lgC v l) (hl : LgOk l) (hs1 : Small h.1) (hs2 : Small h.2.1) (hb1 : bnd h.2.2.1) (hb2 : bnd h.2.2.2) (hn : l.length ≤ 1000)
    (hu : RdR w 3 liC u ls) (hls : LiOk ls) (hm : ls.length ≤ 2000) :
    Calls Try.prog 36 #[.agg (deC x), .agg (hiC h v), u] w fun e w' => e = .returned (.int .i64 (cbE x h l ls)) ∧ G w w' none := by
  obtain ⟨a, cap, rfl, hcap, hmm⟩ := RdR.form hr
  obtain ⟨D, hDE⟩ : ∃ D, deE x = D := ⟨_, rfl⟩
  obtain ⟨I, hIE⟩ : ∃ I, hiE h l = I := ⟨_, rfl⟩
  obtain ⟨L, hLE⟩ : ∃ L, liE ls = L := ⟨_, rfl⟩
  obtain ⟨B, hBE⟩ : ∃ B, ioB l = B := ⟨_, rfl⟩
  have H : Hid (cbE x h l ls = if D = 0 then (if I = 0 then (if L = 0 then (if B = true then 11 else 0) else L) else I) else D) := Lib.hid (by unfold cbE; rw [hDE, hIE, hLE, hBE])
  have HPOS : Hid (I = 0 → 0 < l.length) := Lib.hid fun e => (hiE_pos0 (hIE.trans e)).1
  have C1 := Lib.hid (fun w => checkDeal_c x w)
  have C2 := Lib.hid (fun w' (q : RdR w' 9 lgC (.slice a l.length cap) l) => check_c h _ l w' q hl hs1 hs2 hb1 hb2 hn)
  have C3 := Lib.hid (fun w' (q : RdR w' 3 liC u ls) => checkLines_c u ls w' q hls hm)
  have C4 := Lib.hid (fun w' (q : RdR w' 9 lgC (.slice a l.length cap) l) (q0 : 0 < l.length) => isOpen_h h _ l w' q q0 hn)
  rw [hDE] at C1
  rw [hIE] at C2
  rw [hLE] at C3
  rw [hBE] at C4
  clear hDE hIE hLE hBE hl hls
  generalize cbE x h l ls = E at H ⊢
  obtain ⟨a0, a1, a2, a3, a4, a5, a6⟩ := x
  rw [show deC ⟨a0, a1, a2, a3, a4, a5, a6⟩ = #[.int .i64 a0, .int .i64 a1, .int .i64 a2, .int .i64 a3, .int .i64 a4, .int .i64 a5, .int .i64 a6] from rfl] at *
  have hD := (Bk.new w 42 #[.int .i64 a0, .int .i64 a1, .int .i64 a2, .int .i64 a3, .int .i64 a4, .int .i64 a5, .int .i64 a6]).alloc (.cells (hiC h (.slice a l.length cap)) 46)
  have hH := Bk.newAt (w := w.alloc (.cells #[.int .i64 a0, .int .i64 a1, .int .i64 a2, .int .i64 a3, .int .i64 a4, .int .i64 a5, .int .i64 a6] 42)) (b := w.heap.size + 1) (by simp) 46 (hiC h (.slice a l.length cap))
  have hG := ((G.refl w none).alloc (.cells #[.int .i64 a0, .int .i64 a1, .int .i64 a2, .int .i64 a3, .int .i64 a4, .int .i64 a5, .int .i64 a6] 42)).alloc (.cells (hiC h (.slice a l.length cap)) 46)
  have HR := Lib.hid hr
  have HU := Lib.hid hu
  clear hr hu
  simp only [hiC] at hD hH hG C2 C4 ⊢
  go_enter Try.func36, Try.ntmps36
  go_upto_region 1 with fail
  generalize (w.alloc (.cells #[.int .i64 a0, .int .i64 a1, .int .i64 a2, .int .i64 a3, .int .i64 a4, .int .i64 a5, .int .i64 a6] 42)).alloc (.cells #[.string h.1, .string h.2.1, .int .i64 h.2.2.1, .int .i64 h.2.2.2, .slice a l.length cap] 46) = w2 at hG hD hH ⊢
  go_wp2_with (refine wpList_load_row rfl 42 _ rfl w.heap.size rfl 42 #[.int .i64 a0, .int .i64 a1, .int .i64 a2, .int .i64 a3, .int .i64 a4, .int .i64 a5, .int .i64 a6] (0, 0) _ hD Try.underlying42 rfl (de_info ⟨a0, a1, a2, a3, a4, a5, a6⟩) ?_)
  refine (C1.out _).mono ?_; rintro e w3 ⟨rfl, hG3⟩
  have hH := hH.quiet hG3
  have hG := hG.trans hG3
  clear hG3 hD
  by_cases k1 : D = 0
  · have H1 := Lib.hid (H.out.trans (if_pos k1))
    subst k1
    go_wp2_with (refine wpList_load_row rfl 46 _ rfl (w.heap.size + 1) rfl 46 #[.string h.1, .string h.2.1, .int .i64 h.2.2.1, .int .i64 h.2.2.2, .slice a l.length cap] (0, 0) _ hH Try.underlying46 rfl (hi_info h _) ?_)
    refine (C2.out _ (HR.out.quiet hG)).mono ?_; rintro e w4 ⟨rfl, hG4⟩
    have hH := hH.quiet hG4
    have hG := hG.trans hG4
    clear hG4
    by_cases k2 : I = 0
    · have H2 := Lib.hid (H1.out.trans (if_pos k2))
      subst k2
      have hpos := HPOS.out rfl
      clear H H1 HPOS
      go_wp2_with fail
      refine (C3.out _ (HU.out.quiet hG)).mono ?_; rintro e w5 ⟨rfl, hG5⟩
      have hH := hH.quiet hG5
      have hG := hG.trans hG5
      clear hG5
      by_cases k3 : L = 0
      · have H3 := Lib.hid (H2.out.trans (if_pos k3))
        subst k3
        clear H2
        go_wp2_with (refine wpList_load_row rfl 46 _ rfl (w.heap.size + 1) rfl 46 #[.string h.1, .string h.2.1, .int .i64 h.2.2.1, .int .i64 h.2.2.2, .slice a l.length cap] (0, 0) _ hH Try.underlying46 rfl (hi_info h _) ?_)
        refine (C4.out _ (HR.out.quiet hG) hpos).mono ?_; rintro e w6 ⟨rfl, hG6⟩
        cases B with
        | false =>
          have HY := Lib.hid (H3.out.trans (if_neg (by simp)))
          clear H3
          go_wp2_with fail
          go_ret
          exact ⟨ret_int HY.out.symm, hG.trans hG6⟩
        | true =>
          have HY := Lib.hid (H3.out.trans (if_pos rfl))
          clear H3
          go_wp2_with fail
          go_ret
          exact ⟨ret_int HY.out.symm, hG.trans hG6⟩
      · have k3' : (L != 0) = true := by simpa using k3
        have HY := Lib.hid (H2.out.trans (if_neg k3))
        clear k3 H2
        go_wp2_with fail
        go_ret
        exact ⟨ret_int HY.out.symm, hG⟩
    · have k2' : (I != 0) = true := by simpa using k2
      have HY := Lib.hid (H1.out.trans (if_neg k2))
      clear k2 H H1 HPOS
      go_wp2_with fail
      go_ret
      exact ⟨ret_int HY.out.symm, hG⟩
  · have k1' : (D != 0) = true := by simpa using k1
    have HY := Lib.hid (H.out.trans (if_neg k1))
    clear k1 H HPOS
    go_wp2_with fail
    go_ret
    exact ⟨ret_int HY.out.symm, hG⟩
end Go.Proofs.Ytbddcbbjmgepnaa
