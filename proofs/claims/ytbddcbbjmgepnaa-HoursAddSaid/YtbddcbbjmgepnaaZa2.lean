/- Ord, Ext, Tmb, Tim, Fee, Hir, Hik, Hif, His, Reg, Stp, Pck, Hit, Hiu, Odm, Bkf, Tir, Can, Low, Bkd. -/
import Derived.Test.YtbddcbbjmgepnaaZa1
import Derived.Test.YtbddcbbjmgepnaaShelf
import Derived.Deep.RegionHeld3
import Derived.IntWalk
import Derived.Laws.StructEq
import Derived.Deep.CutRange
import Derived.RegionTactic
import Derived.OrdersHeld
import Derived.BigQuiet
import Derived.Laws.ResultCell
import Derived.StillTailTactics
/- The order of strings: what strings.Compare says, and what '<=' says. No program but strings.Compare's contract. -/
namespace Go.Proofs.Ytbddcbbjmgepnaa
open Go.RowKit Go.Shelf

abbrev cL := Lib.compareBytes
theorem cL_self (a : List UInt8) : cL a a = 0 := by
  induction a with
  | nil => rfl
  | cons x a ih => show (if x < x then (-1 : Int) else if x < x then 1 else cL a a) = 0; simp [ih]
theorem u8_tri (x y : UInt8) : x < y ∨ x = y ∨ y < x := by
  rcases Nat.lt_trichotomy x.toNat y.toNat with h | h | h
  · exact .inl (UInt8.lt_iff_toNat_lt.2 h)
  · exact .inr (.inl (UInt8.toNat_inj.1 h))
  · exact .inr (.inr (UInt8.lt_iff_toNat_lt.2 h))
theorem u8_asym {x y : UInt8} (h : x < y) : ¬ y < x := by rw [UInt8.lt_iff_toNat_lt] at h ⊢; omega
theorem u8_trans {x y z : UInt8} (h : x < y) (k : y < z) : x < z := by rw [UInt8.lt_iff_toNat_lt] at h k ⊢; omega
theorem cL_cons (x y : UInt8) (a b : List UInt8) : cL (x :: a) (y :: b) = if x < y then -1 else if y < x then 1 else cL a b := rfl
theorem cL_range (a b : List UInt8) : cL a b = -1 ∨ cL a b = 0 ∨ cL a b = 1 := by
  induction a generalizing b with
  | nil => cases b with
    | nil => exact .inr (.inl rfl)
    | cons _ _ => exact .inl rfl
  | cons x a ih => cases b with
    | nil => exact .inr (.inr rfl)
    | cons y b =>
      rw [cL_cons]
      split
      · exact .inl rfl
      · split
        · exact .inr (.inr rfl)
        · exact ih b
theorem cL_eq {a b : List UInt8} (h : cL a b = 0) : a = b := by
  induction a generalizing b with
  | nil => cases b with
    | nil => rfl
    | cons _ _ => cases (show (-1 : Int) = 0 from h)
  | cons x a ih => cases b with
    | nil => cases (show (1 : Int) = 0 from h)
    | cons y b =>
      rw [cL_cons] at h
      rcases u8_tri x y with h1 | rfl | h1
      · rw [if_pos h1] at h; omega
      · rw [if_neg (fun q => u8_asym q q), if_neg (fun q => u8_asym q q)] at h
        rw [ih h]
      · rw [if_neg (u8_asym h1), if_pos h1] at h; omega
theorem cL_neg (a b : List UInt8) : cL b a = - cL a b := by
  induction a generalizing b with
  | nil => cases b <;> rfl
  | cons x a ih => cases b with
    | nil => rfl
    | cons y b =>
      rw [cL_cons, cL_cons]
      rcases u8_tri x y with h1 | rfl | h1
      · rw [if_neg (u8_asym h1), if_pos h1, if_pos h1]; rfl
      · rw [if_neg (fun q => u8_asym q q), if_neg (fun q => u8_asym q q), if_neg (fun q => u8_asym q q), if_neg (fun q => u8_asym q q)]; exact ih b
      · rw [if_pos h1, if_neg (u8_asym h1), if_pos h1]
theorem cL_trans {a b c : List UInt8} (h : cL a b < 0) (k : cL b c < 0) : cL a c < 0 := by
  induction a generalizing b c with
  | nil => cases c with
    | nil => cases b with
      | nil => exact h
      | cons _ _ => have : (1 : Int) < 0 := k; omega
    | cons _ _ => show (-1 : Int) < 0; omega
  | cons x a ih => cases b with
    | nil => have : (1 : Int) < 0 := h; omega
    | cons y b => cases c with
      | nil => have : (1 : Int) < 0 := k; omega
      | cons z c =>
        rw [cL_cons] at h k ⊢
        rcases u8_tri x y with h1 | rfl | h1
        · rcases u8_tri y z with h2 | rfl | h2
          · rw [if_pos (u8_trans h1 h2)]; omega
          · rw [if_pos h1]; omega
          · rw [if_neg (u8_asym h2), if_pos h2] at k; omega
        · rw [if_neg (fun q => u8_asym q q), if_neg (fun q => u8_asym q q)] at h
          rcases u8_tri x z with h2 | rfl | h2
          · rw [if_pos h2]; omega
          · rw [if_neg (fun q => u8_asym q q), if_neg (fun q => u8_asym q q)] at k ⊢
            exact ih h k
          · rw [if_neg (u8_asym h2), if_pos h2] at k; omega
        · rw [if_neg (u8_asym h1), if_pos h1] at h; omega
theorem less_cL (a b : List UInt8) : Op.bytesLess a b = decide (cL a b < 0) := by
  induction a generalizing b with
  | nil => cases b <;> rfl
  | cons x a ih => cases b with
    | nil => rfl
    | cons y b =>
      rw [cL_cons]
      unfold Op.bytesLess
      rcases u8_tri x y with h1 | rfl | h1
      · simp [h1]
      · simp [ih]
      · have h2 := u8_asym h1
        have h3 : x ≠ y := fun e => by rw [e] at h1; exact u8_asym h1 h1
        simp [h1, h2, h3]

/-- What strings.Compare returns. -/
def cmpI (a b : ByteArray) : Int := cL a.data.toList b.data.toList
theorem cmpI_eq {a b : ByteArray} : cmpI a b = 0 ↔ a = b := by
  constructor
  · intro h
    exact Go.WideShapes.bytes_inj (cL_eq h)
  · intro h; rw [h]; exact cL_self _
theorem cmpI_neg (a b : ByteArray) : cmpI b a = - cmpI a b := cL_neg _ _
theorem cmpI_trans {a b c : ByteArray} (h : cmpI a b < 0) (k : cmpI b c < 0) : cmpI a c < 0 := cL_trans h k
theorem cmpI_range (a b : ByteArray) : cmpI a b = -1 ∨ cmpI a b = 0 ∨ cmpI a b = 1 := cL_range _ _
theorem leB_cmp (a b : ByteArray) : leB a b = decide (cmpI a b ≤ 0) := by
  unfold leB cmpI
  rw [less_cL, ByteArray.toList_eq, ByteArray.toList_eq]
  rcases cL_range a.data.toList b.data.toList with h | h | h
  · rw [h]; rfl
  · rw [h, cL_eq h]; simp
  · have : a.data.toList ≠ b.data.toList := fun e => by rw [e, cL_self] at h; omega
    rw [h, beq_eq_false_iff_ne.2 this]; rfl
theorem eqB_cmp (a b : ByteArray) : eqB a b = decide (cmpI a b = 0) := by
  rw [Bool.eq_iff_iff, eqB_iff, decide_eq_true_iff]
  exact cmpI_eq.symm
/-- Rising. -/
def Rise (l : List ByteArray) : Prop := l.Pairwise (fun a b => cmpI a b < 0)
def hasK (l : List ByteArray) (t : ByteArray) : Bool := l.any fun s => eqB s t
theorem hasK_iff {l : List ByteArray} {t : ByteArray} : hasK l t = true ↔ t ∈ l := by
  unfold hasK
  rw [List.any_eq_true]
  constructor
  · rintro ⟨s, hs, he⟩
    rw [eqB_iff] at he
    exact he ▸ hs
  · intro h
    exact ⟨t, h, eqB_iff.2 rfl⟩
theorem ck_rise (b : ByteArray) (l : List Cla) (h : ckErr b l = 0) : Rise (l.map (·.1)) ∧ ∀ p ∈ l, cmpI b p.1 < 0 := by
  induction l generalizing b with
  | nil => exact ⟨List.Pairwise.nil, fun p hp => by cases hp⟩
  | cons p r ih =>
    unfold ckErr at h
    split at h
    · omega
    · split at h
      · omega
      · rename_i hle
        split at h
        · omega
        · obtain ⟨i1, i2⟩ := ih p.1 h
          have hb : cmpI b p.1 < 0 := by
            rw [leB_cmp] at hle
            have h1 := cmpI_neg p.1 b
            simp at hle
            omega
          refine ⟨List.pairwise_cons.2 ⟨fun s hs => ?_, i1⟩, fun q hq => ?_⟩
          · obtain ⟨q, hq, rfl⟩ := List.mem_map.1 hs
            exact i2 q hq
          · rcases List.mem_cons.1 hq with rfl | hq
            · exact hb
            · exact cmpI_trans hb (i2 q hq)
theorem sta_rise (b : ByteArray) (l : List Sta) (h : staErr b l = 0) : Rise (l.map (·.1)) ∧ ∀ p ∈ l, cmpI b p.1 < 0 := by
  induction l generalizing b with
  | nil => exact ⟨List.Pairwise.nil, fun p hp => by cases hp⟩
  | cons p r ih =>
    unfold staErr at h
    split at h
    · omega
    · split at h
      · omega
      · rename_i hle
        split at h
        · omega
        · obtain ⟨i1, i2⟩ := ih p.1 h
          have hb : cmpI b p.1 < 0 := by
            rw [leB_cmp] at hle
            have h1 := cmpI_neg p.1 b
            simp at hle
            omega
          refine ⟨List.pairwise_cons.2 ⟨fun s hs => ?_, i1⟩, fun q hq => ?_⟩
          · obtain ⟨q, hq, rfl⟩ := List.mem_map.1 hs
            exact i2 q hq
          · rcases List.mem_cons.1 hq with rfl | hq
            · exact hb
            · exact cmpI_trans hb (i2 q hq)
/-- The binary search's end: all below 'i' are less, none from 'i' on is. -/
theorem bs_found (l : List ByteArray) (t : ByteArray) (hr : Rise l) (i : Nat) (hi : i ≤ l.length) (h1 : ∀ (j : Nat) (s : ByteArray), j < i → l[j]? = some s → cmpI s t < 0) (h2 : ∀ (j : Nat) (s : ByteArray), i ≤ j → l[j]? = some s → 0 ≤ cmpI s t) :
    hasK l t = (match l[i]? with | some s => decide (cmpI s t = 0) | none => false) := by
  cases hs : l[i]? with
  | none =>
    rw [← Bool.not_eq_true, hasK_iff]
    intro hm
    obtain ⟨j, hj⟩ := List.getElem?_of_mem hm
    have hjl := (List.getElem?_eq_some_iff.1 hj).1
    have hil := List.getElem?_eq_none_iff.1 hs
    have := h1 j t (by omega) hj
    rw [cmpI_eq.2 rfl] at this
    omega
  | some s =>
    rw [Bool.eq_iff_iff, hasK_iff, decide_eq_true_iff]
    constructor
    · intro hm
      obtain ⟨j, hj⟩ := List.getElem?_of_mem hm
      by_cases hji : j < i
      · have := h1 j t hji hj
        rw [cmpI_eq.2 rfl] at this
        omega
      · by_cases e : j = i
        · subst e
          rw [hs] at hj
          obtain rfl := Option.some.inj hj
          exact cmpI_eq.2 rfl
        · have h3 := h2 i s (Nat.le_refl _) hs
          have h4 : cmpI s t < 0 := by
            have hjl := (List.getElem?_eq_some_iff.1 hj)
            have hil := (List.getElem?_eq_some_iff.1 hs)
            have := List.pairwise_iff_getElem.1 hr i j hil.1 hjl.1 (by omega)
            rw [hil.2, hjl.2] at this
            exact this
          omega
    · intro h
      rw [cmpI_eq] at h
      subst h
      exact List.mem_of_getElem? hs
end Go.Proofs.Ytbddcbbjmgepnaa

/- Extras: CheckExtras, its reference, ExtraCost, its reference. -/
namespace Go.Proofs.Ytbddcbbjmgepnaa
open Go.RowKit

/-- An extra: its key, Once, Day, Most. -/
abbrev Ext := ByteArray × Int × Int × Int
def exC (x : Ext) : Array Value := #[.string x.1, .int .i64 x.2.1, .int .i64 x.2.2.1, .int .i64 x.2.2.2]
theorem exC_sz (x : Ext) : (exC x).size = 4 := rfl
def ExOk (l : List Ext) : Prop := ∀ x ∈ l, Small x.1 ∧ bnd x.2.1 ∧ bnd x.2.2.1 ∧ bnd x.2.2.2
def exBad (x : Ext) : Bool := !inB x.2.1 0 1000000 || (!inB x.2.2.1 0 1000000 || !inB x.2.2.2 (-1) 1000000)
def exErr (b : ByteArray) : List Ext → Int
  | [] => 0
  | x :: r => if keyB x.1 = false then 5 else if leB x.1 b = true then 7 else if exBad x = true then 1 else exErr x.1 r
def exE (l : List Ext) : Int := if 30 < l.length then 2 else exErr ⟨#[]⟩ l
def ExRel (w : World) (l : List Ext) (v i : Value) (wr : World) : Prop :=
  ∃ (k : Nat) (b : ByteArray), k ≤ l.length ∧ i = .int .i64 k ∧ v = .string b ∧ exErr ⟨#[]⟩ l = exErr b (l.drop k) ∧ G w wr none
end Go.Proofs.Ytbddcbbjmgepnaa

/- basic.IsTime, basic.IsMoment. -/
namespace Go.Proofs.Ytbddcbbjmgepnaa
open Go.RowKit

theorem wi_info (a b : Int) : (Try.prog.info? 27).map (·.size) = some #[Value.int .i64 a, .int .i64 b].size := (by kernel_rfl : (Try.prog.info? 27).map (·.size) = some 2)
theorem wi_one (a b : Int) : #[Value.int .i64 a, .int .i64 b].all (·.oneCell') = true := by simp [Value.oneCell']
def timB (a z : Int) : Bool := decide (0 ≤ a) && (decide (a < z) && decide (z < 5761440))
theorem timB_iff (a z : Int) : timB a z = true ↔ 0 ≤ a ∧ a < z ∧ z < 5761440 := by unfold timB; simp
theorem timB_yes {a z : Int} (h : 0 ≤ a ∧ a < z ∧ z < 5761440) : timB a z = true := (timB_iff a z).2 h
theorem timB_no {a z : Int} (h : ¬ (0 ≤ a ∧ a < z ∧ z < 5761440)) : timB a z = false := by
  cases hb : timB a z with
  | false => rfl
  | true => exact absurd ((timB_iff a z).1 hb) h
set_option maxRecDepth 100000 in
set_option maxHeartbeats 1000000 in
theorem isTime_c (a z : Int) (w : World) : Calls Try.prog 49 #[.agg #[.int .i64 a, .int .i64 z]] w fun e w' => e = .returned (.bool (timB a z)) ∧ G w w' none := by
  have hG : G w (w.alloc (.cells #[.int .i64 a, .int .i64 z] 27)) none := (G.refl w none).alloc _
  rcases (show a < 0 ∨ (0 ≤ a ∧ z ≤ a) ∨ (0 ≤ a ∧ a < z ∧ 5761440 ≤ z) ∨ (0 ≤ a ∧ a < z ∧ z < 5761440) by omega) with h1 | ⟨h1, h2⟩ | ⟨h1, h2, h3⟩ | ⟨h1, h2, h3⟩
  · have HF : Hid (timB a z = false) := Lib.hid (timB_no (by omega))
    go_enter Try.func49, Try.ntmps49
    go_wp2_with fail
    go_ret
    exact ⟨ret_bool HF.out.symm, hG⟩
  · have HF : Hid (timB a z = false) := Lib.hid (timB_no (by omega))
    go_enter Try.func49, Try.ntmps49
    go_wp2_with fail
    go_ret
    exact ⟨ret_bool HF.out.symm, hG⟩
  · have HF : Hid (timB a z = false) := Lib.hid (timB_no (by omega))
    have h4 : ¬ z < 5761440 := by omega
    go_enter Try.func49, Try.ntmps49
    go_wp2_with fail
    go_ret
    exact ⟨ret_bool (by rw [HF.out] <;> exact decide_eq_false h4), hG⟩
  · have HF : Hid (timB a z = true) := Lib.hid (timB_yes ⟨h1, h2, h3⟩)
    go_enter Try.func49, Try.ntmps49
    go_wp2_with fail
    go_ret
    exact ⟨ret_bool (by rw [HF.out] <;> exact decide_eq_true h3), hG⟩
end Go.Proofs.Ytbddcbbjmgepnaa

/- The time of a hire: Days, begun, TimeFault, DaysOf. -/
namespace Go.Proofs.Ytbddcbbjmgepnaa
open Go.RowKit

def tE (a z : Int) : Int := if 0 ≤ a ∧ a < z ∧ z ≤ 5761439 then (if 172800 < z - a then 2 else 0) else 1
def tN (a z : Int) : Int := if tE a z = 0 then (z - a + 1439) / 1440 else 0
set_option maxRecDepth 100000 in
theorem begun_c (m : Int) (w : World) (h0 : 0 ≤ m) (h1 : m ≤ 5761439) : Calls Try.prog 50 #[.int .i64 m, .int .i64 1440] w fun e w' => e = .returned (.int .i64 ((m + 1439) / 1440)) ∧ w = w' := by
  have HF : Hid ((m + 1440 - 1) / 1440 = (m + 1439) / 1440) := Lib.hid (by omega)
  go_enter Try.func50, Try.ntmps50
  go_wp2_with fail
  go_ret
  exact ⟨ret_int HF.out, rfl⟩
set_option maxRecDepth 100000 in
set_option maxHeartbeats 2000000 in
theorem days_c (a z : Int) (w : World) (ha : bnd a) (hz : bnd z) : Calls Try.prog 25 #[.agg #[.int .i64 a, .int .i64 z]] w fun e w' => e = .returned (.tuple #[.int .i64 (tN a z), .int .i64 (tE a z)]) ∧ G w w' none := by
  unfold bnd at ha hz
  have hG : G w (w.alloc (.cells #[.int .i64 a, .int .i64 z] 27)) none := (G.refl w none).alloc _
  have hB := Bk.new w 27 #[.int .i64 a, .int .i64 z]
  by_cases h0 : 0 ≤ a ∧ a < z ∧ z < 5761440
  · obtain ⟨h1, h2, h3⟩ := h0
    have HI := Lib.hid (timB_yes ⟨h1, h2, h3⟩)
    have HT : Hid (tE a z = if 172800 < z - a then 2 else 0) := Lib.hid (by rw [tE, if_pos ⟨h1, h2, by omega⟩])
    have HD : Hid (tE a z = 0 → tN a z = (z - a + 1439) / 1440) := Lib.hid fun h => by rw [tN, if_pos h]
    have HD2 : Hid (tE a z ≠ 0 → tN a z = 0) := Lib.hid fun h => by rw [tN, if_neg h]
    go_enter Try.func25, Try.ntmps25
    go_wp2_with (refine wpList_load_row rfl 27 _ rfl w.heap.size rfl 27 #[.int .i64 a, .int .i64 z] (0, 0) _ hB Try.underlying27 rfl (wi_info a z) ?_)
    refine (isTime_c a z _).mono ?_; rintro e w1 ⟨rfl, hG1⟩
    rw [HI.out]
    have hB1 := hB.quiet hG1
    have hG01 := hG.trans hG1
    have c0 : w1.cell? ⟨w.heap.size, 0, none⟩ = some (.int .i64 a) := hB1.cell 0
    have c1 : w1.cell? ⟨w.heap.size, 1, none⟩ = some (.int .i64 z) := hB1.cell 1
    clear hB hG hG1
    rcases (show 172800 < z - a ∨ z - a ≤ 172800 by omega) with h4 | h4
    · have HE : Hid (tE a z = 2) := Lib.hid (by rw [HT.out, if_pos h4])
      have HN : Hid (tN a z = 0) := Lib.hid (HD2.out (by rw [HE.out]; decide))
      have h5 : 120 < (z - a + 1439) / 1440 := by omega
      go_wp2_with fail
      refine (begun_c _ _ (by omega) (by omega)).mono ?_; rintro e w' ⟨rfl, rfl⟩
      generalize (z - a + 1439) / 1440 = N at h5 ⊢
      go_wp2_with fail
      go_ret2
      exact ⟨by rw [HE.out, HN.out]; rfl, hG01⟩
    · have HE : Hid (tE a z = 0) := Lib.hid (by rw [HT.out, if_neg (by omega)])
      have HN : Hid (tN a z = (z - a + 1439) / 1440) := Lib.hid (HD.out HE.out)
      have h5 : (z - a + 1439) / 1440 ≤ 120 := by omega
      go_wp2_with fail
      refine (begun_c _ _ (by omega) (by omega)).mono ?_; rintro e w' ⟨rfl, rfl⟩
      generalize (z - a + 1439) / 1440 = N at h5 HN ⊢
      go_wp2_with fail
      go_ret2
      exact ⟨by rw [HE.out, HN.out]; rfl, hG01⟩
  · have HE : Hid (tE a z = 1) := Lib.hid (by rw [tE, if_neg (by omega)])
    have HN : Hid (tN a z = 0) := Lib.hid (by rw [tN, if_neg (by rw [HE.out]; decide)])
    have HI := Lib.hid (timB_no h0)
    clear h0
    go_enter Try.func25, Try.ntmps25
    go_wp2_with (refine wpList_load_row rfl 27 _ rfl w.heap.size rfl 27 #[.int .i64 a, .int .i64 z] (0, 0) _ hB Try.underlying27 rfl (wi_info a z) ?_)
    refine (isTime_c a z _).mono ?_; rintro e w1 ⟨rfl, hG1⟩
    rw [HI.out]
    go_wp2_with fail
    go_ret2
    exact ⟨by rw [HE.out, HN.out]; rfl, hG.trans hG1⟩
theorem tE_zero {a z : Int} (h : tE a z = 0) : 0 ≤ a ∧ a < z ∧ z ≤ 5761439 ∧ z - a ≤ 172800 := by
  unfold tE at h
  split at h
  · split at h
    · omega
    · omega
  · omega
def DofRel (w : World) (a z : Int) (s3 s4 : Value) (wr : World) : Prop :=
  ∃ j : Nat, s3 = .int .i64 j ∧ s4 = .int .i64 (a + 1440 * j) ∧ (j : Int) ≤ (z - a + 1439) / 1440 ∧ Bk wr w.heap.size 27 #[.int .i64 a, .int .i64 z] ∧ G w wr none
end Go.Proofs.Ytbddcbbjmgepnaa

/- Fees: CheckFees, its reference. -/
namespace Go.Proofs.Ytbddcbbjmgepnaa
open Go.RowKit

/-- A fee: from, to, cents. -/
abbrev Fe := ByteArray × ByteArray × Int
def feC (x : Fe) : Array Value := #[.string x.1, .string x.2.1, .int .i64 x.2.2]
theorem feC_sz (x : Fe) : (feC x).size = 3 := rfl
def FeOk (l : List Fe) : Prop := ∀ x ∈ l, Small x.1 ∧ Small x.2.1 ∧ bnd x.2.2
/-- The first that is not 0. -/
def orI (x y : Int) : Int := if x = 0 then y else x
def cmpF (x y : Fe) : Int := orI (cmpI x.1 y.1) (cmpI x.2.1 y.2.1)
def feAfter (b : Option Fe) (x : Fe) : Bool := match b with | none => false | some y => decide (0 ≤ cmpF y x)
def feErr : Option Fe → List Fe → Int
  | _, [] => 0
  | b, x :: r => if keyB x.1 = false then 5 else if keyB x.2.1 = false then 5 else if eqB x.1 x.2.1 = true then 14 else if feAfter b x = true then 7 else if inB x.2.2 0 1000000 = false then 1 else feErr (some x) r
def feE (l : List Fe) : Int := if 500 < l.length then 2 else feErr none l
def prevAt {α : Type} (l : List α) (k : Nat) : Option α := if k = 0 then none else l[k - 1]?
theorem prevAt_succ {α : Type} (l : List α) (k : Nat) (p : α) (h : l[k]? = some p) : prevAt l (k + 1) = some p := by
  unfold prevAt
  rw [if_neg (by omega), Nat.add_sub_cancel, h]
def FeRel (w : World) (l : List Fe) (i : Value) (wr : World) : Prop :=
  ∃ k : Nat, k ≤ l.length ∧ i = .int .i64 k ∧ feErr none l = feErr (prevAt l k) (l.drop k) ∧ G w wr none
end Go.Proofs.Ytbddcbbjmgepnaa

/- Hires: readings, legs; checkReading, checkBegin, isOut, checkEnd. -/
namespace Go.Proofs.Ytbddcbbjmgepnaa
open Go.RowKit

/-- A reading: at, station, meter, fuel. -/
abbrev Rg := Int × ByteArray × Int × Int
def rgC (x : Rg) : Array Value := #[.int .i64 x.1, .string x.2.1, .int .i64 x.2.2.1, .int .i64 x.2.2.2]
theorem rg_info (x : Rg) : (Try.prog.info? 50).map (·.size) = some (rgC x).size := (by kernel_rfl : (Try.prog.info? 50).map (·.size) = some 4)
def rgE (x : Rg) : Int := if momB x.1 = false then 1 else if keyB x.2.1 = false then 5 else if inB x.2.2.1 0 999999 = false then 1 else if inB x.2.2.2 0 8 = false then 1 else 0
/-- A leg: vehicle, out, in. -/
abbrev Lg := ByteArray × Rg × Rg
def lgC (x : Lg) : Array Value := #[.string x.1, .int .i64 x.2.1.1, .string x.2.1.2.1, .int .i64 x.2.1.2.2.1, .int .i64 x.2.1.2.2.2, .int .i64 x.2.2.1, .string x.2.2.2.1, .int .i64 x.2.2.2.2.1, .int .i64 x.2.2.2.2.2]
theorem lgC_sz (x : Lg) : (lgC x).size = 9 := rfl
theorem lg_info (x : Lg) : (Try.prog.info? 74).map (·.size) = some (lgC x).size := (by kernel_rfl : (Try.prog.info? 74).map (·.size) = some 9)
def lgB (x : Lg) : Prop := Small x.1 ∧ Small x.2.1.2.1 ∧ Small x.2.2.2.1
def LgOk (l : List Lg) : Prop := ∀ x ∈ l, lgB x
/-- A hire's head: key, driver, from, to; the cells of a hire. -/
abbrev Hh := ByteArray × ByteArray × Int × Int
def hiC (h : Hh) (v : Value) : Array Value := #[.string h.1, .string h.2.1, .int .i64 h.2.2.1, .int .i64 h.2.2.2, v]
theorem hi_info (h : Hh) (v : Value) : (Try.prog.info? 46).map (·.size) = some (hiC h v).size := (by kernel_rfl : (Try.prog.info? 46).map (·.size) = some 5)
def noIn : Rg := (-1, ⟨#[]⟩, 0, 0)
def beE (f : Int) (b : Option Lg) (x : Lg) : Int := match b with
  | none => if x.2.1.1 = f then 0 else 7
  | some y => if x.2.1.1 = y.2.2.1 then (if x.1 = y.1 then 16 else if x.2.1.2.1 = y.2.2.2.1 then 0 else 8) else 7
def enE (last : Bool) (x : Lg) : Int := if x.2.2.1 = -1 then (if x.2.2 = noIn then (if last = true then 0 else 11) else 3) else if rgE x.2.2 = 0 then (if x.2.2.1 ≤ x.2.1.1 then 7 else 0) else rgE x.2.2
def lgE (f : Int) (b : Option Lg) (last : Bool) (x : Lg) : Int := if keyB x.1 = false then 5 else if rgE x.2.1 = 0 then (if beE f b x = 0 then enE last x else beE f b x) else rgE x.2.1
def lsE (f : Int) : Option Lg → List Lg → Int
  | _, [] => 0
  | b, x :: r => if lgE f b r.isEmpty x = 0 then lsE f (some x) r else lgE f b r.isEmpty x
def hiE (h : Hh) (l : List Lg) : Int := if keyB h.1 = false then 5 else if keyB h.2.1 = false then 5 else if tE h.2.2.1 h.2.2.2 = 0 then (if l.length = 0 then 3 else if 20 < l.length then 2 else lsE h.2.2.1 none l) else tE h.2.2.1 h.2.2.2
theorem Bk.part {w : World} {g : Nat} {T : TypeId} {cs : Array Value} (h : Bk w g T cs) (k : Nat) (ds : Array Value) (hd : ∀ j u, ds.toList[j]? = some u → cs[k + j]? = some u) : ∀ j u, ds.toList[j]? = some u → w.cell? ((⟨g, k, none⟩ : Addr).add j) = some u := fun j u hu => by
  rw [add_at, h.cell]
  exact hd j u hu
theorem lg_out (x : Lg) : ∀ j u, (#[.int .i64 x.2.1.1, .string x.2.1.2.1, .int .i64 x.2.1.2.2.1, .int .i64 x.2.1.2.2.2] : Array Value).toList[j]? = some u → (lgC x)[1 + j]? = some u := fun j u hu => by
  match j, hu with
  | 0, hu => exact hu
  | 1, hu => exact hu
  | 2, hu => exact hu
  | 3, hu => exact hu
  | n + 4, hu => simp at hu
theorem lg_in (x : Lg) : ∀ j u, (#[.int .i64 x.2.2.1, .string x.2.2.2.1, .int .i64 x.2.2.2.2.1, .int .i64 x.2.2.2.2.2] : Array Value).toList[j]? = some u → (lgC x)[5 + j]? = some u := fun j u hu => by
  match j, hu with
  | 0, hu => exact hu
  | 1, hu => exact hu
  | 2, hu => exact hu
  | 3, hu => exact hu
  | n + 4, hu => simp at hu
theorem lgRow {W w : World} {bb bo n cap : Nat} {l : List Lg} (h : RdR W 9 lgC (.slice (some ⟨bb, bo, none⟩) n cap) l) (hG : G W w none) {k : Nat} {p : Lg} (hp : l[k]? = some p) :
    ∀ j v, (lgC p).toList[j]? = some v → w.cell? ((⟨bb, bo + k * 9, none⟩ : Addr).add j) = some v := fun j v hv => by
  rw [add_at]
  exact RdR.cell lgC_sz h hG hp j v hv
theorem drop_empty {α : Type} (l : List α) (k : Nat) : (l.drop k).isEmpty = decide (l.length ≤ k) := by
  by_cases h : l.length ≤ k
  · rw [List.drop_eq_nil_of_le h, decide_eq_true h]; rfl
  · rw [decide_eq_false h]
    cases hd : l.drop k with
    | nil => have := List.drop_eq_nil_iff.1 hd; omega
    | cons _ _ => rfl
theorem toList_ext {a b : ByteArray} (h : a.toList = b.toList) : a = b := by
  rw [ByteArray.toList_eq, ByteArray.toList_eq] at h
  exact ByteArray.ext (Array.toList_inj.1 h)
theorem rg_neq (x y : Rg) (w : World) : (binOp .neq 50 (.agg #[.int .i64 x.1, .string x.2.1, .int .i64 x.2.2.1, .int .i64 x.2.2.2]) (.agg #[.int .i64 y.1, .string y.2.1, .int .i64 y.2.2.1, .int .i64 y.2.2.2])).run Try.prog w = .ok (.bool (!(decide (x = y)))) w := by
  obtain ⟨a, b, c, d⟩ := x
  obtain ⟨e, f, g, h⟩ := y
  have ht : Try.prog.underlying 50 = some (.struct (Try.prog.fieldsOf 50)) := by kernel_rfl
  have hp : Try.prog.stoodInHeld 50 = false := by kernel_rfl
  rw [run_neq_struct, run_equalIn_agg w 9999 50 _ _ ht hp]
  simp [Try.underlying50, Try.underlying3, Try.underlying9, go_sem]
  by_cases h1 : a = e
  · by_cases h2 : b = f
    · subst h2
      by_cases h3 : c = g <;> by_cases h4 : d = h <;> simp [h1, h3, h4]
    · have h2' : ¬ b.toList = f.toList := fun e => h2 (toList_ext e)
      simp [h1, h2, h2']
  · simp [h1]
set_option maxRecDepth 100000 in
set_option maxHeartbeats 2000000 in
theorem checkReading_c (x : Rg) (w : World) (hs : Small x.2.1) :
    Calls Try.prog 69 #[.agg (rgC x)] w fun e w' => e = .returned (.int .i64 (rgE x)) ∧ G w w' none := by
  have hG1 := (G.refl w none).alloc (.cells (rgC x) 50)
  unfold Small at hs
  obtain ⟨t, s, m, f⟩ := x
  simp only [rgC] at hG1 hs ⊢
  have HE : Hid (rgE (t, s, m, f) = if momB t = false then 1 else if keyB s = false then 5 else if inB m 0 999999 = false then 1 else if inB f 0 8 = false then 1 else 0) := Lib.hid rfl
  generalize rgE (t, s, m, f) = R at HE ⊢
  go_enter Try.func69, Try.ntmps69
  go_wp2_with fail
  refine (isMoment_c t _).mono ?_; rintro e w1 ⟨rfl, rfl⟩
  cases k1 : momB t with
  | false =>
    have HF : Hid (R = 1) := Lib.hid (by rw [HE.out, if_pos k1])
    clear k1
    go_wp2_with fail
    go_ret
    exact ⟨ret_int HF.out.symm, hG1⟩
  | true =>
    have HE : Hid (R = if keyB s = false then 5 else if inB m 0 999999 = false then 1 else if inB f 0 8 = false then 1 else 0) := Lib.hid (by rw [HE.out, if_neg (by simp [k1])])
    clear k1
    go_wp2_with fail
    refine (isKey_c s _ hs).mono ?_; rintro e w1 ⟨rfl, rfl⟩
    cases k2 : keyB s with
    | false =>
      have HF : Hid (R = 5) := Lib.hid (by rw [HE.out, if_pos k2])
      clear k2
      go_wp2_with fail
      go_ret
      exact ⟨ret_int HF.out.symm, hG1⟩
    | true =>
      have HE : Hid (R = if inB m 0 999999 = false then 1 else if inB f 0 8 = false then 1 else 0) := Lib.hid (by rw [HE.out, if_neg (by simp [k2])])
      clear k2
      go_wp2_with fail
      refine (within_c m 0 999999 _).mono ?_; rintro e w1 ⟨rfl, rfl⟩
      cases k3 : inB m 0 999999 with
      | false =>
        have HF : Hid (R = 1) := Lib.hid (by rw [HE.out, if_pos k3])
        clear k3
        go_wp2_with fail
        go_ret
        exact ⟨ret_int HF.out.symm, hG1⟩
      | true =>
        have HE : Hid (R = if inB f 0 8 = false then 1 else 0) := Lib.hid (by rw [HE.out, if_neg (by simp [k3])])
        clear k3
        go_wp2_with fail
        refine (within_c f 0 8 _).mono ?_; rintro e w1 ⟨rfl, rfl⟩
        cases k4 : inB f 0 8 with
        | false =>
          have HF : Hid (R = 1) := Lib.hid (by rw [HE.out, if_pos k4])
          clear k4
          go_wp2_with fail
          go_ret
          exact ⟨ret_int HF.out.symm, hG1⟩
        | true =>
          have HF : Hid (R = 0) := Lib.hid (by rw [HE.out, if_neg (by simp [k4])])
          clear k4
          go_wp2_with fail
          go_ret
          exact ⟨ret_int HF.out.symm, hG1⟩
set_option maxRecDepth 100000 in
theorem isOut_c (p : Lg) (w : World) : Calls Try.prog 68 #[.agg (lgC p)] w fun e w' => e = .returned (.bool (p.2.2.1 == -1)) ∧ G w w' none := by
  have hG1 := (G.refl w none).alloc (.cells (lgC p) 74)
  obtain ⟨p1, ⟨o1, o2, o3, o4⟩, i1, i2, i3, i4⟩ := p
  simp only [lgC] at hG1 ⊢
  go_enter Try.func68, Try.ntmps68
  go_wp2_with fail
  go_ret
  exact ⟨rfl, hG1⟩
set_option maxRecDepth 100000 in
set_option maxHeartbeats 4000000 in
theorem checkBegin_c (h : Hh) (v : Value) (l : List Lg) (k : Nat) (p : Lg) (w : World) (hr : RdR w 9 lgC v l) (hp : l[k]? = some p) (hn : l.length ≤ 1000) :
    Calls Try.prog 70 #[.agg (hiC h v), .int .i64 k] w fun e w' => e = .returned (.int .i64 (beE h.2.2.1 (prevAt l k) p)) ∧ G w w' none := by
  have hH := Bk.new w 46 (hiC h v)
  have hGH := (G.refl w none).alloc (.cells (hiC h v) 46)
  have HR := Lib.hid (hr.quiet hGH)
  obtain ⟨a, cap, rfl, hcap, hm⟩ := RdR.form hr
  clear hr
  have hk : k < l.length := (List.getElem?_eq_some_iff.1 hp).1
  obtain ⟨bb, bo, rfl, -, -⟩ := RdR.elem lgC_sz HR.out (G.refl _ none) hp
  have HW := Lib.hid (lgRow HR.out (G.refl _ none) hp)
  have HP := Lib.hid hp
  clear hp
  simp only [hiC] at hH hGH HR HW ⊢
  go_enter Try.func70, Try.ntmps70
  go_upto_if 13 with (refine wpList_load_at rfl 74 _ rfl ⟨bb, bo + k * 9, none⟩ rfl #[.string p.1, .int .i64 p.2.1.1, .string p.2.1.2.1, .int .i64 p.2.1.2.2.1, .int .i64 p.2.1.2.2.2, .int .i64 p.2.2.1, .string p.2.2.2.1, .int .i64 p.2.2.2.2.1, .int .i64 p.2.2.2.2.2] _ HW.out Try.underlying74 rfl (lg_info p) ?_)
  have hL : Bk ((w.alloc (.cells #[.string h.1, .string h.2.1, .int .i64 h.2.2.1, .int .i64 h.2.2.2, .slice (some ⟨bb, bo, none⟩) l.length cap] 46)).alloc (.cells #[.string p.1, .int .i64 p.2.1.1, .string p.2.1.2.1, .int .i64 p.2.1.2.2.1, .int .i64 p.2.1.2.2.2, .int .i64 p.2.2.1, .string p.2.2.2.1, .int .i64 p.2.2.2.2.1, .int .i64 p.2.2.2.2.2] 74)) (w.heap.size + 1) 74 (lgC p) := Bk.newAt (by simp) _ _
  have hG := hGH.alloc (.cells #[.string p.1, .int .i64 p.2.1.1, .string p.2.1.2.1, .int .i64 p.2.1.2.2.1, .int .i64 p.2.1.2.2.2, .int .i64 p.2.2.1, .string p.2.2.2.1, .int .i64 p.2.2.2.2.1, .int .i64 p.2.2.2.2.2] 74)
  have hH := hH.alloc (.cells #[.string p.1, .int .i64 p.2.1.1, .string p.2.1.2.1, .int .i64 p.2.1.2.2.1, .int .i64 p.2.1.2.2.2, .int .i64 p.2.2.1, .string p.2.2.2.1, .int .i64 p.2.2.2.2.1, .int .i64 p.2.2.2.2.2] 74)
  have HR := Lib.hid (HR.out.quiet ((G.refl _ none).alloc (.cells #[.string p.1, .int .i64 p.2.1.1, .string p.2.1.2.1, .int .i64 p.2.1.2.2.1, .int .i64 p.2.1.2.2.2, .int .i64 p.2.2.1, .string p.2.2.2.1, .int .i64 p.2.2.2.2.1, .int .i64 p.2.2.2.2.2] 74)))
  clear HW hGH
  generalize (w.alloc (.cells #[.string h.1, .string h.2.1, .int .i64 h.2.2.1, .int .i64 h.2.2.2, .slice (some ⟨bb, bo, none⟩) l.length cap] 46)).alloc (.cells #[.string p.1, .int .i64 p.2.1.1, .string p.2.1.2.1, .int .i64 p.2.1.2.2.1, .int .i64 p.2.1.2.2.2, .int .i64 p.2.2.1, .string p.2.2.2.1, .int .i64 p.2.2.2.2.1, .int .i64 p.2.2.2.2.2] 74) = w2 at hL hG hH HR ⊢
  have c1 : w2.cell? ⟨w.heap.size + 1, 1, none⟩ = some (.int .i64 p.2.1.1) := hL.cell 1
  have d2 : w2.cell? ⟨w.heap.size, 2, none⟩ = some (.int .i64 h.2.2.1) := hH.cell 2
  cases k with
  | zero =>
    by_cases hq : p.2.1.1 = h.2.2.1
    · have HF : Hid (beE h.2.2.1 (prevAt l 0) p = 0) := Lib.hid (if_pos hq)
      go_wp2_with fail
      go_ret
      exact ⟨ret_int HF.out.symm, hG⟩
    · have HF : Hid (beE h.2.2.1 (prevAt l 0) p = 7) := Lib.hid (if_neg hq)
      go_wp2_with fail
      go_ret
      exact ⟨ret_int HF.out.symm, hG⟩
  | succ m =>
    obtain ⟨q, hq2⟩ : ∃ q, l[m]? = some q := ⟨_, List.getElem?_eq_getElem (by omega)⟩
    have HA : Hid (beE h.2.2.1 (prevAt l (m + 1)) p = if p.2.1.1 = q.2.2.1 then (if p.1 = q.1 then 16 else if p.2.1.2.1 = q.2.2.2.1 then 0 else 8) else 7) := Lib.hid (by rw [prevAt_succ l m q hq2]; rfl)
    have hsub : IntKind.i64.wrap (((m + 1 : Nat) : Int) - 1) = (m : Int) := by rw [show ((m + 1 : Nat) : Int) - 1 = (m : Int) by omega]; rw [IntKind.wrap_i64]; omega
    have hsub2 : IntKind.i64.wrap (m : Int) = (m : Int) := by rw [IntKind.wrap_i64]; omega
    have hsub3 : IntKind.i64.wrap ((m : Int) + 1 - 1) = (m : Int) := by rw [IntKind.wrap_i64]; omega
    have hm0 : (0 : Int) ≤ (m : Int) := Int.natCast_nonneg m
    have hml : (m : Int) < (l.length : Int) := by omega
    have hne : (((m + 1 : Nat) : Int) == 0) = false := by simp; omega
    have hne2 : ((m : Int) + 1 == 0) = false := by simp; omega
    have HW := Lib.hid (lgRow HR.out (G.refl _ none) hq2)
    have d4 : w2.cell? ⟨w.heap.size, 4, none⟩ = some (.slice (some ⟨bb, bo, none⟩) l.length cap) := hH.cell 4
    obtain ⟨B, hB⟩ : ∃ B, beE h.2.2.1 (prevAt l (m + 1)) p = B := ⟨_, rfl⟩
    rw [hB] at HA
    have HBB := Lib.hid hB
    clear hB hq2
    go_upto_region 7 with (refine wpList_load_at rfl 74 _ rfl ⟨bb, bo + m * 9, none⟩ rfl #[.string q.1, .int .i64 q.2.1.1, .string q.2.1.2.1, .int .i64 q.2.1.2.2.1, .int .i64 q.2.1.2.2.2, .int .i64 q.2.2.1, .string q.2.2.2.1, .int .i64 q.2.2.2.2.1, .int .i64 q.2.2.2.2.2] _ HW.out Try.underlying74 rfl (lg_info q) ?_)
    have hQ := Bk.new w2 74 (lgC q)
    have hG := hG.alloc (.cells (lgC q) 74)
    have hL := hL.alloc (.cells (lgC q) 74)
    rw [show #[.string q.1, .int .i64 q.2.1.1, .string q.2.1.2.1, .int .i64 q.2.1.2.2.1, .int .i64 q.2.1.2.2.2, .int .i64 q.2.2.1, .string q.2.2.2.1, .int .i64 q.2.2.2.2.1, .int .i64 q.2.2.2.2.2] = lgC q from rfl]
    generalize w2.alloc (.cells (lgC q) 74) = w3 at hQ hG hL ⊢
    generalize w2.heap.size = g at hQ ⊢
    have c0 : w3.cell? ⟨w.heap.size + 1, 0, none⟩ = some (.string p.1) := hL.cell 0
    have c1 : w3.cell? ⟨w.heap.size + 1, 1, none⟩ = some (.int .i64 p.2.1.1) := hL.cell 1
    have c2 : w3.cell? ⟨w.heap.size + 1, 2, none⟩ = some (.string p.2.1.2.1) := hL.cell 2
    have q0 : w3.cell? ⟨g, 0, none⟩ = some (.string q.1) := hQ.cell 0
    have q5 : w3.cell? ⟨g, 5, none⟩ = some (.int .i64 q.2.2.1) := hQ.cell 5
    have q6 : w3.cell? ⟨g, 6, none⟩ = some (.string q.2.2.2.1) := hQ.cell 6
    clear hL hQ hH HR d2 d4
    by_cases k1 : p.2.1.1 = q.2.2.1
    · have HA : Hid (B = if p.1 = q.1 then 16 else if p.2.1.2.1 = q.2.2.2.1 then 0 else 8) := Lib.hid (by rw [HA.out, if_pos k1])
      have k1' : (p.2.1.1 != q.2.2.1) = false := by simpa using k1
      clear k1
      by_cases k2 : p.1 = q.1
      · have HF : Hid (B = 16) := Lib.hid (by rw [HA.out, if_pos k2])
        have k2' : (p.1.toList == q.1.toList) = true := by rw [k2]; simp
        clear k2
        go_wp2_with fail
        go_ret
        exact ⟨ret_int (by rw [HBB.out, HF.out]), hG⟩
      · have HA : Hid (B = if p.2.1.2.1 = q.2.2.2.1 then 0 else 8) := Lib.hid (by rw [HA.out, if_neg k2])
        have k2' : (p.1.toList == q.1.toList) = false := by simpa using fun e => k2 (toList_ext e)
        clear k2
        by_cases k3 : p.2.1.2.1 = q.2.2.2.1
        · have HF : Hid (B = 0) := Lib.hid (by rw [HA.out, if_pos k3])
          have k3' : (p.2.1.2.1.toList == q.2.2.2.1.toList) = true := by rw [k3]; simp
          have k3n : (p.2.1.2.1.toList != q.2.2.2.1.toList) = false := by rw [k3]; simp
          clear k3
          go_wp2_with fail
          go_ret
          exact ⟨ret_int (by rw [HBB.out, HF.out]), hG⟩
        · have HF : Hid (B = 8) := Lib.hid (by rw [HA.out, if_neg k3])
          have k3' : (p.2.1.2.1.toList == q.2.2.2.1.toList) = false := by simpa using fun e => k3 (toList_ext e)
          have k3n : (p.2.1.2.1.toList != q.2.2.2.1.toList) = true := by simpa using fun e => k3 (toList_ext e)
          clear k3
          go_wp2_with fail
          go_ret
          exact ⟨ret_int (by rw [HBB.out, HF.out]), hG⟩
    · have HF : Hid (B = 7) := Lib.hid (by rw [HA.out, if_neg k1])
      have k1' : (p.2.1.1 != q.2.2.1) = true := by simpa using k1
      clear k1
      go_wp2_with fail
      go_ret
      exact ⟨ret_int (by rw [HBB.out, HF.out]), hG⟩
set_option maxRecDepth 100000 in
set_option maxHeartbeats 4000000 in
theorem checkEnd_c (h : Hh) (v : Value) (l : List Lg) (k : Nat) (p : Lg) (w : World) (hr : RdR w 9 lgC v l) (hp : l[k]? = some p) (hs : Small p.2.2.2.1) (hn : l.length ≤ 1000) :
    Calls Try.prog 71 #[.agg (hiC h v), .int .i64 k] w fun e w' => e = .returned (.int .i64 (enE (l.drop (k + 1)).isEmpty p)) ∧ G w w' none := by
  have hH := Bk.new w 46 (hiC h v)
  have hGH := (G.refl w none).alloc (.cells (hiC h v) 46)
  have HR := Lib.hid (hr.quiet hGH)
  obtain ⟨a, cap, rfl, hcap, hm⟩ := RdR.form hr
  clear hr
  have hk : k < l.length := (List.getElem?_eq_some_iff.1 hp).1
  have hki : (k : Int) < (l.length : Int) := by omega
  obtain ⟨bb, bo, rfl, -, -⟩ := RdR.elem lgC_sz HR.out (G.refl _ none) hp
  have HW := Lib.hid (lgRow HR.out (G.refl _ none) hp)
  clear hp
  have HLA : Hid ((l.drop (k + 1)).isEmpty = decide (l.length ≤ k + 1)) := Lib.hid (drop_empty l (k + 1))
  obtain ⟨E, hE⟩ : ∃ E, enE (l.drop (k + 1)).isEmpty p = E := ⟨_, rfl⟩
  have HE : Hid (E = if p.2.2.1 = -1 then (if p.2.2 = noIn then (if decide (l.length ≤ k + 1) = true then 0 else 11) else 3) else if rgE p.2.2 = 0 then (if p.2.2.1 ≤ p.2.1.1 then 7 else 0) else rgE p.2.2) := Lib.hid (by rw [← hE, HLA.out]; rfl)
  rw [hE]
  clear hE
  simp only [hiC] at hH hGH HR HW ⊢
  go_enter Try.func71, Try.ntmps71
  go_upto_region 2 with (refine wpList_load_at rfl 74 _ rfl ⟨bb, bo + k * 9, none⟩ rfl #[.string p.1, .int .i64 p.2.1.1, .string p.2.1.2.1, .int .i64 p.2.1.2.2.1, .int .i64 p.2.1.2.2.2, .int .i64 p.2.2.1, .string p.2.2.2.1, .int .i64 p.2.2.2.2.1, .int .i64 p.2.2.2.2.2] _ HW.out Try.underlying74 rfl (lg_info p) ?_)
  have hL : Bk ((w.alloc (.cells #[.string h.1, .string h.2.1, .int .i64 h.2.2.1, .int .i64 h.2.2.2, .slice (some ⟨bb, bo, none⟩) l.length cap] 46)).alloc (.cells #[.string p.1, .int .i64 p.2.1.1, .string p.2.1.2.1, .int .i64 p.2.1.2.2.1, .int .i64 p.2.1.2.2.2, .int .i64 p.2.2.1, .string p.2.2.2.1, .int .i64 p.2.2.2.2.1, .int .i64 p.2.2.2.2.2] 74)) (w.heap.size + 1) 74 (lgC p) := Bk.newAt (by simp) _ _
  have hG := hGH.alloc (.cells #[.string p.1, .int .i64 p.2.1.1, .string p.2.1.2.1, .int .i64 p.2.1.2.2.1, .int .i64 p.2.1.2.2.2, .int .i64 p.2.2.1, .string p.2.2.2.1, .int .i64 p.2.2.2.2.1, .int .i64 p.2.2.2.2.2] 74)
  have hH := hH.alloc (.cells #[.string p.1, .int .i64 p.2.1.1, .string p.2.1.2.1, .int .i64 p.2.1.2.2.1, .int .i64 p.2.1.2.2.2, .int .i64 p.2.2.1, .string p.2.2.2.1, .int .i64 p.2.2.2.2.1, .int .i64 p.2.2.2.2.2] 74)
  clear HW hGH HR
  generalize (w.alloc (.cells #[.string h.1, .string h.2.1, .int .i64 h.2.2.1, .int .i64 h.2.2.2, .slice (some ⟨bb, bo, none⟩) l.length cap] 46)).alloc (.cells #[.string p.1, .int .i64 p.2.1.1, .string p.2.1.2.1, .int .i64 p.2.1.2.2.1, .int .i64 p.2.1.2.2.2, .int .i64 p.2.2.1, .string p.2.2.2.1, .int .i64 p.2.2.2.2.1, .int .i64 p.2.2.2.2.2] 74) = w2 at hL hG hH ⊢
  go_wp2_with (refine wpList_load_row rfl 74 _ rfl (w.heap.size + 1) rfl 74 #[.string p.1, .int .i64 p.2.1.1, .string p.2.1.2.1, .int .i64 p.2.1.2.2.1, .int .i64 p.2.1.2.2.2, .int .i64 p.2.2.1, .string p.2.2.2.1, .int .i64 p.2.2.2.2.1, .int .i64 p.2.2.2.2.2] (0, 0) _ hL Try.underlying74 rfl (lg_info p) ?_)
  refine (isOut_c p _).mono ?_; rintro e w3 ⟨rfl, hG3⟩
  have hL := hL.quiet hG3
  have hH := hH.quiet hG3
  have hG := hG.trans hG3
  clear hG3
  have HP := Lib.hid (hL.part 5 #[.int .i64 p.2.2.1, .string p.2.2.2.1, .int .i64 p.2.2.2.2.1, .int .i64 p.2.2.2.2.2] (lg_in p))
  have c1 : w3.cell? ⟨w.heap.size + 1, 1, none⟩ = some (.int .i64 p.2.1.1) := hL.cell 1
  have c5 : w3.cell? ⟨w.heap.size + 1, 5, none⟩ = some (.int .i64 p.2.2.1) := hL.cell 5
  have d4 : w3.cell? ⟨w.heap.size, 4, none⟩ = some (.slice (some ⟨bb, bo, none⟩) l.length cap) := hH.cell 4
  clear hH
  by_cases k1 : p.2.2.1 = -1
  · have k1' : (p.2.2.1 == -1) = true := by simpa using k1
    rw [k1']
    have HN := fun w : World => rg_neq p.2.2 noIn w
    by_cases k2 : p.2.2 = noIn
    · have HNN : Hid (∀ w : World, (binOp .neq 50 (.agg #[.int .i64 p.2.2.1, .string p.2.2.2.1, .int .i64 p.2.2.2.2.1, .int .i64 p.2.2.2.2.2]) (.agg #[.int .i64 (-1), .string ⟨#[]⟩, .int .i64 0, .int .i64 0])).run Try.prog w = .ok (.bool false) w) := Lib.hid fun w => by
        have := HN w
        rw [decide_eq_true k2] at this
        exact this
      have hnn := HNN.out
      have HE : Hid (E = if decide (l.length ≤ k + 1) = true then 0 else 11) := Lib.hid (by rw [HE.out, if_pos k1, if_pos k2])
      have hl1 : IntKind.i64.wrap ((l.length : Int) - 1) = (l.length : Int) - 1 := by rw [IntKind.wrap_i64]; omega
      clear k1 k1' k2 HN HNN
      by_cases k3 : l.length ≤ k + 1
      · have HF : Hid (E = 0) := Lib.hid (by rw [HE.out, if_pos (decide_eq_true k3)])
        have k3' : ¬ ((k : Int) < (l.length : Int) - 1) := by omega
        clear k3
        go_wp2_with (refine wpList_load_at rfl 50 _ rfl ⟨w.heap.size + 1, 5, none⟩ rfl #[.int .i64 p.2.2.1, .string p.2.2.2.1, .int .i64 p.2.2.2.2.1, .int .i64 p.2.2.2.2.2] _ HP.out Try.underlying50 rfl (rg_info p.2.2) ?_)
        go_ret
        exact ⟨ret_int HF.out.symm, hG⟩
      · have HF : Hid (E = 11) := Lib.hid (by rw [HE.out, if_neg (by simpa using k3)])
        have k3' : (k : Int) < (l.length : Int) - 1 := by omega
        clear k3
        go_wp2_with (refine wpList_load_at rfl 50 _ rfl ⟨w.heap.size + 1, 5, none⟩ rfl #[.int .i64 p.2.2.1, .string p.2.2.2.1, .int .i64 p.2.2.2.2.1, .int .i64 p.2.2.2.2.2] _ HP.out Try.underlying50 rfl (rg_info p.2.2) ?_)
        go_ret
        exact ⟨ret_int HF.out.symm, hG⟩
    · have HNN : Hid (∀ w : World, (binOp .neq 50 (.agg #[.int .i64 p.2.2.1, .string p.2.2.2.1, .int .i64 p.2.2.2.2.1, .int .i64 p.2.2.2.2.2]) (.agg #[.int .i64 (-1), .string ⟨#[]⟩, .int .i64 0, .int .i64 0])).run Try.prog w = .ok (.bool true) w) := Lib.hid fun w => by
        have := HN w
        rw [decide_eq_false k2] at this
        exact this
      have hnn := HNN.out
      have HF : Hid (E = 3) := Lib.hid (by rw [HE.out, if_pos k1, if_neg k2])
      clear HE k1 k1' k2 HN HNN
      go_wp2_with (refine wpList_load_at rfl 50 _ rfl ⟨w.heap.size + 1, 5, none⟩ rfl #[.int .i64 p.2.2.1, .string p.2.2.2.1, .int .i64 p.2.2.2.2.1, .int .i64 p.2.2.2.2.2] _ HP.out Try.underlying50 rfl (rg_info p.2.2) ?_)
      go_ret
      exact ⟨ret_int HF.out.symm, hG⟩
  · have k1' : (p.2.2.1 == -1) = false := by simpa using k1
    rw [k1']
    have HE : Hid (E = if rgE p.2.2 = 0 then (if p.2.2.1 ≤ p.2.1.1 then 7 else 0) else rgE p.2.2) := Lib.hid (by rw [HE.out, if_neg k1])
    clear k1 k1'
    go_wp2_with (refine wpList_load_at rfl 50 _ rfl ⟨w.heap.size + 1, 5, none⟩ rfl #[.int .i64 p.2.2.1, .string p.2.2.2.1, .int .i64 p.2.2.2.2.1, .int .i64 p.2.2.2.2.2] _ HP.out Try.underlying50 rfl (rg_info p.2.2) ?_)
    refine (checkReading_c p.2.2 _ hs).mono ?_; rintro e w4 ⟨rfl, hG4⟩
    have hL := hL.quiet hG4
    have hG := hG.trans hG4
    clear hG4 c1 c5 d4 HP
    have c1 : w4.cell? ⟨w.heap.size + 1, 1, none⟩ = some (.int .i64 p.2.1.1) := hL.cell 1
    have c5 : w4.cell? ⟨w.heap.size + 1, 5, none⟩ = some (.int .i64 p.2.2.1) := hL.cell 5
    obtain ⟨R, hR⟩ : ∃ R, rgE p.2.2 = R := ⟨_, rfl⟩
    rw [hR] at HE ⊢
    clear hR
    by_cases k2 : R = 0
    · have HE5 : Hid (E = if p.2.2.1 ≤ p.2.1.1 then 7 else 0) := Lib.hid (by rw [HE.out, if_pos k2])
      subst k2
      by_cases k3 : p.2.2.1 ≤ p.2.1.1
      · have HF : Hid (E = 7) := Lib.hid (by rw [HE5.out, if_pos k3])
        go_wp2_with fail
        go_ret
        exact ⟨ret_int HF.out.symm, hG⟩
      · have HF : Hid (E = 0) := Lib.hid (by rw [HE5.out, if_neg k3])
        go_wp2_with fail
        go_ret
        exact ⟨ret_int HF.out.symm, hG⟩
    · have HF : Hid (E = R) := Lib.hid (by rw [HE.out, if_neg k2])
      have k2' : (R != 0) = true := by simpa using k2
      clear k2
      go_wp2_with fail
      go_ret
      exact ⟨ret_int HF.out.symm, hG⟩
end Go.Proofs.Ytbddcbbjmgepnaa

/- Hires: checkLeg, Check. -/
namespace Go.Proofs.Ytbddcbbjmgepnaa
open Go.RowKit

theorem hi_time (h : Hh) (v : Value) : ∀ j u, (#[Value.int .i64 h.2.2.1, .int .i64 h.2.2.2] : Array Value).toList[j]? = some u → (hiC h v)[2 + j]? = some u := fun j u hu => by
  match j, hu with
  | 0, hu => exact hu
  | 1, hu => exact hu
  | n + 2, hu => simp at hu
set_option maxRecDepth 100000 in
set_option maxHeartbeats 4000000 in
theorem checkLeg_c (h : Hh) (v : Value) (l : List Lg) (k : Nat) (p : Lg) (w : World) (hr : RdR w 9 lgC v l) (hp : l[k]? = some p) (hs : lgB p) (hn : l.length ≤ 1000) :
    Calls Try.prog 67 #[.agg (hiC h v), .int .i64 k] w fun e w' => e = .returned (.int .i64 (lgE h.2.2.1 (prevAt l k) (l.drop (k + 1)).isEmpty p)) ∧ G w w' none := by
  have hH := Bk.new w 46 (hiC h v)
  have hGH := (G.refl w none).alloc (.cells (hiC h v) 46)
  have hR := hr.quiet hGH
  obtain ⟨a, cap, rfl, hcap, hm⟩ := RdR.form hr
  clear hr
  have hk : k < l.length := (List.getElem?_eq_some_iff.1 hp).1
  have hki : (k : Int) < (l.length : Int) := by omega
  obtain ⟨bb, bo, rfl, -, -⟩ := RdR.elem lgC_sz hR (G.refl _ none) hp
  have HW := Lib.hid (lgRow hR (G.refl _ none) hp)
  have HP := Lib.hid hp
  obtain ⟨hs1, hs2, hs3⟩ := hs
  have hs1' := hs1
  unfold Small at hs1'
  clear hp
  obtain ⟨E, hE⟩ : ∃ E, lgE h.2.2.1 (prevAt l k) (l.drop (k + 1)).isEmpty p = E := ⟨_, rfl⟩
  have HE : Hid (E = if keyB p.1 = false then 5 else if rgE p.2.1 = 0 then (if beE h.2.2.1 (prevAt l k) p = 0 then enE (l.drop (k + 1)).isEmpty p else beE h.2.2.1 (prevAt l k) p) else rgE p.2.1) := Lib.hid hE.symm
  rw [hE]
  clear hE
  simp only [hiC] at hH hGH hR HW ⊢
  go_enter Try.func67, Try.ntmps67
  go_upto_region 2 with (refine wpList_load_at rfl 74 _ rfl ⟨bb, bo + k * 9, none⟩ rfl #[.string p.1, .int .i64 p.2.1.1, .string p.2.1.2.1, .int .i64 p.2.1.2.2.1, .int .i64 p.2.1.2.2.2, .int .i64 p.2.2.1, .string p.2.2.2.1, .int .i64 p.2.2.2.2.1, .int .i64 p.2.2.2.2.2] _ HW.out Try.underlying74 rfl (lg_info p) ?_)
  have hL : Bk ((w.alloc (.cells #[.string h.1, .string h.2.1, .int .i64 h.2.2.1, .int .i64 h.2.2.2, .slice (some ⟨bb, bo, none⟩) l.length cap] 46)).alloc (.cells #[.string p.1, .int .i64 p.2.1.1, .string p.2.1.2.1, .int .i64 p.2.1.2.2.1, .int .i64 p.2.1.2.2.2, .int .i64 p.2.2.1, .string p.2.2.2.1, .int .i64 p.2.2.2.2.1, .int .i64 p.2.2.2.2.2] 74)) (w.heap.size + 1) 74 (lgC p) := Bk.newAt (by simp) _ _
  have hG := hGH.alloc (.cells #[.string p.1, .int .i64 p.2.1.1, .string p.2.1.2.1, .int .i64 p.2.1.2.2.1, .int .i64 p.2.1.2.2.2, .int .i64 p.2.2.1, .string p.2.2.2.1, .int .i64 p.2.2.2.2.1, .int .i64 p.2.2.2.2.2] 74)
  have hH := hH.alloc (.cells #[.string p.1, .int .i64 p.2.1.1, .string p.2.1.2.1, .int .i64 p.2.1.2.2.1, .int .i64 p.2.1.2.2.2, .int .i64 p.2.2.1, .string p.2.2.2.1, .int .i64 p.2.2.2.2.1, .int .i64 p.2.2.2.2.2] 74)
  have hR := hR.quiet ((G.refl _ none).alloc (.cells #[.string p.1, .int .i64 p.2.1.1, .string p.2.1.2.1, .int .i64 p.2.1.2.2.1, .int .i64 p.2.1.2.2.2, .int .i64 p.2.2.1, .string p.2.2.2.1, .int .i64 p.2.2.2.2.1, .int .i64 p.2.2.2.2.2] 74))
  clear HW hGH
  generalize (w.alloc (.cells #[.string h.1, .string h.2.1, .int .i64 h.2.2.1, .int .i64 h.2.2.2, .slice (some ⟨bb, bo, none⟩) l.length cap] 46)).alloc (.cells #[.string p.1, .int .i64 p.2.1.1, .string p.2.1.2.1, .int .i64 p.2.1.2.2.1, .int .i64 p.2.1.2.2.2, .int .i64 p.2.2.1, .string p.2.2.2.1, .int .i64 p.2.2.2.2.1, .int .i64 p.2.2.2.2.2] 74) = w2 at hL hG hH hR ⊢
  have c0 : w2.cell? ⟨w.heap.size + 1, 0, none⟩ = some (.string p.1) := hL.cell 0
  have HO := Lib.hid (hL.part 1 #[.int .i64 p.2.1.1, .string p.2.1.2.1, .int .i64 p.2.1.2.2.1, .int .i64 p.2.1.2.2.2] (lg_out p))
  go_wp2_with fail
  refine (isKey_c _ _ hs1').mono ?_; rintro e w' ⟨rfl, rfl⟩
  cases k1 : keyB p.1 with
  | false =>
    have HF : Hid (E = 5) := Lib.hid (by rw [HE.out, if_pos k1])
    clear k1
    go_wp2_with fail
    go_ret
    exact ⟨ret_int HF.out.symm, hG⟩
  | true =>
    have HE1 : Hid (E = if rgE p.2.1 = 0 then (if beE h.2.2.1 (prevAt l k) p = 0 then enE (l.drop (k + 1)).isEmpty p else beE h.2.2.1 (prevAt l k) p) else rgE p.2.1) := Lib.hid (by rw [HE.out, if_neg (by simp [k1])])
    clear k1 HE
    go_wp2_with (refine wpList_load_at rfl 50 _ rfl ⟨w.heap.size + 1, 1, none⟩ rfl #[.int .i64 p.2.1.1, .string p.2.1.2.1, .int .i64 p.2.1.2.2.1, .int .i64 p.2.1.2.2.2] _ HO.out Try.underlying50 rfl (rg_info p.2.1) ?_)
    refine (checkReading_c p.2.1 _ hs2).mono ?_; rintro e w4 ⟨rfl, hG4⟩
    have hL := hL.quiet hG4
    have hH := hH.quiet hG4
    have hR := hR.quiet hG4
    have hG := hG.trans hG4
    clear hG4 c0 HO
    obtain ⟨R, hRR⟩ : ∃ R, rgE p.2.1 = R := ⟨_, rfl⟩
    rw [hRR] at HE1 ⊢
    clear hRR
    by_cases k2 : R = 0
    · have HE2 : Hid (E = if beE h.2.2.1 (prevAt l k) p = 0 then enE (l.drop (k + 1)).isEmpty p else beE h.2.2.1 (prevAt l k) p) := Lib.hid (by rw [HE1.out, if_pos k2])
      subst k2
      clear HE1
      go_wp2_with (refine wpList_load_row rfl 46 _ rfl w.heap.size rfl 46 #[.string h.1, .string h.2.1, .int .i64 h.2.2.1, .int .i64 h.2.2.2, .slice (some ⟨bb, bo, none⟩) l.length cap] (0, 0) _ hH Try.underlying46 rfl (hi_info h _) ?_)
      refine (checkBegin_c h _ l k p _ hR HP.out hn).mono ?_; rintro e w5 ⟨rfl, hG5⟩
      have hH := hH.quiet hG5
      have hR := hR.quiet hG5
      have hG := hG.trans hG5
      clear hG5
      obtain ⟨B, hB⟩ : ∃ B, beE h.2.2.1 (prevAt l k) p = B := ⟨_, rfl⟩
      rw [hB] at HE2 ⊢
      clear hB
      by_cases k3 : B = 0
      · have HF : Hid (E = enE (l.drop (k + 1)).isEmpty p) := Lib.hid (by rw [HE2.out, if_pos k3])
        subst k3
        clear HE2
        go_wp2_with (refine wpList_load_row rfl 46 _ rfl w.heap.size rfl 46 #[.string h.1, .string h.2.1, .int .i64 h.2.2.1, .int .i64 h.2.2.2, .slice (some ⟨bb, bo, none⟩) l.length cap] (0, 0) _ hH Try.underlying46 rfl (hi_info h _) ?_)
        refine (checkEnd_c h _ l k p _ hR HP.out hs3 hn).mono ?_; rintro e w6 ⟨rfl, hG6⟩
        have hG := hG.trans hG6
        rw [← HF.out]
        go_wp2_with fail
        go_ret
        exact ⟨rfl, hG⟩
      · have HF : Hid (E = B) := Lib.hid (by rw [HE2.out, if_neg k3])
        have k3' : (B != 0) = true := by simpa using k3
        clear k3 HE2
        go_wp2_with fail
        go_ret
        exact ⟨ret_int HF.out.symm, hG⟩
    · have HF : Hid (E = R) := Lib.hid (by rw [HE1.out, if_neg k2])
      have k2' : (R != 0) = true := by simpa using k2
      clear k2 HE1
      go_wp2_with fail
      go_ret
      exact ⟨ret_int HF.out.symm, hG⟩
def LsRel (w : World) (f : Int) (l : List Lg) (i : Value) (wr : World) : Prop :=
  ∃ k : Nat, k ≤ l.length ∧ i = .int .i64 k ∧ lsE f none l = lsE f (prevAt l k) (l.drop k) ∧ G w wr none
set_option maxRecDepth 100000 in
set_option maxHeartbeats 4000000 in
theorem check_c (h : Hh) (v : Value) (l : List Lg) (w : World) (hr : RdR w 9 lgC v l) (hl : LgOk l) (hs1 : Small h.1) (hs2 : Small h.2.1) (hb1 : bnd h.2.2.1) (hb2 : bnd h.2.2.2) (hn : l.length ≤ 1000) :
    Calls Try.prog 56 #[.agg (hiC h v)] w fun e w' => e = .returned (.int .i64 (hiE h l)) ∧ G w w' none := by
  have hH := Bk.new w 46 (hiC h v)
  have hG := (G.refl w none).alloc (.cells (hiC h v) 46)
  have hR := hr.quiet hG
  obtain ⟨a, cap, rfl, hcap, hm⟩ := RdR.form hr
  clear hr
  unfold Small at hs1 hs2
  obtain ⟨E, hE⟩ : ∃ E, hiE h l = E := ⟨_, rfl⟩
  have HE : Hid (E = if keyB h.1 = false then 5 else if keyB h.2.1 = false then 5 else if tE h.2.2.1 h.2.2.2 = 0 then (if l.length = 0 then 3 else if 20 < l.length then 2 else lsE h.2.2.1 none l) else tE h.2.2.1 h.2.2.2) := Lib.hid hE.symm
  rw [hE]
  clear hE
  simp only [hiC] at hH hG hR ⊢
  go_enter Try.func56, Try.ntmps56
  go_upto_region 1 with fail
  generalize w.alloc (.cells #[.string h.1, .string h.2.1, .int .i64 h.2.2.1, .int .i64 h.2.2.2, .slice a l.length cap] 46) = w2 at hG hH hR ⊢
  have hg := hH.lt
  generalize w.heap.size = g at hH hg ⊢
  have c0 : w2.cell? ⟨g, 0, none⟩ = some (.string h.1) := hH.cell 0
  have c1 : w2.cell? ⟨g, 1, none⟩ = some (.string h.2.1) := hH.cell 1
  go_wp2_with fail
  refine (isKey_c _ _ hs1).mono ?_; rintro e w' ⟨rfl, rfl⟩
  cases k1 : keyB h.1 with
  | false =>
    have HF : Hid (E = 5) := Lib.hid (by rw [HE.out, if_pos k1])
    clear k1
    go_wp2_with fail
    go_ret
    exact ⟨ret_int HF.out.symm, hG⟩
  | true =>
    have K1 := Lib.hid k1
    clear k1
    go_wp2_with fail
    refine (isKey_c _ _ hs2).mono ?_; rintro e w' ⟨rfl, rfl⟩
    cases k2 : keyB h.2.1 with
    | false =>
      have HF : Hid (E = 5) := Lib.hid (by rw [HE.out, if_neg (by simp [K1.out]), if_pos k2])
      clear k2
      go_wp2_with fail
      go_ret
      exact ⟨ret_int HF.out.symm, hG⟩
    | true =>
      have HE1 : Hid (E = if tE h.2.2.1 h.2.2.2 = 0 then (if l.length = 0 then 3 else if 20 < l.length then 2 else lsE h.2.2.1 none l) else tE h.2.2.1 h.2.2.2) := Lib.hid (by rw [HE.out, if_neg (by simp [K1.out]), if_neg (by simp [k2])])
      clear k2 HE
      have HT := Lib.hid (hH.part 2 #[.int .i64 h.2.2.1, .int .i64 h.2.2.2] (hi_time h _))
      go_wp2_with (refine wpList_load_at rfl 27 _ rfl ⟨g, 2, none⟩ rfl #[.int .i64 h.2.2.1, .int .i64 h.2.2.2] _ HT.out Try.underlying27 rfl (wi_info _ _) ?_)
      refine (days_c _ _ _ hb1 hb2).mono ?_; rintro e w3 ⟨rfl, hG3⟩
      have hH := hH.quiet hG3
      have hR := hR.quiet hG3
      have hG := hG.trans hG3
      clear hG3 c0 c1 HT
      obtain ⟨T, hT⟩ : ∃ T, tE h.2.2.1 h.2.2.2 = T := ⟨_, rfl⟩
      rw [hT] at HE1 ⊢
      clear hT
      generalize tN h.2.2.1 h.2.2.2 = N
      by_cases k3 : T = 0
      · have HE2 : Hid (E = if l.length = 0 then 3 else if 20 < l.length then 2 else lsE h.2.2.1 none l) := Lib.hid (by rw [HE1.out, if_pos k3])
        subst k3
        clear HE1
        have c4 : w3.cell? ⟨g, 4, none⟩ = some (.slice a l.length cap) := hH.cell 4
        by_cases k4 : l.length = 0
        · have HF : Hid (E = 3) := Lib.hid (by rw [HE2.out, if_pos k4])
          have k4' : ((l.length : Int) == 0) = true := by rw [k4]; rfl
          clear k4
          go_wp2_with fail
          go_ret
          exact ⟨ret_int HF.out.symm, hG⟩
        · have k4' : ((l.length : Int) == 0) = false := by rw [beq_eq_false_iff_ne]; omega
          by_cases k5 : 20 < l.length
          · have HF : Hid (E = 2) := Lib.hid (by rw [HE2.out, if_neg k4, if_pos k5])
            have k5' : (20 : Int) < (l.length : Int) := by omega
            clear k5 k4
            go_wp2_with fail
            go_ret
            exact ⟨ret_int HF.out.symm, hG⟩
          · have HE3 : Hid (E = lsE h.2.2.1 none l) := Lib.hid (by rw [HE2.out, if_neg k4, if_neg k5])
            have k5' : ¬ (20 : Int) < (l.length : Int) := by omega
            clear k5 k4 HE2
            have HHH := Lib.hid hH
            have HRR := Lib.hid hR
            clear hH hR
            go_wp2_with fail
            go_loopw [37] (LsRel w3 h.2.2.1 l) (fun i _ => l.length - (intOf i).toNat)
            case atStart => exact ⟨0, by omega, rfl, rfl, G.refl _ _⟩
            case round =>
              obtain ⟨k, hkl, rfl, heq, hGr⟩ := hrel
              have HEq := Lib.hid heq
              clear heq c4
              have hH := HHH.out.quiet hGr
              have hR := HRR.out.quiet hGr
              by_cases hk : k < l.length
              · obtain ⟨p, hp⟩ : ∃ p, l[k]? = some p := ⟨_, List.getElem?_eq_getElem hk⟩
                have hdrop : l.drop k = p :: l.drop (k + 1) := by rw [List.drop_eq_getElem_cons hk, ← (List.getElem?_eq_some_iff.1 hp).2]
                have HS : Hid (lsE h.2.2.1 none l = if lgE h.2.2.1 (prevAt l k) (l.drop (k + 1)).isEmpty p = 0 then lsE h.2.2.1 (some p) (l.drop (k + 1)) else lgE h.2.2.1 (prevAt l k) (l.drop (k + 1)).isEmpty p) := Lib.hid (by rw [HEq.out, hdrop]; rfl)
                have hpb := hl p (List.mem_of_getElem? hp)
                have HP := Lib.hid hp
                have HK := Lib.hid hk
                have hki : (k : Int) < (l.length : Int) := by omega
                clear hdrop hp
                go_wp2_with (refine wpList_load_row rfl 46 _ rfl g rfl 46 #[.string h.1, .string h.2.1, .int .i64 h.2.2.1, .int .i64 h.2.2.2, .slice a l.length cap] (0, 0) _ hH Try.underlying46 rfl (hi_info h _) ?_)
                refine (checkLeg_c h _ l k p _ hR HP.out hpb hn).mono ?_; rintro e w5 ⟨rfl, hG5⟩
                have hGr5 := hGr.trans hG5
                clear hG5 hGr hH hR hpb
                obtain ⟨L, hL⟩ : ∃ L, lgE h.2.2.1 (prevAt l k) (l.drop (k + 1)).isEmpty p = L := ⟨_, rfl⟩
                rw [hL] at HS ⊢
                clear hL
                by_cases k6 : L = 0
                · have HF : Hid (lsE h.2.2.1 none l = lsE h.2.2.1 (prevAt l (k + 1)) (l.drop (k + 1))) := Lib.hid (by rw [HS.out, if_pos k6, prevAt_succ l k p HP.out])
                  subst k6
                  clear HS
                  go_wp2_with fail
                  go_roundw
                  case rel => exact ⟨k + 1, by omega, by go_num, HF.out, hGr5⟩
                  case measure => have := HK.out; simp [intOf]; omega
                · have HF : Hid (E = L) := Lib.hid (by rw [HE3.out, HS.out, if_neg k6])
                  have k6' : (L != 0) = true := by simpa using k6
                  clear k6 HS
                  go_wp2_with fail
                  go_ret
                  exact ⟨ret_int HF.out.symm, hG.trans hGr5⟩
              · obtain rfl : k = l.length := by omega
                have HF : Hid (E = 0) := Lib.hid (by rw [HE3.out, HEq.out, List.drop_length]; rfl)
                go_wp2_with fail
                go_ret
                exact ⟨ret_int HF.out.symm, hG.trans hGr⟩
      · have HF : Hid (E = T) := Lib.hid (by rw [HE1.out, if_neg k3])
        have k3' : (T != 0) = true := by simpa using k3
        clear k3 HE1
        go_wp2_with fail
        go_ret
        exact ⟨ret_int HF.out.symm, hG⟩
end Go.Proofs.Ytbddcbbjmgepnaa

/- Hires: the reference's readingFault, legFault, HireFault. -/
namespace Go.Proofs.Ytbddcbbjmgepnaa
open Go.RowKit

end Go.Proofs.Ytbddcbbjmgepnaa

/- Hires: openLeg, right, Start; made, StartOf. -/
namespace Go.Proofs.Ytbddcbbjmgepnaa
open Go.RowKit

def hiZ : Array Value := hiC (⟨#[]⟩, ⟨#[]⟩, 0, 0) (.slice none 0 0)
/-- What is returned of a hire: itself, or none. -/
def hiH (E : Int) (h : Hh) : Hh := if E = 0 then h else (⟨#[]⟩, ⟨#[]⟩, 0, 0)
def hiL (E : Int) (l : List Lg) : List Lg := if E = 0 then l else []
def MadePost (h : Hh) (l : List Lg) (B : Nat → Prop) (w : World) (e : Ending) (w' : World) : Prop :=
  ∃ (H : Hh) (a : Option Addr) (n c : Nat), e = .returned (.tuple #[.agg #[.string H.1, .string H.2.1, .int .i64 H.2.2.1, .int .i64 H.2.2.2, .slice a n c], .int .i64 (hiE h l)]) ∧ H = hiH (hiE h l) h ∧ (∀ k, (Value.slice a n c).ownBlock = some k → B k) ∧ RdR w' 9 lgC (.slice a n c) (hiL (hiE h l) l) ∧ G w w' none
/-- A row's block is there. -/
theorem Rd.blk {w : World} {z : Nat} {v : Value} {n : Nat} {cs : List Value} (h : Rd w z v n cs) : ∀ k, v.ownBlock = some k → k < w.heap.size := by
  obtain ⟨a, c, rfl, h1, h2, h3, h4, h5⟩ := h
  intro k hk
  cases a with
  | none => cases hk
  | some b =>
    have := (h5 b rfl).2.1
    cases hk
    exact this
theorem hi_one (h : Hh) (a : Option Addr) (n c : Nat) : (hiC h (.slice a n c)).all (·.oneCell') = true := by simp [hiC, Value.oneCell']
theorem lg_one (x : Lg) : (lgC x).all (·.oneCell') = true := by simp [lgC, Value.oneCell']
/-- Two results, the first a struct that lies in memory. -/
theorem results_cell_hi {P : Program} {fn : Func} {p u : Tmp} {ty : TypeId} (h : fn.results = #[.cell p ty, .tmp u]) (tmps : Array Value) (w : World) (g : Nat) (t : TypeId) (cs : Array Value) (fr : Nat × Nat) (d : TypeDesc)
    (hp : tmps.getD p undef = .pointer (some ⟨g, 0, none⟩)) (hg : w.heap[g]? = some (.cells cs t fr))
    (hu : P.underlying ty = some d) (hd : (match d with | .struct _ | .array _ _ => true | _ => false) = true) (hi : (P.info? ty).map (·.size) = some cs.size) :
    (results fn tmps).run P w = .ok (.tuple #[.agg cs, tmps.getD u undef]) w := by
  have hp' : tmps[p]?.getD undef = .pointer (some ⟨g, 0, none⟩) := by simpa using hp
  simp [results, h, hp', asAddr, run_loadVar_row w g t ty cs fr d hg hu hd hi]
set_option maxRecDepth 100000 in
set_option maxHeartbeats 4000000 in
theorem right_c (h : Hh) (v : Value) (l : List Lg) (w : World) (hr : RdR w 9 lgC v l) (hl : LgOk l) (hs1 : Small h.1) (hs2 : Small h.2.1) (hb1 : bnd h.2.2.1) (hb2 : bnd h.2.2.2) (hn : l.length ≤ 1000) :
    Calls Try.prog 31 #[.agg (hiC h v)] w (MadePost h l (fun k => v.ownBlock = some k) w) := by
  have hH := (Bk.new w 46 (hiC h v)).alloc (.cells hiZ 46)
  have hG := ((G.refl w none).alloc (.cells (hiC h v) 46)).alloc (.cells hiZ 46)
  have hZ := Bk.newAt (w := w.alloc (.cells (hiC h v) 46)) (b := w.heap.size + 1) (by simp) 46 hiZ
  have hR := hr.quiet hG
  have HLO := Lib.hid hr.blk
  obtain ⟨a, cap, rfl, hcap, hm⟩ := RdR.form hr
  clear hr
  simp only [hiC, hiZ] at hH hG hR hZ ⊢
  go_enter Try.func31, Try.ntmps31
  go_upto_region 1 with fail
  generalize (w.alloc (.cells #[.string h.1, .string h.2.1, .int .i64 h.2.2.1, .int .i64 h.2.2.2, .slice a l.length cap] 46)).alloc (.cells #[.string ⟨#[]⟩, .string ⟨#[]⟩, .int .i64 0, .int .i64 0, .slice none 0 0] 46) = w2 at hG hH hR hZ ⊢
  go_wp2_with (refine wpList_load_row rfl 46 _ rfl w.heap.size rfl 46 #[.string h.1, .string h.2.1, .int .i64 h.2.2.1, .int .i64 h.2.2.2, .slice a l.length cap] (0, 0) _ hH Try.underlying46 rfl (hi_info h _) ?_)
  refine (check_c h _ l _ hR hl hs1 hs2 hb1 hb2 hn).mono ?_; rintro e w3 ⟨rfl, hG3⟩
  have hH := hH.quiet hG3
  have hZ := hZ.quiet hG3
  have hG := hG.trans hG3
  have hR := hR.quiet hG3
  clear hG3
  obtain ⟨E, hE⟩ : ∃ E, hiE h l = E := ⟨_, rfl⟩
  have HFIN : Hid (hiE h l = E) := Lib.hid hE
  rw [hE]
  clear hE
  by_cases k1 : E = 0
  · subst k1
    go_wp2_with (first | (refine wpList_load_row rfl 46 _ rfl w.heap.size rfl 46 #[.string h.1, .string h.2.1, .int .i64 h.2.2.1, .int .i64 h.2.2.2, .slice a l.length cap] (0, 0) _ hH Try.underlying46 rfl (hi_info h _) ?_) | (refine wpList_store_row rfl 46 _ _ rfl (w.heap.size + 1) #[.string h.1, .string h.2.1, .int .i64 h.2.2.1, .int .i64 h.2.2.2, .slice a l.length cap] rfl rfl 46 _ hZ (hi_info _ _) rfl (hi_one h _ _ _) ?_))
    refine bodyPost_ret (results_cell_hi rfl _ _ (w.heap.size + 1) 46 #[.string h.1, .string h.2.1, .int .i64 h.2.2.1, .int .i64 h.2.2.2, .slice a l.length cap] (0, 0) _ rfl (hZ.setRow _) Try.underlying46 rfl (hi_info h _)) rfl ?_
    exact ⟨h, a, l.length, cap, by rw [HFIN.out]; rfl, by rw [HFIN.out]; rfl, fun _ hk => hk, by rw [HFIN.out]; exact hR.grown ((G.refl w3 (some (w.heap.size + 1))).setRow (.inr rfl) _) (fun k e hk => by cases e; have := HLO.out _ hk; omega), hG.setRow (.inl (by omega)) _⟩
  · have k1' : (E != 0) = true := by simpa using k1
    have K1 := Lib.hid k1
    clear k1
    go_wp2_with (refine wpList_store_row rfl 46 _ _ rfl (w.heap.size + 1) #[.string ⟨#[]⟩, .string ⟨#[]⟩, .int .i64 0, .int .i64 0, .slice none 0 0] rfl rfl 46 _ hZ (hi_info (⟨#[]⟩, ⟨#[]⟩, 0, 0) (.slice none 0 0)) rfl (hi_one (⟨#[]⟩, ⟨#[]⟩, 0, 0) _ _ _) ?_)
    refine bodyPost_ret (results_cell_hi rfl _ _ (w.heap.size + 1) 46 #[.string ⟨#[]⟩, .string ⟨#[]⟩, .int .i64 0, .int .i64 0, .slice none 0 0] (0, 0) _ rfl (hZ.setRow _) Try.underlying46 rfl (hi_info (⟨#[]⟩, ⟨#[]⟩, 0, 0) (.slice none 0 0))) rfl ?_
    exact ⟨(⟨#[]⟩, ⟨#[]⟩, 0, 0), none, 0, 0, by rw [HFIN.out]; rfl, by rw [HFIN.out, hiH, if_neg K1.out], fun _ hk => (by cases hk), by rw [HFIN.out, hiL, if_neg K1.out]; exact RdR.nil _ _ _, hG.setRow (.inl (by omega)) _⟩
set_option maxRecDepth 100000 in
set_option maxHeartbeats 2000000 in
theorem openLeg_c (s : ByteArray) (r : Rg) (w : World) : Calls Try.prog 32 #[.string s, .agg (rgC r)] w fun e w' => e = .returned (.agg (lgC (s, r, noIn))) ∧ G w w' none := by
  have hZ := Bk.newAt (w := w.alloc (.cells (rgC r) 50)) (b := w.heap.size + 1) (by simp) 74 (lgC (⟨#[]⟩, (0, ⟨#[]⟩, 0, 0), (0, ⟨#[]⟩, 0, 0)))
  have hB := (Bk.new w 50 (rgC r)).alloc (.cells (lgC (⟨#[]⟩, (0, ⟨#[]⟩, 0, 0), (0, ⟨#[]⟩, 0, 0))) 74)
  have hG := ((G.refl w none).alloc (.cells (rgC r) 50)).alloc (.cells (lgC (⟨#[]⟩, (0, ⟨#[]⟩, 0, 0), (0, ⟨#[]⟩, 0, 0))) 74)
  obtain ⟨r1, r2, r3, r4⟩ := r
  simp only [rgC, lgC, noIn] at hZ hB hG ⊢
  go_enter Try.func32, Try.ntmps32
  go_upto_region 1 with fail
  generalize (w.alloc (.cells #[.int .i64 r1, .string r2, .int .i64 r3, .int .i64 r4] 50)).alloc (.cells #[.string ⟨#[]⟩, .int .i64 0, .string ⟨#[]⟩, .int .i64 0, .int .i64 0, .int .i64 0, .string ⟨#[]⟩, .int .i64 0, .int .i64 0] 74) = w2 at hG hB hZ ⊢
  go_wp2_with (first | (refine wpList_load_row rfl 50 _ rfl w.heap.size rfl 50 #[.int .i64 r1, .string r2, .int .i64 r3, .int .i64 r4] (0, 0) _ hB Try.underlying50 rfl (rg_info (r1, r2, r3, r4)) ?_) | (refine wpList_store_row rfl 74 _ _ rfl (w.heap.size + 1) #[.string s, .int .i64 r1, .string r2, .int .i64 r3, .int .i64 r4, .int .i64 (-1), .string ⟨#[]⟩, .int .i64 0, .int .i64 0] rfl rfl 74 _ hZ (lg_info (s, (r1, r2, r3, r4), noIn)) rfl (lg_one (s, (r1, r2, r3, r4), noIn)) ?_))
  refine bodyPost_ret (results_cell_row rfl _ _ (w.heap.size + 1) 74 #[.string s, .int .i64 r1, .string r2, .int .i64 r3, .int .i64 r4, .int .i64 (-1), .string ⟨#[]⟩, .int .i64 0, .int .i64 0] (0, 0) _ rfl (hZ.setRow _) Try.underlying74 rfl (lg_info (s, (r1, r2, r3, r4), noIn))) rfl ?_
  exact ⟨rfl, hG.setRow (.inl (by omega)) _⟩
end Go.Proofs.Ytbddcbbjmgepnaa

/- Steps of a region that draws its order, by hand. No program. -/
namespace Go.Proofs.Ytbddcbbjmgepnaa
open Go.RowKit
section
variable {P : Program} {ops : Array Oper} {o : Oper} {a : Act} {w : World} {K : Act → World → Prop} {Q : Exit → Act → World → Prop} {E : Prop}
theorem st_val (hg : o.guard = none) {v : Value} {w' : World} (hr : (execOp a.eval o).run P w = .ok (.value v) w') (hK : K (a.put o.dst v) w') : if Region.wanted o (yielded ops a.tmps) = true then Oper.wp P o a w K Q else E := by
  rw [if_pos (by simp [Region.wanted, hg])]
  unfold Oper.wp
  rw [hr]
  exact hK
theorem st_wp (hg : o.guard = none) (h : Oper.wp P o a w K Q) : if Region.wanted o (yielded ops a.tmps) = true then Oper.wp P o a w K Q else E := by
  rw [if_pos (by simp [Region.wanted, hg])]
  exact h
theorem st_call (hg : o.guard = none) {f : FuncId} {args : Array Value} {w1 : World} (hr : (execOp a.eval o).run P w = .ok (.enter f args) w1) (hc : Calls P f args w1 fun e w' => ∃ v, e = .returned v ∧ K (a.put o.dst v) w') : if Region.wanted o (yielded ops a.tmps) = true then Oper.wp P o a w K Q else E := by
  rw [if_pos (by simp [Region.wanted, hg])]
  unfold Oper.wp
  rw [hr]
  refine hc.mono ?_
  rintro e w' ⟨v, rfl, hK⟩
  exact hK
theorem run_load_row {ty : TypeId} {x : Operand} (ho : o.op = .load ty x) (g : Nat) (hx : a.eval x = .pointer (some ⟨g, 0, none⟩)) (t : TypeId) (cs : Array Value) (d : TypeDesc) (hg : Bk w g t cs)
    (hu : P.underlying ty = some d) (hd : (match d with | .struct _ | .array _ _ => true | _ => false) = true) (hi : (P.info? ty).map (·.size) = some cs.size) : (execOp a.eval o).run P w = .ok (.value (.agg cs)) w := by
  unfold execOp
  simp only [ho, hx, Instr.loadAt, Instr.sureAddr, Sem.run_bind, Sem.run_pure, Result.andThen_ok, run_loadVar_row w g t ty cs (0, 0) d hg hu hd hi]
/-- One that may come up, and it alone. -/
theorem ready_one {md : Region.Mode} {fuel : Nat} {listed : Array Bool} {i : Nat} (hr : Region.ready md ops listed = [i]) (ho : ops[i]? = some o)
    (h : ∀ K' : Act → World → Prop, (∀ a w, wpAny P md ops Q fuel (listed.setIfInBounds i true) a w → K' a w) → if Region.wanted o (yielded ops a.tmps) = true then Oper.wp P o a w K' Q else K' (a.put o.dst undef) w) : wpAny P md ops Q (fuel + 1) listed a w :=
  wpAny_ready hr (by simp) (AllReady.cons ho h AllReady.nil)
theorem ready_two {md : Region.Mode} {fuel : Nat} {listed : Array Bool} {i j : Nat} {o2 : Oper} (hr : Region.ready md ops listed = [i, j]) (ho : ops[i]? = some o) (ho2 : ops[j]? = some o2)
    (h : ∀ K' : Act → World → Prop, (∀ a w, wpAny P md ops Q fuel (listed.setIfInBounds i true) a w → K' a w) → if Region.wanted o (yielded ops a.tmps) = true then Oper.wp P o a w K' Q else K' (a.put o.dst undef) w)
    (h2 : ∀ K' : Act → World → Prop, (∀ a w, wpAny P md ops Q fuel (listed.setIfInBounds j true) a w → K' a w) → if Region.wanted o2 (yielded ops a.tmps) = true then Oper.wp P o2 a w K' Q else K' (a.put o2.dst undef) w) : wpAny P md ops Q (fuel + 1) listed a w :=
  wpAny_ready hr (by simp) (AllReady.cons ho h (AllReady.cons ho2 h2 AllReady.nil))
end
end Go.Proofs.Ytbddcbbjmgepnaa

/- A region that draws its order, told operation by operation: each one's value is told once, whatever the order. No program. -/
namespace Go.Proofs.Ytbddcbbjmgepnaa
open Go.RowKit

/-- What an operation left. -/
def valOf (a : Act) (o : Oper) : Value := match o.dst with | some d => a.tmps.getD d undef | none => undef
/-- Values put where the operations put theirs. -/
def putAll (f : Nat → Value) : Nat → List Oper → Act → Act
  | _, [], a => a
  | i, o :: r, a => putAll f (i + 1) r (a.put o.dst (f i))
def dstsOf (l : List Oper) : List Nat := l.filterMap (·.dst)
/-- No guards; who is waited for stands ahead; each writes a slot of its own, that there is. -/
def stepsB (md : Region.Mode) (l : List Oper) (n : Nat) : Bool :=
  (l.zipIdx.all fun p => p.1.guard.isNone && (p.1.after.all fun e => !Region.binds md e || decide (e.on < p.2)) && (match p.1.dst with | some d => decide (d < n) | none => true)) && decide (dstsOf l).Nodup
/-- Is number j waited for by o? -/
def predB (md : Region.Mode) (o : Oper) (j : Nat) : Bool := o.after.any fun e => Region.binds md e && e.on == j
def Same (ops : List Oper) (a0 a : Act) : Prop := a.defers = a0.defers ∧ a.tmps.size = a0.tmps.size ∧ ∀ d, d ∉ dstsOf ops → a.tmps.getD d undef = a0.tmps.getD d undef
theorem put_defers (a : Act) (d : Option Tmp) (v : Value) : (a.put d v).defers = a.defers := by cases d <;> rfl
theorem put_size (a : Act) (d : Option Tmp) (v : Value) : (a.put d v).tmps.size = a.tmps.size := by cases d <;> simp [Act.put]
theorem put_getD_ne (a : Act) (d : Option Tmp) (v : Value) (k : Nat) (h : d ≠ some k) : (a.put d v).tmps.getD k undef = a.tmps.getD k undef := by
  cases d with
  | none => rfl
  | some d =>
    have : d ≠ k := fun e => h (by rw [e])
    simp [Act.put, this]
theorem put_getD (a : Act) (d : Nat) (v : Value) (h : d < a.tmps.size) : (a.put (some d) v).tmps.getD d undef = v := by
  simp [Act.put, h]
section
variable {P : Program} {Q : Exit → Act → World → Prop} {md : Region.Mode}
/-- What an operation is asked for. -/
def StepOk (P : Program) (md : Region.Mode) (Q : Exit → Act → World → Prop) (ops : List Oper) (a0 : Act) (J : Nat → World → Prop) (V : Nat → Value → World → Prop) (Kp : World → World → Prop) (i : Nat) (o : Oper) : Prop :=
  ∀ n a w, J n w → Same ops a0 a → (∀ j oj, predB md o j = true → ops[j]? = some oj → V j (valOf a oj) w) → ∀ K : Act → World → Prop, (∀ v w', (o.dst = none → v = undef) → V i v w' → J (n + 1) w' → Kp w w' → K (a.put o.dst v) w') → Oper.wp P o a w K Q
def AllOk (P : Program) (md : Region.Mode) (Q : Exit → Act → World → Prop) (ops : List Oper) (a0 : Act) (J : Nat → World → Prop) (V : Nat → Value → World → Prop) (Kp : World → World → Prop) : Nat → List Oper → Prop
  | _, [] => True
  | i, o :: r => StepOk P md Q ops a0 J V Kp i o ∧ AllOk P md Q ops a0 J V Kp (i + 1) r
theorem allOk_at {ops : List Oper} {a0 : Act} {J : Nat → World → Prop} {V : Nat → Value → World → Prop} {Kp : World → World → Prop} : ∀ (l : List Oper) (b : Nat), AllOk P md Q ops a0 J V Kp b l → ∀ (i : Nat) (o : Oper), l[i]? = some o → StepOk P md Q ops a0 J V Kp (b + i) o
  | [], _, _, i, o, h => by simp at h
  | x :: r, b, hA, i, o, h => by
    cases i with
    | zero => obtain rfl : x = o := by simpa using h
              exact hA.1
    | succ i =>
      have := allOk_at r (b + 1) hA.2 i o (by simpa using h)
      rwa [show b + 1 + i = b + (i + 1) by omega] at this
theorem dst_mem {l : List Oper} {i : Nat} {o : Oper} {d : Nat} (h : l[i]? = some o) (hd : o.dst = some d) : d ∈ dstsOf l :=
  List.mem_filterMap.2 ⟨o, List.mem_of_getElem? h, hd⟩
theorem dst_inj : ∀ {l : List Oper}, (dstsOf l).Nodup → ∀ {i j : Nat} {o p : Oper} {d : Nat}, l[i]? = some o → l[j]? = some p → o.dst = some d → p.dst = some d → i = j
  | [], _, i, _, _, _, _, h, _, _, _ => by simp at h
  | x :: r, hn, i, j, o, p, d, hi, hj, ho, hp => by
    have hr : (dstsOf r).Nodup := by
      unfold dstsOf at hn ⊢
      rw [List.filterMap_cons] at hn
      split at hn
      · exact hn
      · exact (List.nodup_cons.1 hn).2
    have hx : ∀ {k : Nat} {q : Oper}, x.dst = some d → r[k]? = some q → q.dst = some d → False := fun {k q} h1 h2 h3 => by
      unfold dstsOf at hn
      rw [List.filterMap_cons, h1] at hn
      exact (List.nodup_cons.1 hn).1 (dst_mem h2 h3)
    cases i with
    | zero =>
      obtain rfl : x = o := by simpa using hi
      cases j with
      | zero => rfl
      | succ j => exact (hx ho (by simpa using hj) hp).elim
    | succ i =>
      cases j with
      | zero =>
        obtain rfl : x = p := by simpa using hj
        exact (hx hp (by simpa using hi) ho).elim
      | succ j => exact congrArg (· + 1) (dst_inj hr (i := i) (j := j) (by simpa using hi) (by simpa using hj) ho hp)
theorem putAll_same (f : Nat → Value) : ∀ (l : List Oper) (i : Nat) (a : Act), (putAll f i l a).defers = a.defers ∧ (putAll f i l a).tmps.size = a.tmps.size ∧ ∀ d, d ∉ dstsOf l → (putAll f i l a).tmps.getD d undef = a.tmps.getD d undef
  | [], _, a => ⟨rfl, rfl, fun _ _ => rfl⟩
  | o :: r, i, a => by
    obtain ⟨h1, h2, h3⟩ := putAll_same f r (i + 1) (a.put o.dst (f i))
    refine ⟨h1.trans (put_defers _ _ _), h2.trans (put_size _ _ _), fun d hd => ?_⟩
    have hd2 : d ∉ dstsOf r := fun h => hd (by
      unfold dstsOf at h ⊢
      rw [List.filterMap_cons]
      split
      · exact h
      · exact List.mem_cons_of_mem _ h)
    refine (h3 d hd2).trans (put_getD_ne _ _ _ _ fun e => hd ?_)
    unfold dstsOf
    rw [List.filterMap_cons, e]
    exact List.mem_cons_self ..
theorem putAll_at (f : Nat → Value) : ∀ (l : List Oper) (b : Nat) (a : Act), (dstsOf l).Nodup → (∀ d ∈ dstsOf l, d < a.tmps.size) → ∀ (i : Nat) (o : Oper) (d : Nat), l[i]? = some o → o.dst = some d → (putAll f b l a).tmps.getD d undef = f (b + i)
  | [], _, _, _, _, i, o, d, h, _ => by simp at h
  | x :: r, b, a, hn, hlt, i, o, d, h, hd => by
    have hr : (dstsOf r).Nodup := by
      unfold dstsOf at hn ⊢
      rw [List.filterMap_cons] at hn
      split at hn
      · exact hn
      · exact (List.nodup_cons.1 hn).2
    have hltr : ∀ d ∈ dstsOf r, d < (a.put x.dst (f b)).tmps.size := fun d hd => by
      rw [put_size]
      refine hlt d ?_
      unfold dstsOf at hd ⊢
      rw [List.filterMap_cons]
      split
      · exact hd
      · exact List.mem_cons_of_mem _ hd
    cases i with
    | zero =>
      obtain rfl : x = o := by simpa using h
      have hnd : d ∉ dstsOf r := fun hm => by
        unfold dstsOf at hn
        rw [List.filterMap_cons, hd] at hn
        exact (List.nodup_cons.1 hn).1 hm
      show (putAll f (b + 1) r (a.put x.dst (f b))).tmps.getD d undef = f b
      rw [(putAll_same f r (b + 1) _).2.2 d hnd, hd]
      exact put_getD _ _ _ (hlt d (dst_mem (l := x :: r) (i := 0) rfl hd))
    | succ i =>
      have := putAll_at f r (b + 1) (a.put x.dst (f b)) hr hltr i o d (by simpa using h) hd
      rw [show b + 1 + i = b + (i + 1) by omega] at this
      exact this
theorem act_ext {a b : Act} (h1 : a.defers = b.defers) (h2 : a.tmps.size = b.tmps.size) (h3 : ∀ d, a.tmps.getD d undef = b.tmps.getD d undef) : a = b := by
  obtain ⟨t, d⟩ := a
  obtain ⟨t', d'⟩ := b
  dsimp only at h1 h2 h3
  subst h1
  congr 1
  apply Array.ext h2
  intro i hi hj
  have := h3 i
  simpa [hi, hj] using this
theorem act_putAll {ops : List Oper} {a0 a : Act} (hn : (dstsOf ops).Nodup) (hlt : ∀ d ∈ dstsOf ops, d < a0.tmps.size) (h : Same ops a0 a) : a = putAll (fun i => match ops[i]? with | some o => valOf a o | none => undef) 0 ops a0 := by
  obtain ⟨h1, h2, h3⟩ := h
  obtain ⟨k1, k2, k3⟩ := putAll_same (fun i => match ops[i]? with | some o => valOf a o | none => undef) ops 0 a0
  refine act_ext (h1.trans k1.symm) (h2.trans k2.symm) fun d => ?_
  by_cases hd : d ∈ dstsOf ops
  · obtain ⟨o, ho, hod⟩ := List.mem_filterMap.1 hd
    obtain ⟨i, hi⟩ := List.getElem?_of_mem ho
    rw [putAll_at _ ops 0 a0 hn hlt i o d hi hod, Nat.zero_add]
    simp only [hi]
    unfold valOf
    rw [hod]
  · rw [h3 d hd, k3 d hd]
theorem count_set (listed : Array Bool) (i : Nat) (h : listed.getD i true = false) : (listed.setIfInBounds i true).toList.countP (fun b => !b) + 1 = listed.toList.countP (fun b => !b) := by
  have hi : i < listed.size := by
    rcases Nat.lt_or_ge i listed.size with h' | h'
    · exact h'
    · simp [Array.getElem?_eq_none h'] at h
  have hv : listed[i] = false := by simpa [hi] using h
  rw [Array.toList_setIfInBounds, List.countP_set (by simpa using hi)]
  have hp : 0 < listed.toList.countP (fun b => !b) := List.countP_pos_iff.2 ⟨listed[i], by simp, by simp [hv]⟩
  have e : listed.toList[i]'(by simpa using hi) = false := by simpa using hv
  rw [e]
  simp only [Bool.not_false, Bool.not_true, if_true, Bool.false_eq_true, if_false]
  omega
/-- The law. -/
theorem wpAny_steps {l : List Oper} {a0 : Act} (J : Nat → World → Prop) (V : Nat → Value → World → Prop) (Kp : World → World → Prop) (n : Nat) (hn : a0.tmps.size = n) (hB : stepsB md l n = true)
    (keep : ∀ i v w w', Kp w w' → V i v w → V i v w') (step : AllOk P md Q l a0 J V Kp 0 l)
    (fin : ∀ (f : Nat → Value) w, J l.length w → (∀ i, i < l.length → V i (f i) w) → Q .normal (putAll f 0 l a0) w) :
    ∀ (fuel : Nat) (listed : Array Bool) (a : Act) (w : World), listed.size = l.length → listed.toList.countP (fun b => !b) = fuel → Same l a0 a → J (l.length - fuel) w → (∀ i o, l[i]? = some o → listed.getD i true = true → V i (valOf a o) w) → wpAny P md l.toArray Q fuel listed a w := by
  unfold stepsB at hB
  rw [Bool.and_eq_true, decide_eq_true_iff, List.all_eq_true] at hB
  obtain ⟨hB1, hnd⟩ := hB
  have hat : ∀ (i : Nat) (o : Oper), l[i]? = some o → o.guard = none ∧ (∀ e ∈ o.after, Region.binds md e = true → e.on < i) ∧ ∀ d, o.dst = some d → d < n := fun i o h => by
    have := hB1 (o, i) (List.mem_zipIdx_iff_getElem?.2 (by simpa using h))
    simp only [Bool.and_eq_true, Array.all_eq_true', Bool.or_eq_true, Bool.not_eq_true', decide_eq_true_eq] at this
    obtain ⟨⟨h1, h2⟩, h3⟩ := this
    refine ⟨Option.isNone_iff_eq_none.1 h1, fun e he hb => ?_, fun d hd => ?_⟩
    · rcases h2 e he with h | h
      · rw [hb] at h; cases h
      · exact h
    · rw [hd] at h3
      simpa using h3
  have hlt : ∀ d ∈ dstsOf l, d < a0.tmps.size := fun d hd => by
    obtain ⟨o, ho, hod⟩ := List.mem_filterMap.1 hd
    obtain ⟨i, hi⟩ := List.getElem?_of_mem ho
    rw [hn]
    exact (hat i o hi).2.2 d hod
  have done : ∀ (listed : Array Bool) (a : Act) (w : World), listed.size = l.length → (∀ i, i < l.length → listed.getD i true = true) → Same l a0 a → J l.length w → (∀ i o, l[i]? = some o → listed.getD i true = true → V i (valOf a o) w) → Q .normal a w := by
    intro listed a w hs hall hsame hJ hV
    rw [act_putAll hnd hlt hsame]
    refine fin _ w hJ fun i hi => ?_
    have hg : l[i]? = some l[i] := List.getElem?_eq_getElem hi
    rw [hg]
    exact hV i _ hg (hall i hi)
  have alls : ∀ (listed : Array Bool), Region.ready md l.toArray listed = [] → ∀ i, i < l.length → listed.getD i true = true := by
    intro listed hr i
    induction i using Nat.strongRecOn with
    | ind i ih =>
      intro hi
      cases hb : listed.getD i true with
      | true => rfl
      | false =>
        exfalso
        have hg : l[i]? = some l[i] := List.getElem?_eq_getElem hi
        have hm : i ∈ Region.ready md l.toArray listed := mem_ready.2 ⟨hb, l[i], by simp, fun e he hbd => by
          have hlt := (hat i _ hg).2.1 e he hbd
          have h1 := ih e.on hlt (by omega)
          have h2 : i < listed.size := by
            rcases Nat.lt_or_ge i listed.size with h' | h'
            · exact h'
            · simp [Array.getElem?_eq_none h'] at hb
          have h3 : e.on < listed.size := by omega
          simpa [h3] using h1⟩
        rw [hr] at hm
        cases hm
  intro fuel
  induction fuel with
  | zero =>
    intro listed a w hs hc hsame hJ hV
    have hall : ∀ i, i < l.length → listed.getD i true = true := fun i hi => by
      cases hb : listed.getD i true with
      | true => rfl
      | false => have := count_set listed i hb; omega
    refine ⟨?_, done listed a w hs hall hsame hJ hV⟩
    refine List.eq_nil_iff_forall_not_mem.2 fun i hi => ?_
    obtain ⟨h1, o, h2, _⟩ := mem_ready.1 hi
    have h3 : i < l.length := by
      have := (Array.getElem?_eq_some_iff.1 h2).1
      simpa using this
    rw [hall i h3] at h1
    cases h1
  | succ fuel ih =>
    intro listed a w hs hc hsame hJ hV
    have hcl : listed.toList.countP (fun b => !b) ≤ l.length := by
      have := List.countP_le_length (p := fun b => !b) (l := listed.toList)
      simpa [hs] using this
    refine ⟨fun hr => ?_, fun i hi => ?_⟩
    · have hall := alls listed hr
      exfalso
      have h0 : listed.toList.countP (fun b => !b) = 0 := List.countP_eq_zero.2 fun b hb => by
        obtain ⟨k, hk, rfl⟩ := List.getElem_of_mem hb
        have hk' : k < listed.size := by simpa using hk
        have := hall k (by omega)
        simp [hk'] at this
        simp [this]
      omega
    · obtain ⟨hun, o, ho, hafter⟩ := mem_ready.1 hi
      have hol : l[i]? = some o := by simpa using ho
      obtain ⟨hg, hord, hd⟩ := hat i o hol
      have hil : i < listed.size := by
        rcases Nat.lt_or_ge i listed.size with h' | h'
        · exact h'
        · simp [Array.getElem?_eq_none h'] at hun
      refine wpOp_step ho fun K' hK => ?_
      rw [if_pos (by simp [Region.wanted, hg])]
      have hst := allOk_at l 0 step i o hol
      rw [Nat.zero_add] at hst
      refine hst (l.length - (fuel + 1)) a w hJ hsame (fun j oj hp hj => ?_) K' (fun v w' hvu hv hJ' hkp => hK _ _ ?_)
      · unfold predB at hp
        rw [Array.any_eq_true'] at hp
        obtain ⟨e, he, h2⟩ := hp
        rw [Bool.and_eq_true, beq_iff_eq] at h2
        obtain ⟨h2, rfl⟩ := h2
        refine hV e.on oj hj ?_
        have h3 := hafter e he h2
        have h4 : e.on < listed.size := by have := hord e he h2; omega
        simpa [h4] using h3
      · refine ih (listed.setIfInBounds i true) (a.put o.dst v) w' (by simpa using hs) (by have := count_set listed i hun; omega) ?_ ?_ ?_
        · obtain ⟨s1, s2, s3⟩ := hsame
          refine ⟨(put_defers _ _ _).trans s1, (put_size _ _ _).trans s2, fun d hdn => ?_⟩
          rw [put_getD_ne _ _ _ _ (fun e => hdn (dst_mem hol e))]
          exact s3 d hdn
        · rw [show l.length - fuel = l.length - (fuel + 1) + 1 by omega]
          exact hJ'
        · intro j oj hj hl
          by_cases hij : i = j
          · subst hij
            rw [hol] at hj
            obtain rfl := Option.some.inj hj
            cases hod : o.dst with
            | none =>
              have : valOf (a.put none v) o = undef := by unfold valOf; rw [hod]
              rw [this, ← hvu hod]
              exact hv
            | some d =>
              have : valOf (a.put (some d) v) o = v := by
                unfold valOf
                rw [hod]
                exact put_getD a d v (by rw [hsame.2.1, hn]; exact hd d hod)
              rw [this]
              exact hv
          · rw [getD_set_ne true hij] at hl
            have hold := keep j _ w w' hkp (hV j oj hj hl)
            have : valOf (a.put o.dst v) oj = valOf a oj := by
              unfold valOf
              cases hod : oj.dst with
              | none => rfl
              | some d =>
                exact put_getD_ne _ _ _ _ fun e => hij (dst_inj hnd hol hj e hod)
            rw [this]
            exact hold
end
end Go.Proofs.Ytbddcbbjmgepnaa

/- What was picked; a block as a row; 'when' at literals. -/
namespace Go.Proofs.Ytbddcbbjmgepnaa
open Go.RowKit

theorem small_of {s : ByteArray} (h : s.size ≤ 100) : Small s := by unfold Small; omega
theorem bnd_pick {zs : List Int} {r : Int} (h : r ∈ zs) (hz : zs.all (fun z => decide (-1099511627776 ≤ z ∧ z ≤ 1099511627776)) = true) : bnd r := by
  unfold bnd
  exact of_decide_eq_true (List.all_eq_true.1 hz r h)
theorem small_pick {zs : List ByteArray} {r : ByteArray} (h : r ∈ zs) (hz : zs.all (fun z => decide (z.size ≤ 100)) = true) : Small r := small_of (of_decide_eq_true (List.all_eq_true.1 hz r h))
theorem Bk.rd {w : World} {g : Nat} {T : TypeId} {cs : Array Value} (h : Bk w g T cs) (z n : Nat) (hc : cs.size = n * z) (hn : n ≤ 1000) : Rd w z (.slice (some ⟨g, 0, none⟩) n n) n cs.toList := by
  refine ⟨_, n, rfl, Nat.le_refl _, by unfold maxLen; omega, by simpa using hc, (fun e => by cases e), fun b hb => ?_⟩
  obtain rfl := Option.some.inj hb
  refine ⟨rfl, h.lt, fun j u hj => ?_⟩
  rw [Nat.zero_add, h.cell]
  simpa using hj
end Go.Proofs.Ytbddcbbjmgepnaa

/- Hires: Start, StartOf. -/
namespace Go.Proofs.Ytbddcbbjmgepnaa
open Go.RowKit

theorem RdR.oneLg {w : World} {g : Nat} {b : Lg} (h : Bk w g 74 (lgC b)) : RdR w 9 lgC (.slice (some ⟨g, 0, none⟩) 1 1) [b] := h.rd 9 1 rfl (by omega)
theorem openLeg_l (s : ByteArray) (r : Rg) (w : World) : Calls Try.prog 32 #[.string s, .agg #[.int .i64 r.1, .string r.2.1, .int .i64 r.2.2.1, .int .i64 r.2.2.2]] w fun e w' => e = .returned (.agg #[.string s, .int .i64 r.1, .string r.2.1, .int .i64 r.2.2.1, .int .i64 r.2.2.2, .int .i64 (-1), .string ⟨#[]⟩, .int .i64 0, .int .i64 0]) ∧ G w w' none := openLeg_c s r w
set_option maxRecDepth 100000 in
set_option maxHeartbeats 4000000 in
theorem start_c (h : Hh) (s : ByteArray) (r : Rg) (w : World) (hs : Small s) (hsr : Small r.2.1) (hs1 : Small h.1) (hs2 : Small h.2.1) (hb1 : bnd h.2.2.1) (hb2 : bnd h.2.2.2) :
    Calls Try.prog 12 #[.string h.1, .string h.2.1, .agg #[.int .i64 h.2.2.1, .int .i64 h.2.2.2], .string s, .agg (rgC r)] w
      (MadePost h [(s, r, noIn)] (fun k => w.heap.size ≤ k) w) := by
  have hb0 : LgOk [(s, r, noIn)] := fun x hx => by
    obtain rfl := List.mem_singleton.1 hx
    exact ⟨hs, hsr, by show Small ⟨#[]⟩; unfold Small; decide⟩
  have hWi := ((Bk.new w 27 #[.int .i64 h.2.2.1, .int .i64 h.2.2.2]).alloc (.cells (rgC r) 50)).alloc (.cells hiZ 46)
  have hRe := (Bk.newAt (w := w.alloc (.cells #[.int .i64 h.2.2.1, .int .i64 h.2.2.2] 27)) (b := w.heap.size + 1) (by simp) 50 (rgC r)).alloc (.cells hiZ 46)
  have hZ := Bk.newAt (w := (w.alloc (.cells #[.int .i64 h.2.2.1, .int .i64 h.2.2.2] 27)).alloc (.cells (rgC r) 50)) (b := w.heap.size + 2) (by simp) 46 hiZ
  have hG := (((G.refl w none).alloc (.cells #[.int .i64 h.2.2.1, .int .i64 h.2.2.2] 27)).alloc (.cells (rgC r) 50)).alloc (.cells hiZ 46)
  simp only [rgC, hiZ, hiC] at hWi hRe hZ hG ⊢
  go_enter Try.func12, Try.ntmps12
  go_upto_region 1 with fail
  generalize ((w.alloc (.cells #[.int .i64 h.2.2.1, .int .i64 h.2.2.2] 27)).alloc (.cells #[.int .i64 r.1, .string r.2.1, .int .i64 r.2.2.1, .int .i64 r.2.2.2] 50)).alloc (.cells #[.string ⟨#[]⟩, .string ⟨#[]⟩, .int .i64 0, .int .i64 0, .slice none 0 0] 46) = w2 at hWi hRe hZ hG ⊢
  -- @REGION
  have hWi3 := hWi.quiet ((G.refl w2 none).drew)
  have hRe3 := hRe.quiet ((G.refl w2 none).drew)
  have hZ3 := hZ.quiet ((G.refl w2 none).drew)
  have hG3 := hG.drew
  clear hWi hRe hZ hG
  refine wp_region_held_drew (S := (fun w' => w'.cell? ⟨w.heap.size, 0, none⟩ = some (.int .i64 h.2.2.1) ∧ w'.cell? ⟨w.heap.size, 1, none⟩ = some (.int .i64 h.2.2.2) ∧ w'.cell? ⟨w.heap.size + 1, 0, none⟩ = some (.int .i64 r.1) ∧ w'.cell? ⟨w.heap.size + 1, 1, none⟩ = some (.string r.2.1) ∧ w'.cell? ⟨w.heap.size + 1, 2, none⟩ = some (.int .i64 r.2.2.1) ∧ w'.cell? ⟨w.heap.size + 1, 3, none⟩ = some (.int .i64 r.2.2.2))) (by kernel_rfl) ?_ (fun hHeld => ?_)
  · exact ⟨hWi3.cell 0, hWi3.cell 1, hRe3.cell 0, hRe3.cell 1, hRe3.cell 2, hRe3.cell 3⟩
  refine wpAnyH_take (i := 0) (oi := { dst := some 12, op := Op.move (Operand.tmp 0), type := 9, pos := _, after := #[], guard := none }) (v := ?_) rfl (by kernel_rfl) (by kernel_rfl) (by kernel_rfl) (fun _ _ _ h => h) (Or.inl ⟨by rfl, ?_⟩) (by assumption) ?_
  rotate_left
  · (intro w hSw; obtain ⟨s0, s1, s2, s3, s4, s5⟩ := hSw; (go_simp <;> with_reducible rfl))
  try simp only [Act.put, List.setIfInBounds_toArray, List.set_cons_zero, List.set_cons_succ]
  refine wpAnyH_take (i := 1) (oi := { dst := some 13, op := Op.move (Operand.tmp 1), type := 9, pos := _, after := #[], guard := none }) (v := ?_) rfl (by kernel_rfl) (by kernel_rfl) (by kernel_rfl) (fun _ _ _ h => h) (Or.inl ⟨by rfl, ?_⟩) (by assumption) ?_
  rotate_left
  · (intro w hSw; obtain ⟨s0, s1, s2, s3, s4, s5⟩ := hSw; (go_simp <;> with_reducible rfl))
  try simp only [Act.put, List.setIfInBounds_toArray, List.set_cons_zero, List.set_cons_succ]
  refine wpAnyH_take (i := 2) (oi := { dst := some 14, op := Op.load 27 (Operand.tmp 7), type := 27, pos := _, after := #[], guard := none }) (v := ?_) rfl (by kernel_rfl) (by kernel_rfl) (by kernel_rfl) (fun _ _ _ h => h) (Or.inl ⟨by rfl, ?_⟩) (by assumption) ?_
  rotate_left
  · (intro w hSw; obtain ⟨s0, s1, s2, s3, s4, s5⟩ := hSw; (go_simp <;> with_reducible rfl))
  try simp only [Act.put, List.setIfInBounds_toArray, List.set_cons_zero, List.set_cons_succ]
  refine wpAnyH_take (i := 3) (oi := { dst := some 15, op := Op.move (Operand.tmp 3), type := 9, pos := _, after := #[], guard := none }) (v := ?_) rfl (by kernel_rfl) (by kernel_rfl) (by kernel_rfl) (fun _ _ _ h => h) (Or.inl ⟨by rfl, ?_⟩) (by assumption) ?_
  rotate_left
  · (intro w hSw; obtain ⟨s0, s1, s2, s3, s4, s5⟩ := hSw; (go_simp <;> with_reducible rfl))
  try simp only [Act.put, List.setIfInBounds_toArray, List.set_cons_zero, List.set_cons_succ]
  refine wpAnyH_take (i := 4) (oi := { dst := some 16, op := Op.load 50 (Operand.tmp 9), type := 50, pos := _, after := #[], guard := none }) (v := ?_) rfl (by kernel_rfl) (by kernel_rfl) (by kernel_rfl) (fun _ _ _ h => h) (Or.inl ⟨by rfl, ?_⟩) (by assumption) ?_
  rotate_left
  · (intro w hSw; obtain ⟨s0, s1, s2, s3, s4, s5⟩ := hSw; (go_simp <;> with_reducible rfl))
  try simp only [Act.put, List.setIfInBounds_toArray, List.set_cons_zero, List.set_cons_succ]
  refine wpAnyH_ready (rs := [5]) (by kernel_rfl) (by simp) ?_
  refine AllReadyH.cons (o := { dst := some 17, op := Op.call { callee := Callee.value (Operand.func 32), args := #[Operand.tmp 15, Operand.tmp 16], argTypes := #[9, 50] }, type := 74, pos := _, after := #[{ on := 3, ground := Ground.data }, { on := 4, ground := Ground.data }], guard := none }) rfl (fun K hK => ?_) AllReadyH.nil
  go_simp
  refine (openLeg_l s r _).mono ?_
  rintro e w4 ⟨rfl, hH⟩
  have hWi4 := hWi3.quiet hH
  have hRe4 := hRe3.quiet hH
  have hZ4 := hZ3.quiet hH
  have hG4 := hG3.trans hH
  clear hH
  refine hK.out _ _ ?_ (fun hHeld => ?_)
  · exact ⟨hWi4.cell 0, hWi4.cell 1, hRe4.cell 0, hRe4.cell 1, hRe4.cell 2, hRe4.cell 3⟩
  clear hK K
  try simp only [Act.put, List.setIfInBounds_toArray, List.set_cons_zero, List.set_cons_succ]
  refine wpAnyH_ready (rs := [6]) (by kernel_rfl) (by simp) ?_
  refine AllReadyH.cons (o := { dst := some 18, op := Op.buildSlice 44 1 #[(0, Operand.tmp 17)], type := 44, pos := _, after := #[{ on := 5, ground := Ground.data }], guard := none }) rfl (fun K hK => ?_) AllReadyH.nil
  go_simp
  have hH := (G.refl w4 none).alloc (.cells #[.string s, .int .i64 r.1, .string r.2.1, .int .i64 r.2.2.1, .int .i64 r.2.2.2, .int .i64 (-1), .string ⟨#[]⟩, .int .i64 0, .int .i64 0] 74)
  have hWi5 := hWi4.quiet hH
  have hRe5 := hRe4.quiet hH
  have hZ5 := hZ4.quiet hH
  have hG5 := hG4.trans hH
  clear hH
  refine hK.out _ _ ?_ (fun hHeld => ?_)
  · exact ⟨hWi5.cell 0, hWi5.cell 1, hRe5.cell 0, hRe5.cell 1, hRe5.cell 2, hRe5.cell 3⟩
  clear hK K
  try simp only [Act.put, List.setIfInBounds_toArray, List.set_cons_zero, List.set_cons_succ]
  refine wpAnyH_take (i := 7) (oi := { dst := some 19, op := Op.build 46 #[(0, Operand.tmp 12), (1, Operand.tmp 13), (2, Operand.tmp 14), (3, Operand.tmp 18)], type := 46, pos := _, after := #[{ on := 0, ground := Ground.data }, { on := 1, ground := Ground.data }, { on := 2, ground := Ground.data }, { on := 6, ground := Ground.data }], guard := none }) (v := ?_) rfl (by kernel_rfl) (by kernel_rfl) (by kernel_rfl) (fun _ _ _ h => h) (Or.inl ⟨by rfl, ?_⟩) (by assumption) ?_
  rotate_left
  · (intro w hSw; obtain ⟨s0, s1, s2, s3, s4, s5⟩ := hSw; (go_simp <;> with_reducible rfl))
  try simp only [Act.put, List.setIfInBounds_toArray, List.set_cons_zero, List.set_cons_succ]
  refine wpAnyH_ready (rs := [8]) (by kernel_rfl) (by simp) ?_
  refine AllReadyH.cons (o := { dst := some 20, op := Op.call { callee := Callee.value (Operand.func 31), args := #[Operand.tmp 19], argTypes := #[46] }, type := 47, pos := _, after := #[{ on := 7, ground := Ground.data }, { on := 5, ground := Ground.chain }], guard := none }) rfl (fun K hK => ?_) AllReadyH.nil
  go_simp
  refine (right_c h (.slice (some ⟨w4.heap.size, 0, none⟩) 1 1) [(s, r, noIn)] _ (RdR.oneLg (b := (s, r, noIn)) (Bk.new w4 _ _)) hb0 hs1 hs2 hb1 hb2 (by simp)).mono ?_
  rintro e w6 ⟨H, a, n, c, rfl, hHH, hBB, hR6, hH⟩
  have HHH := Lib.hid hHH
  have HBB := Lib.hid hBB
  clear hHH hBB
  have hWi6 := hWi5.quiet hH
  have hRe6 := hRe5.quiet hH
  have hZ6 := hZ5.quiet hH
  have hG6 := hG5.trans hH
  clear hH
  refine hK.out _ _ ?_ (fun hHeld => ?_)
  · exact ⟨hWi6.cell 0, hWi6.cell 1, hRe6.cell 0, hRe6.cell 1, hRe6.cell 2, hRe6.cell 3⟩
  clear hK K
  try simp only [Act.put, List.setIfInBounds_toArray, List.set_cons_zero, List.set_cons_succ]
  refine wpAnyH_take (i := 9) (oi := { dst := some 21, op := Op.extract (Operand.tmp 20) 0, type := 46, pos := _, after := #[{ on := 8, ground := Ground.data }], guard := none }) (v := ?_) rfl (by kernel_rfl) (by kernel_rfl) (by kernel_rfl) (fun _ _ _ h => h) (Or.inl ⟨by rfl, ?_⟩) (by assumption) ?_
  rotate_left
  · (intro w hSw; obtain ⟨s0, s1, s2, s3, s4, s5⟩ := hSw; (go_simp <;> with_reducible rfl))
  try simp only [Act.put, List.setIfInBounds_toArray, List.set_cons_zero, List.set_cons_succ]
  refine wpAnyH_take (i := 10) (oi := { dst := some 22, op := Op.extract (Operand.tmp 20) 1, type := 33, pos := _, after := #[{ on := 8, ground := Ground.data }], guard := none }) (v := ?_) rfl (by kernel_rfl) (by kernel_rfl) (by kernel_rfl) (fun _ _ _ h => h) (Or.inl ⟨by rfl, ?_⟩) (by assumption) ?_
  rotate_left
  · (intro w hSw; obtain ⟨s0, s1, s2, s3, s4, s5⟩ := hSw; (go_simp <;> with_reducible rfl))
  try simp only [Act.put, List.setIfInBounds_toArray, List.set_cons_zero, List.set_cons_succ]
  refine wpAnyH_ready (rs := [11]) (by kernel_rfl) (by simp) ?_
  refine AllReadyH.cons (o := { dst := none, op := Op.store 46 (Operand.tmp 10) (Operand.tmp 21), type := 0, pos := _, after := #[{ on := 9, ground := Ground.data }, { on := 8, ground := Ground.chain }, { on := 0, ground := Ground.phase }, { on := 1, ground := Ground.phase }, { on := 2, ground := Ground.phase }, { on := 3, ground := Ground.phase }, { on := 4, ground := Ground.phase }, { on := 5, ground := Ground.phase }, { on := 6, ground := Ground.phase }, { on := 7, ground := Ground.phase }, { on := 8, ground := Ground.phase }, { on := 9, ground := Ground.phase }, { on := 10, ground := Ground.phase }], guard := none }) rfl (fun K hK => ?_) AllReadyH.nil
  refine st_wp rfl (wp_store_row 46 _ _ rfl (w.heap.size + 2) #[.string H.1, .string H.2.1, .int .i64 H.2.2.1, .int .i64 H.2.2.2, .slice a n c] rfl rfl 46 _ hZ6 (hi_info H _) rfl (hi_one H a n c) ?_)
  have hWi7 := hWi6.farRow (show w.heap.size ≠ w.heap.size + 2 by omega) #[.string H.1, .string H.2.1, .int .i64 H.2.2.1, .int .i64 H.2.2.2, .slice a n c]
  have hRe7 := hRe6.farRow (show w.heap.size + 1 ≠ w.heap.size + 2 by omega) #[.string H.1, .string H.2.1, .int .i64 H.2.2.1, .int .i64 H.2.2.2, .slice a n c]
  refine hK.out _ _ ?_ (fun hHeld => ?_)
  · exact ⟨hWi7.cell 0, hWi7.cell 1, hRe7.cell 0, hRe7.cell 1, hRe7.cell 2, hRe7.cell 3⟩
  clear hK K
  try simp only [Act.put]
  refine wpAnyH_take (i := 12) (oi := { dst := some 11, op := Op.assign (Operand.tmp 22), type := 33, pos := _, after := #[{ on := 10, ground := Ground.data }, { on := 11, ground := Ground.chain }, { on := 0, ground := Ground.phase }, { on := 1, ground := Ground.phase }, { on := 2, ground := Ground.phase }, { on := 3, ground := Ground.phase }, { on := 4, ground := Ground.phase }, { on := 5, ground := Ground.phase }, { on := 6, ground := Ground.phase }, { on := 7, ground := Ground.phase }, { on := 8, ground := Ground.phase }, { on := 9, ground := Ground.phase }, { on := 10, ground := Ground.phase }, { on := 11, ground := Ground.phase }], guard := none }) (v := ?_) rfl (by kernel_rfl) (by kernel_rfl) (by kernel_rfl) (fun _ _ _ h => h) (Or.inl ⟨by rfl, ?_⟩) (by assumption) ?_
  rotate_left
  · (intro w hSw; obtain ⟨s0, s1, s2, s3, s4, s5⟩ := hSw; (go_simp <;> with_reducible rfl))
  try simp only [Act.put, List.setIfInBounds_toArray, List.set_cons_zero, List.set_cons_succ]
  refine wpAnyH_done (by kernel_rfl) ?_ _
  -- @END
  go_wp2_with fail
  refine bodyPost_ret (results_cell_hi rfl _ _ (w.heap.size + 2) 46 #[.string H.1, .string H.2.1, .int .i64 H.2.2.1, .int .i64 H.2.2.2, .slice a n c] (0, 0) _ rfl (hZ6.setRow _) Try.underlying46 rfl (hi_info H _)) rfl ?_
  have hw4 := hZ4.lt
  have hk4 : ∀ k, (Value.slice a n c).ownBlock = some k → k = w4.heap.size := fun k hk => by have := HBB.out k hk; cases this; rfl
  exact ⟨H, a, n, c, rfl, HHH.out, fun k hk => by have := hk4 k hk; omega, Rd.grown hR6 ((G.refl w6 (some (w.heap.size + 2))).setRow (.inr rfl) _) (fun k e hk => by cases e; have := hk4 _ hk; omega), hG6.setRow (.inl (by omega)) _⟩
end Go.Proofs.Ytbddcbbjmgepnaa

/- Hires: lists of legs, hires compared; hired. -/
namespace Go.Proofs.Ytbddcbbjmgepnaa
open Go.RowKit

theorem lg_neq (x y : Lg) (w : World) : (binOp .neq 74 (.agg (lgC x)) (.agg (lgC y))).run Try.prog w = .ok (.bool (!(decide (x = y)))) w := by
  have ht : Try.prog.underlying 74 = some (.struct (Try.prog.fieldsOf 74)) := by kernel_rfl
  have hp : Try.prog.stoodInHeld 74 = false := by kernel_rfl
  rw [run_neq_struct, run_equalIn_agg w 9999 74 _ _ ht hp]
  obtain ⟨a, ⟨b, c, d, e⟩, f, g, h, i⟩ := x
  obtain ⟨a', ⟨b', c', d', e'⟩, f', g', h', i'⟩ := y
  simp [lgC, Try.underlying74, Try.underlying50, Try.underlying3, Try.underlying9, go_sem]
  have tl : ∀ u v : ByteArray, (u.toList = v.toList) ↔ u = v := fun u v => ⟨toList_ext, fun h => by rw [h]⟩
  simp only [tl]
  by_cases h1 : a = a'
  · by_cases h2 : b = b'
    · by_cases h3 : c = c'
      · by_cases h4 : d = d'
        · by_cases h5 : e = e'
          · by_cases h6 : f = f'
            · by_cases h7 : g = g'
              · by_cases h8 : h = h' <;> by_cases h9 : i = i' <;> simp [h1, h2, h3, h4, h5, h6, h7, h8, h9]
              · simp [h1, h2, h3, h4, h5, h6, h7]
            · simp [h1, h2, h3, h4, h5, h6]
          · simp [h1, h2, h3, h4, h5]
        · simp [h1, h2, h3, h4]
      · simp [h1, h2, h3]
    · simp [h1, h2]
  · simp [h1]
def EqlRel (l m : List Lg) (w : World) (i : Value) (wr : World) : Prop := ∃ k n : Nat, k ≤ l.length ∧ i = .int .i64 k ∧ l.take k = m.take k ∧ wr = w.drewN n
theorem take_succ_lg {l m : List Lg} {k : Nat} {x : Lg} (h : l.take k = m.take k) (hx : l[k]? = some x) (hy : m[k]? = some x) : l.take (k + 1) = m.take (k + 1) := by
  rw [List.take_add_one, List.take_add_one, h, hx, hy]
theorem wi_eql (x y : Int) (w : World) : (binOp .eql 27 (.agg #[.int .i64 x, .int .i64 y]) (.agg #[.int .i64 x, .int .i64 y])).run Try.prog w = .ok (.bool true) w := by
  have ht : Try.prog.underlying 27 = some (.struct (Try.prog.fieldsOf 27)) := by kernel_rfl
  have hp : Try.prog.stoodInHeld 27 = false := by kernel_rfl
  rw [run_eql_struct, run_equalIn_agg w 9999 27 _ _ ht hp]
  simp [Try.underlying27, Try.underlying3, go_sem]
def h1K : Hh := (⟨#[104]⟩, ⟨#[100]⟩, 5, 9)
def h1R : Rg := (5, ⟨#[115]⟩, 0, 0)
theorem h1_ok : hiE h1K [(⟨#[118]⟩, h1R, noIn)] = 0 := by decide +kernel
set_option maxRecDepth 100000 in
set_option maxHeartbeats 2000000 in
theorem start1_c (w : World) : Calls Try.prog 12 #[.string ⟨#[104]⟩, .string ⟨#[100]⟩, .agg #[.int .i64 5, .int .i64 9], .string ⟨#[118]⟩, .agg #[.int .i64 5, .string ⟨#[115]⟩, .int .i64 0, .int .i64 0]] w
    fun e w' => ∃ a c, e = .returned (.tuple #[.agg #[.string ⟨#[104]⟩, .string ⟨#[100]⟩, .int .i64 5, .int .i64 9, .slice a 1 c], .int .i64 0]) ∧ G w w' none := by
  refine (start_c h1K ⟨#[118]⟩ h1R w (small_of (by decide)) (small_of (by decide)) (small_of (by decide)) (small_of (by decide)) (by unfold bnd h1K; dsimp only; omega) (by unfold bnd h1K; dsimp only; omega)).mono ?_
  rintro e w' ⟨H, a, n, c, rfl, hH, -, hR, hG⟩
  rw [h1_ok] at hH hR
  obtain rfl : H = h1K := hH
  obtain ⟨a', c', hv, -, -⟩ := RdR.form hR
  obtain rfl : n = 1 := by cases hv; rfl
  exact ⟨a, c, by rw [h1_ok]; rfl, hG⟩
end Go.Proofs.Ytbddcbbjmgepnaa

/- Odds: the numbers of cases, reckoned as the program does. No program. -/
namespace Go.Proofs.Ytbddcbbjmgepnaa
open Go.RowKit

/-- The new numbers of cases after j of the old ones were spread. -/
def nx (c : List Int) (p : Int) : Nat → List Int
  | 0 => List.replicate (c.length + 1) 0
  | j + 1 => ((nx c p j).set j ((nx c p j).getD j 0 + c.getD j 0 * (100 - p))).set (j + 1) ((nx c p j).getD (j + 1) 0 + c.getD j 0 * p)
def cas (ps : List Int) : List Int := ps.foldl (fun c p => nx c p c.length) [1]
theorem nx_len (c : List Int) (p : Int) (j : Nat) : (nx c p j).length = c.length + 1 := by
  induction j with
  | zero => simp [nx]
  | succ j ih => simp [nx, ih]
theorem sum_set (l : List Int) : ∀ (i : Nat) (v : Int), i < l.length → (l.set i v).sum = l.sum + (v - l.getD i 0) := by
  induction l with
  | nil => intro i v h; simp at h
  | cons x r ih =>
    intro i v h
    cases i with
    | zero => simp; omega
    | succ i =>
      have := ih i v (by simpa using h)
      simp only [List.set_cons_succ, List.sum_cons, List.getD_cons_succ]
      omega
theorem gdset_ne (l : List Int) (i j : Nat) (v : Int) (h : i ≠ j) : (l.set i v).getD j 0 = l.getD j 0 := by
  simp [List.getD, h]
theorem take_sum (c : List Int) (j : Nat) (h : j < c.length) : (c.take (j + 1)).sum = (c.take j).sum + c.getD j 0 := by
  rw [List.take_succ_eq_append_getElem h, List.sum_append]
  simp [List.getD, h]
theorem nx_sum (c : List Int) (p : Int) (j : Nat) (h : j ≤ c.length) : (nx c p j).sum = 100 * (c.take j).sum := by
  induction j with
  | zero => simp [nx]
  | succ j ih =>
    have hl := nx_len c p j
    unfold nx
    rw [sum_set _ _ _ (by rw [List.length_set, hl]; omega), sum_set _ _ _ (by rw [hl]; omega), gdset_ne _ _ _ _ (by omega), ih (by omega), take_sum c j (by omega)]
    have : c.getD j 0 * (100 - p) + c.getD j 0 * p = 100 * c.getD j 0 := by rw [← Int.mul_add]; rw [show (100 - p + p : Int) = 100 by omega, Int.mul_comm]
    omega
def NN (c : List Int) : Prop := ∀ x ∈ c, 0 ≤ x
theorem NN.getD {c : List Int} (h : NN c) (j : Nat) : 0 ≤ c.getD j 0 := by
  unfold List.getD
  cases hc : c[j]? with
  | none => exact Int.le_refl 0
  | some x => exact h x (List.mem_of_getElem? hc)
theorem NN.set {c : List Int} (h : NN c) (i : Nat) {v : Int} (hv : 0 ≤ v) : NN (c.set i v) := fun x hx => by
  rcases List.mem_or_eq_of_mem_set hx with hx | rfl
  · exact h x hx
  · exact hv
theorem nx_nn {c : List Int} {p : Int} (hc : NN c) (h0 : 0 ≤ p) (h1 : p ≤ 100) (j : Nat) : NN (nx c p j) := by
  induction j with
  | zero => intro x hx; have := List.eq_of_mem_replicate hx; omega
  | succ j ih =>
    unfold nx
    refine NN.set (NN.set ih j ?_) (j + 1) ?_
    · exact Int.add_nonneg (ih.getD j) (Int.mul_nonneg (hc.getD j) (by omega))
    · exact Int.add_nonneg (ih.getD (j + 1)) (Int.mul_nonneg (hc.getD j) h0)
theorem NN.sum {c : List Int} (h : NN c) : 0 ≤ c.sum := by
  induction c with
  | nil => exact Int.le_refl 0
  | cons x r ih =>
    have h1 := h x (List.mem_cons_self ..)
    have h2 := ih fun y hy => h y (List.mem_cons_of_mem _ hy)
    simp only [List.sum_cons]
    omega
theorem NN.le_sum {c : List Int} (h : NN c) (j : Nat) : c.getD j 0 ≤ c.sum := by
  induction c generalizing j with
  | nil => simp
  | cons x r ih =>
    have h1 := h x (List.mem_cons_self ..)
    have hr : NN r := fun y hy => h y (List.mem_cons_of_mem _ hy)
    have h2 := hr.sum
    cases j with
    | zero => simp only [List.getD_cons_zero, List.sum_cons]; omega
    | succ j =>
      have := ih hr j
      simp only [List.getD_cons_succ, List.sum_cons]
      omega
theorem cas_snoc (ps : List Int) (p : Int) : cas (ps ++ [p]) = nx (cas ps) p (cas ps).length := by
  unfold cas
  rw [List.foldl_append]
  rfl
theorem cas_ok (ps : List Int) (h : ∀ p ∈ ps, 0 ≤ p ∧ p ≤ 100) : (cas ps).length = ps.length + 1 ∧ NN (cas ps) ∧ (cas ps).sum = 100 ^ ps.length := by
  have key : ∀ (n : Nat) (ps : List Int), ps.length = n → (∀ p ∈ ps, 0 ≤ p ∧ p ≤ 100) → (cas ps).length = ps.length + 1 ∧ NN (cas ps) ∧ (cas ps).sum = 100 ^ ps.length := by
    intro n
    induction n with
    | zero =>
      intro ps hn _
      obtain rfl := List.eq_nil_of_length_eq_zero hn
      refine ⟨rfl, ?_, rfl⟩
      intro x hx
      have := List.mem_singleton.1 (show x ∈ [1] from hx)
      omega
    | succ n ih =>
      intro ps hn h
      obtain ⟨qs, p, rfl⟩ : ∃ qs p, ps = qs ++ [p] := ⟨ps.dropLast, ps.getLast (by intro e; rw [e] at hn; simp at hn), (List.dropLast_concat_getLast _).symm⟩
      simp at hn
      obtain ⟨h1, h2, h3⟩ := ih qs hn (fun q hq => h q (by simp [hq]))
      obtain ⟨p0, p1⟩ := h p (by simp)
      rw [cas_snoc]
      refine ⟨by rw [nx_len, h1]; simp, nx_nn h2 p0 p1 _, ?_⟩
      rw [nx_sum _ _ _ (Nat.le_refl _), List.take_length, h3, List.length_append, List.length_singleton, Int.pow_succ, Int.mul_comm]
  exact key ps.length ps rfl h
/-- A row of ints. -/
def ic (l : List Int) : Array Value := (l.map (Value.int .i64)).toArray
theorem ic_at (l : List Int) (j : Nat) (h : j < l.length) : (ic l)[j]? = some (.int .i64 (l.getD j 0)) := by
  simp [ic, List.getD, h]
theorem ic_set (l : List Int) (j : Nat) (v : Int) : (ic l).setIfInBounds j (.int .i64 v) = ic (l.set j v) := by
  simp [ic, List.map_set]
theorem ic_size (l : List Int) : (ic l).size = l.length := by simp [ic]
end Go.Proofs.Ytbddcbbjmgepnaa

/- Bookings: checkForm; the reference's BookingForm. -/
namespace Go.Proofs.Ytbddcbbjmgepnaa
open Go.RowKit

/-- A booking: key, class, from, to, made, percent. -/
abbrev Bo := ByteArray × ByteArray × Int × Int × Int × Int
def boC (x : Bo) : Array Value := #[.string x.1, .string x.2.1, .int .i64 x.2.2.1, .int .i64 x.2.2.2.1, .int .i64 x.2.2.2.2.1, .int .i64 x.2.2.2.2.2]
theorem boC_sz (x : Bo) : (boC x).size = 6 := rfl
theorem bo_info (x : Bo) : (Try.prog.info? 110).map (·.size) = some (boC x).size := (by kernel_rfl : (Try.prog.info? 110).map (·.size) = some 6)
def boB (x : Bo) : Prop := Small x.1 ∧ Small x.2.1 ∧ bnd x.2.2.1 ∧ bnd x.2.2.2.1 ∧ bnd x.2.2.2.2.1 ∧ bnd x.2.2.2.2.2
def BoOk (l : List Bo) : Prop := ∀ x ∈ l, boB x
def boT (a z m p : Int) : Bool := timB a z && (inB m 0 a && inB p 0 100)
def boErr (b : ByteArray) : List Bo → Int
  | [] => 0
  | x :: r => if keyB x.1 = false then 5 else if keyB x.2.1 = false then 5 else if leB x.1 b = true then 7 else if boT x.2.2.1 x.2.2.2.1 x.2.2.2.2.1 x.2.2.2.2.2 = false then 1 else boErr x.1 r
def boE (l : List Bo) : Int := if 500 < l.length then 2 else boErr ⟨#[]⟩ l
def BoRel (w : World) (l : List Bo) (v i : Value) (wr : World) : Prop :=
  ∃ (k : Nat) (b : ByteArray), k ≤ l.length ∧ i = .int .i64 k ∧ v = .string b ∧ boErr ⟨#[]⟩ l = boErr b (l.drop k) ∧ G w wr none
theorem boRow {W w : World} {bb bo n cap : Nat} {l : List Bo} (h : RdR W 6 boC (.slice (some ⟨bb, bo, none⟩) n cap) l) (hG : G W w none) {k : Nat} {p : Bo} (hp : l[k]? = some p) :
    ∀ j v, (boC p).toList[j]? = some v → w.cell? ((⟨bb, bo + k * 6, none⟩ : Addr).add j) = some v := fun j v hv => by
  rw [add_at]
  exact RdR.cell boC_sz h hG hp j v hv
theorem boTime {w : World} {g : Nat} {T : TypeId} {p : Bo} (h : Bk w g T (boC p)) : ∀ j v, (#[Value.int .i64 p.2.2.1, .int .i64 p.2.2.2.1] : Array Value).toList[j]? = some v → w.cell? ((⟨g, 2, none⟩ : Addr).add j) = some v := fun j v hv => by
  rw [add_at, h.cell]
  match j, hv with
  | 0, hv => exact hv
  | 1, hv => exact hv
  | n + 2, hv => simp at hv
set_option maxRecDepth 100000 in
set_option maxHeartbeats 4000000 in
theorem checkForm_c (v : Value) (l : List Bo) (w : World) (hr : RdR w 6 boC v l) (hl : BoOk l) (hn : l.length ≤ 1000) :
    Calls Try.prog 65 #[v] w fun e w' => e = .returned (.int .i64 (boE l)) ∧ G w w' none := by
  have HR := Lib.hid hr
  obtain ⟨a, cap, rfl, hcap, hm⟩ := RdR.form hr
  clear hr
  by_cases h30 : 500 < l.length
  · have H := Lib.hid (show boE l = 2 by simp [boE, h30])
    go_enter Try.func65, Try.ntmps65
    go_wp2_with fail
    go_ret
    exact ⟨by rw [H.out]; rfl, G.refl _ _⟩
  · have H := Lib.hid (show boE l = boErr ⟨#[]⟩ l by simp [boE, h30])
    go_enter Try.func65, Try.ntmps65
    go_wp2_with fail
    go_loopw [3, 11] (BoRel w l) (fun _ i _ => l.length - (intOf i).toNat)
    case atStart => exact ⟨0, ⟨#[]⟩, by omega, rfl, rfl, rfl, G.refl _ _⟩
    case round =>
      obtain ⟨k, b, hkl, rfl, rfl, heq, hG⟩ := hrel
      have HE := Lib.hid heq
      clear heq
      by_cases hk : k < l.length
      · obtain ⟨p, hp⟩ : ∃ p, l[k]? = some p := ⟨_, List.getElem?_eq_getElem hk⟩
        have hdrop : l.drop k = p :: l.drop (k + 1) := by rw [List.drop_eq_getElem_cons hk, ← (List.getElem?_eq_some_iff.1 hp).2]
        have hpl := hl p (List.mem_of_getElem? hp)
        obtain ⟨bb, bo, rfl, hbb, _⟩ := RdR.elem boC_sz HR.out hG hp
        have HW := Lib.hid (boRow HR.out hG hp)
        have hs1 := hpl.1
        have hs2 := hpl.2.1
        unfold Small at hs1 hs2
        have HS : Hid (boErr b (l.drop k) = if keyB p.1 = false then 5 else if keyB p.2.1 = false then 5 else if leB p.1 b = true then 7 else if boT p.2.2.1 p.2.2.2.1 p.2.2.2.2.1 p.2.2.2.2.2 = false then 1 else boErr p.1 (l.drop (k + 1))) := Lib.hid (by rw [hdrop]; rfl)
        have hB5 := Bk.new wr 110 (boC p)
        have hG5 := hG.alloc (.cells (boC p) 110)
        clear hdrop hp hpl hG
        go_wp2_with (refine wpList_load_at rfl 110 _ rfl ⟨bb, bo + k * 6, none⟩ rfl #[.string p.1, .string p.2.1, .int .i64 p.2.2.1, .int .i64 p.2.2.2.1, .int .i64 p.2.2.2.2.1, .int .i64 p.2.2.2.2.2] _ HW.out Try.underlying110 rfl (bo_info p) ?_)
        have hB5 : Bk (wr.alloc (.cells #[.string p.1, .string p.2.1, .int .i64 p.2.2.1, .int .i64 p.2.2.2.1, .int .i64 p.2.2.2.2.1, .int .i64 p.2.2.2.2.2] 110)) wr.heap.size 110 (boC p) := hB5
        have hG5 : G w (wr.alloc (.cells #[.string p.1, .string p.2.1, .int .i64 p.2.2.1, .int .i64 p.2.2.2.1, .int .i64 p.2.2.2.2.1, .int .i64 p.2.2.2.2.2] 110)) none := hG5
        have hg5 := hB5.lt
        generalize wr.alloc (.cells #[.string p.1, .string p.2.1, .int .i64 p.2.2.1, .int .i64 p.2.2.2.1, .int .i64 p.2.2.2.2.1, .int .i64 p.2.2.2.2.2] 110) = w5 at hB5 hG5 hg5 ⊢
        generalize wr.heap.size = g at hB5 hg5 ⊢
        refine (isKey_c _ _ hs1).mono ?_; rintro e w1 ⟨rfl, rfl⟩
        have c0 : World.cell? w5 ⟨g, 0, none⟩ = some (.string p.1) := hB5.cell 0
        have c1 : World.cell? w5 ⟨g, 1, none⟩ = some (.string p.2.1) := hB5.cell 1
        have c2 : World.cell? w5 ⟨g, 2, none⟩ = some (.int .i64 p.2.2.1) := hB5.cell 2
        have c3 : World.cell? w5 ⟨g, 3, none⟩ = some (.int .i64 p.2.2.2.1) := hB5.cell 3
        have c4 : World.cell? w5 ⟨g, 4, none⟩ = some (.int .i64 p.2.2.2.2.1) := hB5.cell 4
        have c5 : World.cell? w5 ⟨g, 5, none⟩ = some (.int .i64 p.2.2.2.2.2) := hB5.cell 5
        cases hkb : keyB p.1 with
        | false =>
          have HF : Hid (boE l = 5) := Lib.hid (by rw [H.out, HE.out, HS.out, if_pos hkb])
          clear hkb
          go_wp2_with fail
          go_ret
          exact ⟨by rw [HF.out]; rfl, hG5⟩
        | true =>
          have HK := Lib.hid hkb
          clear hkb
          go_wp2_with fail
          refine (isKey_c _ _ hs2).mono ?_; rintro e w1 ⟨rfl, rfl⟩
          cases hkb : keyB p.2.1 with
          | false =>
            have HF : Hid (boE l = 5) := Lib.hid (by rw [H.out, HE.out, HS.out, if_neg (by simp [HK.out]), if_pos hkb])
            clear hkb
            go_wp2_with fail
            go_ret
            exact ⟨by rw [HF.out]; rfl, hG5⟩
          | true =>
            have HK2 := Lib.hid hkb
            clear hkb
            cases hle : leB p.1 b with
            | true =>
              have HF : Hid (boE l = 7) := Lib.hid (by rw [H.out, HE.out, HS.out, if_neg (by simp [HK.out]), if_neg (by simp [HK2.out]), if_pos hle])
              unfold leB at hle
              go_wp2_with fail
              go_ret
              exact ⟨by rw [HF.out]; rfl, hG5⟩
            | false =>
              have HS2 : Hid (boErr ⟨#[]⟩ l = if boT p.2.2.1 p.2.2.2.1 p.2.2.2.2.1 p.2.2.2.2.2 = false then 1 else boErr p.1 (l.drop (k + 1))) := Lib.hid (by rw [HE.out, HS.out, if_neg (by simp [HK.out]), if_neg (by simp [HK2.out]), if_neg (by simp [hle])])
              unfold leB at hle
              clear HS HE
              have HT := Lib.hid (boTime hB5)
              go_wp2_with (refine wpList_load_at rfl 27 _ rfl ⟨g, 2, none⟩ rfl #[.int .i64 p.2.2.1, .int .i64 p.2.2.2.1] _ HT.out Try.underlying27 rfl (wi_info _ _) ?_)
              refine (isTime_c _ _ _).mono ?_; rintro e w2 ⟨rfl, hG2⟩
              have hB5 := hB5.quiet hG2
              have hG5 := hG5.trans hG2
              clear hG2 HT c0 c1 c2 c3 c4 c5
              have c0 : w2.cell? ⟨g, 0, none⟩ = some (.string p.1) := hB5.cell 0
              have c1 : w2.cell? ⟨g, 1, none⟩ = some (.string p.2.1) := hB5.cell 1
              have c2 : w2.cell? ⟨g, 2, none⟩ = some (.int .i64 p.2.2.1) := hB5.cell 2
              have c3 : w2.cell? ⟨g, 3, none⟩ = some (.int .i64 p.2.2.2.1) := hB5.cell 3
              have c4 : w2.cell? ⟨g, 4, none⟩ = some (.int .i64 p.2.2.2.2.1) := hB5.cell 4
              have c5 : w2.cell? ⟨g, 5, none⟩ = some (.int .i64 p.2.2.2.2.2) := hB5.cell 5
              cases ht : timB p.2.2.1 p.2.2.2.1 with
              | false =>
                have HF : Hid (boE l = 1) := Lib.hid (by rw [H.out, HS2.out, if_pos (by simp [boT, ht])])
                go_wp2_with fail
                go_ret
                exact ⟨by rw [HF.out]; rfl, hG5⟩
              | true =>
                have HTB := Lib.hid ht
                clear ht
                go_wp2_with fail
                refine (within_c _ _ _ _).mono ?_; rintro e w' ⟨rfl, rfl⟩
                cases hm1 : inB p.2.2.2.2.1 0 p.2.2.1 with
                | false =>
                  have HF : Hid (boE l = 1) := Lib.hid (by rw [H.out, HS2.out, if_pos (by simp [boT, hm1])])
                  go_wp2_with fail
                  go_ret
                  exact ⟨by rw [HF.out]; rfl, hG5⟩
                | true =>
                  have HM := Lib.hid hm1
                  clear hm1
                  go_wp2_with fail
                  refine (within_c _ _ _ _).mono ?_; rintro e w' ⟨rfl, rfl⟩
                  cases hp1 : inB p.2.2.2.2.2 0 100 with
                  | false =>
                    have HF : Hid (boE l = 1) := Lib.hid (by rw [H.out, HS2.out, if_pos (by simp [boT, hp1])])
                    go_wp2_with fail
                    go_ret
                    exact ⟨by rw [HF.out]; rfl, hG5⟩
                  | true =>
                    have HF : Hid (boErr ⟨#[]⟩ l = boErr p.1 (l.drop (k + 1))) := Lib.hid (by rw [HS2.out, if_neg (by simp [boT, HTB.out, HM.out, hp1])])
                    clear hp1
                    go_wp2_with fail
                    go_roundw
                    case rel => exact ⟨k + 1, p.1, by omega, by go_num, rfl, HF.out, hG5⟩
                    case measure => simp [intOf]; omega
      · obtain rfl : k = l.length := by omega
        have HE2 : Hid (boE l = 0) := Lib.hid (by rw [H.out, HE.out, List.drop_length]; rfl)
        go_wp2_with fail
        go_ret
        exact ⟨by rw [HE2.out]; rfl, hG⟩
end Go.Proofs.Ytbddcbbjmgepnaa

/- Tiers: CheckTiers; the reference's TiersFault. -/
namespace Go.Proofs.Ytbddcbbjmgepnaa
open Go.RowKit

/-- A tier: before, permille. -/
abbrev Ti := Int × Int
def tiC (x : Ti) : Array Value := #[.int .i64 x.1, .int .i64 x.2]
theorem tiC_sz (x : Ti) : (tiC x).size = 2 := rfl
def TiOk (l : List Ti) : Prop := ∀ x ∈ l, bnd x.1 ∧ bnd x.2
def tiAfter (b : Option Ti) (x : Ti) : Bool := match b with | none => false | some y => decide (y.1 ≤ x.1) || decide (x.2 < y.2)
def tiErr : Option Ti → List Ti → Int
  | _, [] => 0
  | b, x :: r => if inB x.1 1 5761440 = false then 1 else if inB x.2 0 1000 = false then 1 else if tiAfter b x = true then 7 else tiErr (some x) r
def tiE (l : List Ti) : Int := if 10 < l.length then 2 else tiErr none l
def TiRel (w : World) (l : List Ti) (i : Value) (wr : World) : Prop :=
  ∃ k : Nat, k ≤ l.length ∧ i = .int .i64 k ∧ tiErr none l = tiErr (prevAt l k) (l.drop k) ∧ G w wr none
theorem tiRow {W w : World} {bb bo n cap : Nat} {l : List Ti} (h : RdR W 2 tiC (.slice (some ⟨bb, bo, none⟩) n cap) l) (hG : G W w none) {k : Nat} {p : Ti} (hp : l[k]? = some p) :
    ∀ j v, (tiC p).toList[j]? = some v → w.cell? ((⟨bb, bo + k * 2, none⟩ : Addr).add j) = some v := fun j v hv => by
  rw [add_at]
  exact RdR.cell tiC_sz h hG hp j v hv
end Go.Proofs.Ytbddcbbjmgepnaa

/- CancelFee; the reference's CancelOf. -/
namespace Go.Proofs.Ytbddcbbjmgepnaa
open Go.RowKit

/-- The permille of the last tier that is meant. -/
def cnS (d a : Int) (x : Ti) : Int := if d < x.1 then x.2 else a
def cnP (l : List Ti) (d : Int) : Int := l.foldl (cnS d) 0
theorem cnP_succ {l : List Ti} {k : Nat} {p : Ti} (d : Int) (hp : l[k]? = some p) : cnP (l.take (k + 1)) d = cnS d (cnP (l.take k) d) p := by
  have hk : k < l.length := (List.getElem?_eq_some_iff.1 hp).1
  have e : l.take (k + 1) = l.take k ++ [p] := by
    rw [List.take_succ_eq_append_getElem hk, (List.getElem?_eq_some_iff.1 hp).2]
  unfold cnP
  rw [e, List.foldl_append]
  rfl
theorem cnP_rng {l : List Ti} (h : ∀ x ∈ l, 0 ≤ x.2 ∧ x.2 ≤ 1000) (d : Int) : 0 ≤ cnP l d ∧ cnP l d ≤ 1000 := by
  have : ∀ (r : List Ti) (a : Int), (∀ x ∈ r, 0 ≤ x.2 ∧ x.2 ≤ 1000) → 0 ≤ a ∧ a ≤ 1000 → 0 ≤ r.foldl (cnS d) a ∧ r.foldl (cnS d) a ≤ 1000 := by
    intro r
    induction r with
    | nil => intro a _ ha; exact ha
    | cons x r ih =>
      intro a hx ha
      refine ih _ (fun y hy => hx y (List.mem_cons_of_mem _ hy)) ?_
      unfold cnS
      split
      · exact hx x (List.mem_cons_self ..)
      · exact ha
  exact this l 0 h (by omega)
theorem tiErr_ok {l : List Ti} : ∀ {b : Option Ti}, tiErr b l = 0 → ∀ x ∈ l, 0 ≤ x.2 ∧ x.2 ≤ 1000 := by
  induction l with
  | nil => intro b _ x hx; cases hx
  | cons y r ih =>
    intro b h
    unfold tiErr at h
    split at h
    · exact absurd h (by decide)
    · split at h
      · exact absurd h (by decide)
      · rename_i h2
        split at h
        · exact absurd h (by decide)
        · intro x hx
          rcases List.mem_cons.1 hx with rfl | hx
          · simp only [inB, Bool.not_eq_false, Bool.and_eq_true, decide_eq_true_eq] at h2
            omega
          · exact ih h x hx
theorem tiE_ok {l : List Ti} (h : tiE l = 0) : ∀ x ∈ l, 0 ≤ x.2 ∧ x.2 ≤ 1000 := by
  unfold tiE at h
  split at h
  · exact absurd h (by decide)
  · exact tiErr_ok h
theorem boE_ok {b : Bo} (h : boE [b] = 0) : 0 ≤ b.2.2.1 ∧ b.2.2.1 < 5761440 := by
  have h1 : boErr ⟨#[]⟩ [b] = 0 := h
  unfold boErr at h1
  split at h1
  · exact absurd h1 (by decide)
  · split at h1
    · exact absurd h1 (by decide)
    · split at h1
      · exact absurd h1 (by decide)
      · split at h1
        · exact absurd h1 (by decide)
        · rename_i h2
          simp only [boT, Bool.not_eq_false, Bool.and_eq_true] at h2
          have := (timB_iff _ _).1 h2.1
          omega
theorem one_len (b : Bo) : ([b] : List Bo).length ≤ 1000 := by simp
theorem RdR.one {w : World} {g : Nat} {b : Bo} (h : Bk w g 110 (boC b)) : RdR w 6 boC (.slice (some ⟨g, 0, none⟩) 1 1) [b] := h.rd 6 1 rfl (by omega)
theorem BoOk.one {b : Bo} (h : boB b) : BoOk [b] := fun x hx => by
  obtain rfl := List.mem_singleton.1 hx
  exact h
def cfE (l : List Ti) (b : Bo) (c t : Int) : Int := if tiE l = 0 then (if boE [b] = 0 then (if inB c 0 1000000000 = false then 1 else if momB t = false then 1 else 0) else boE [b]) else tiE l
def cfN (l : List Ti) (b : Bo) (c t : Int) : Int := if cfE l b c t = 0 then c * cnP l (b.2.2.1 - t) / 1000 else 0
def CfRel (w : World) (l : List Ti) (d : Int) (g : Nat) (b : Bo) (s i : Value) (wr : World) : Prop :=
  ∃ k : Nat, k ≤ l.length ∧ i = .int .i64 k ∧ s = .int .i64 (cnP (l.take k) d) ∧ Bk wr g 110 (boC b) ∧ G w wr none
def CcoRel (w : World) (l : List Ti) (d c : Int) (g : Nat) (b : Bo) (s i : Value) (wr : World) : Prop :=
  ∃ k : Nat, k ≤ l.length ∧ i = .int .i64 k ∧ s = .int .i64 (c * cnP (l.take k) d / 1000) ∧ Bk wr g 110 (boC b) ∧ G w wr none
end Go.Proofs.Ytbddcbbjmgepnaa

/- basic.Lowest. -/
namespace Go.Proofs.Ytbddcbbjmgepnaa
open Go.RowKit

def frC (a b : Int) : Array Value := #[.int .i64 a, .int .i64 b]
theorem fr_info (a b : Int) : (Try.prog.info? 101).map (·.size) = some (frC a b).size := (by kernel_rfl : (Try.prog.info? 101).map (·.size) = some 2)
theorem fr_one (a b : Int) : (frC a b).all (·.oneCell') = true := by simp [frC, Value.oneCell']
theorem quo_wrap (n a q : Nat) (hn : n ≤ 1000000000000000000) (hq : n / a = q) : IntKind.i64.wrap ((n : Int) / (a : Int)) = (q : Int) := by
  have h2 : q ≤ n := by rw [← hq]; exact Nat.div_le_self n a
  have h1 : (n : Int) / (a : Int) = (q : Int) := by rw [← hq]; rfl
  rw [h1, IntKind.wrap_i64]
  omega
def LowRel (n d : Nat) (s5 s6 : Value) (w wr : World) : Prop :=
  ∃ a b : Nat, s5 = .int .i64 a ∧ s6 = .int .i64 b ∧ Nat.gcd a b = Nat.gcd d n ∧ a ≤ 1000000000000000000 ∧ b ≤ 1000000000000000000 ∧ 0 < a ∧ Bk wr w.heap.size 101 (frC 0 0) ∧ G w wr none
set_option maxRecDepth 100000 in
set_option maxHeartbeats 2000000 in
theorem lowest_c (n d : Nat) (w : World) (hn : n ≤ 1000000000000000000) (hd : d ≤ 1000000000000000000) (h0 : 0 < d) :
    Calls Try.prog 53 #[.int .i64 n, .int .i64 d] w fun e w' => e = .returned (.agg (frC (n / Nat.gcd d n : Nat) (d / Nat.gcd d n : Nat))) ∧ G w w' none := by
  go_enter Try.func53, Try.ntmps53
  go_wp2_with fail
  go_loopw [5, 6] (fun s5 s6 wr => LowRel n d s5 s6 w wr) (fun _ i _ => (intOf i).toNat)
  case atStart => exact ⟨d, n, rfl, rfl, rfl, hd, hn, h0, Bk.new w _ _, (G.refl _ _).alloc _⟩
  case round =>
    obtain ⟨a, b, rfl, rfl, hg, ha, hb, a0, hB, hG⟩ := hrel
    have HG := Lib.hid hg
    clear hg
    by_cases hb0 : b = 0
    · subst hb0
      have hag : a = Nat.gcd d n := by rw [← HG.out]; simp
      have HA := Lib.hid hag
      clear hag
      obtain ⟨q1, hq1⟩ : ∃ q, n / a = q := ⟨_, rfl⟩
      obtain ⟨q2, hq2⟩ : ∃ q, d / a = q := ⟨_, rfl⟩
      have hane : ¬ a = 0 := by omega
      have hw1 := quo_wrap n a q1 hn hq1
      have hw2 := quo_wrap d a q2 hd hq2
      have HQ1 := Lib.hid hq1
      have HQ2 := Lib.hid hq2
      clear hq1 hq2
      go_wp2_with fail
      have HQQ : Hid (Ending.returned (.agg (frC q1 q2)) = .returned (.agg (frC (n / Nat.gcd d n : Nat) (d / Nat.gcd d n : Nat)))) := Lib.hid (by rw [← HA.out, HQ1.out, HQ2.out])
      go_still_tail 7, (by kernel_rfl)
      change wpList _ _ _ _ _ wr.drew
      have hBd := hB.quiet ((G.refl wr none).drew)
      have hGd := hG.drew
      clear hB hG
      generalize wr.drew = w2 at hBd hGd ⊢
      go_wp2_with (refine wpList_store_row rfl 101 _ _ rfl w.heap.size (frC q1 q2) rfl rfl 101 _ hBd (fr_info q1 q2) rfl (fr_one q1 q2) ?_)
      refine bodyPost_ret (results_cell_row rfl _ _ w.heap.size 101 (frC q1 q2) (0, 0) _ rfl (hBd.setRow _) Try.underlying101 rfl (fr_info q1 q2)) rfl ?_
      exact ⟨HQQ.out, hGd.setRow (.inl (Nat.le_refl _)) _⟩
    · have hbp : 0 < b := by omega
      have hne : ((b : Int) != 0) = true := by rw [bne_iff_ne]; omega
      have hbq : ((b : Int) == 0) = false := by rw [beq_eq_false_iff_ne]; omega
      have htm : (a : Int).tmod (b : Int) = ((a % b : Nat) : Int) := by rw [Int.tmod_eq_emod_of_nonneg (by omega)]; rfl
      have hmw : IntKind.i64.wrap ((a % b : Nat) : Int) = ((a % b : Nat) : Int) := by have := Nat.mod_lt a hbp; rw [IntKind.wrap_i64]; omega
      have HML := Lib.hid (Nat.mod_lt a hbp)
      go_wp2_with fail
      go_quiet (fail)
      have hGq := hG.drewN nq
      have hBq := hB.drewN nq
      go_wp2_with fail
      go_roundw
      case rel => exact ⟨b, a % b, rfl, rfl, by rw [← HG.out, Nat.gcd_comm a b]; exact (Nat.gcd_rec b a).symm ▸ by rw [Nat.gcd_comm], hb, by have := HML.out; omega, hbp, hBq, hGq⟩
      case measure => have := HML.out; simp [intOf]; omega
end Go.Proofs.Ytbddcbbjmgepnaa

/- The law's own 'booked': the odds of one booking. -/
namespace Go.Proofs.Ytbddcbbjmgepnaa
open Go.RowKit

def coE (l : List Bo) : Int := if boE l = 0 then (if 9 < l.length then 2 else 0) else boE l
set_option maxRecDepth 100000 in
set_option maxHeartbeats 1000000 in
theorem checkOdds_c (v : Value) (l : List Bo) (w : World) (hr : RdR w 6 boC v l) (hl : BoOk l) (hn : l.length ≤ 1000) :
    Calls Try.prog 51 #[v] w fun e w' => e = .returned (.int .i64 (coE l)) ∧ G w w' none := by
  have HR := Lib.hid hr
  obtain ⟨a, cap, rfl, hcap, hm⟩ := RdR.form hr
  clear hr
  go_enter Try.func51, Try.ntmps51
  go_wp2_with fail
  refine (checkForm_c _ l _ HR.out hl hn).mono ?_; rintro e w1 ⟨rfl, hG1⟩
  by_cases h0 : boE l = 0
  · have HE : Hid (coE l = if 9 < l.length then 2 else 0) := Lib.hid (by rw [coE, if_pos h0])
    rw [h0]
    clear h0
    by_cases h9 : 9 < l.length
    · have HF : Hid (coE l = 2) := Lib.hid (by rw [HE.out, if_pos h9])
      go_wp2_with fail
      go_ret
      exact ⟨by rw [HF.out]; rfl, hG1⟩
    · have HF : Hid (coE l = 0) := Lib.hid (by rw [HE.out, if_neg h9])
      go_wp2_with fail
      go_ret
      exact ⟨by rw [HF.out]; rfl, hG1⟩
  · have HF : Hid (coE l = boE l) := Lib.hid (by rw [coE, if_neg h0])
    have h0' : (boE l != 0) = true := by rw [bne_iff_ne]; exact h0
    clear h0
    generalize boE l = E at h0' HF ⊢
    go_wp2_with fail
    go_ret
    exact ⟨by rw [HF.out]; rfl, hG1⟩
def bo1 : Bo := (⟨#[97]⟩, ⟨#[99]⟩, 0, 1, 0, 50)
set_option maxRecDepth 100000 in
set_option maxHeartbeats 4000000 in
theorem casesOf1_c (w : World) (b : Nat) (h : Bk w b 110 (boC bo1)) :
    Calls Try.prog 52 #[.slice (some ⟨b, 0, none⟩) 1 1] w fun e w' => ∃ g, e = .returned (.tuple #[.slice (some ⟨g, 0, none⟩) 2 2, .int .i64 100]) ∧ Bk w' g 3 #[.int .i64 50, .int .i64 50] ∧ G w w' none := by
  have HA := Lib.hid h.at_
  have hb := h.lt
  have h1 := h.alloc (.cells #[.int .i64 1] 3)
  have hG1 := (G.refl w none).alloc (.cells #[.int .i64 1] 3)
  have hN1 := Bk.new w 3 #[.int .i64 1]
  have HA1 := Lib.hid h1.at_
  have hms : ∀ w : World, (Instr.makeSlice 22 (.int .i64 2) (.int .i64 2)).run Try.prog w = .ok (.slice (some ⟨w.heap.size, 0, none⟩) 2 2) (w.alloc (.cells #[.int .i64 0, .int .i64 0] 3)) := fun _ => by kernel_rfl
  clear h
  go_enter Try.func52, Try.ntmps52
  go_wp2_with fail
  refine wp_loop_rounds 2 ?_
  rw [rounds_succ]
  go_wp2_with (refine wpList_load_at rfl 110 _ rfl ⟨b, 0, none⟩ rfl #[.string ⟨#[97]⟩, .string ⟨#[99]⟩, .int .i64 0, .int .i64 1, .int .i64 0, .int .i64 50] _ HA1.out Try.underlying110 rfl (bo_info bo1) ?_)
  refine wp_loop_rounds 2 ?_
  rw [rounds_succ]
  go_wp2_with fail
  have hP : Bk (((w.alloc (.cells #[.int .i64 1] 3)).alloc (.cells #[.string ⟨#[97]⟩, .string ⟨#[99]⟩, .int .i64 0, .int .i64 1, .int .i64 0, .int .i64 50] 110)).alloc (.cells #[.int .i64 0, .int .i64 0] 3)) (w.heap.size + 1) 110 (boC bo1) := (Bk.newAt (w := w.alloc (.cells #[.int .i64 1] 3)) (b := w.heap.size + 1) (by simp) 110 (boC bo1)).alloc _
  have hN : Bk (((w.alloc (.cells #[.int .i64 1] 3)).alloc (.cells #[.string ⟨#[97]⟩, .string ⟨#[99]⟩, .int .i64 0, .int .i64 1, .int .i64 0, .int .i64 50] 110)).alloc (.cells #[.int .i64 0, .int .i64 0] 3)) (w.heap.size + 1 + 1) 3 #[.int .i64 0, .int .i64 0] := Bk.newAt (w := ((w.alloc (.cells #[.int .i64 1] 3)).alloc (.cells #[.string ⟨#[97]⟩, .string ⟨#[99]⟩, .int .i64 0, .int .i64 1, .int .i64 0, .int .i64 50] 110))) (b := w.heap.size + 1 + 1) (by simp) 3 #[.int .i64 0, .int .i64 0]
  have hO : Bk (((w.alloc (.cells #[.int .i64 1] 3)).alloc (.cells #[.string ⟨#[97]⟩, .string ⟨#[99]⟩, .int .i64 0, .int .i64 1, .int .i64 0, .int .i64 50] 110)).alloc (.cells #[.int .i64 0, .int .i64 0] 3)) w.heap.size 3 #[.int .i64 1] := ((Bk.new w 3 #[.int .i64 1]).alloc _).alloc _
  have hG : G w (((w.alloc (.cells #[.int .i64 1] 3)).alloc (.cells #[.string ⟨#[97]⟩, .string ⟨#[99]⟩, .int .i64 0, .int .i64 1, .int .i64 0, .int .i64 50] 110)).alloc (.cells #[.int .i64 0, .int .i64 0] 3)) none := (((G.refl w none).alloc _).alloc _).alloc _
  clear h1 hG1 hN1 HA HA1
  generalize (((w.alloc (.cells #[.int .i64 1] 3)).alloc (.cells #[.string ⟨#[97]⟩, .string ⟨#[99]⟩, .int .i64 0, .int .i64 1, .int .i64 0, .int .i64 50] 110)).alloc (.cells #[.int .i64 0, .int .i64 0] 3)) = w4 at hP hN hO hG ⊢
  have p5 : w4.cell? ⟨w.heap.size + 1, 5, none⟩ = some (.int .i64 50) := hP.cell 5
  have n0 : w4.cell? ⟨w.heap.size + 1 + 1, 0, none⟩ = some (.int .i64 0) := hN.cell 0
  have f0 : w4.frozen? ⟨w.heap.size + 1 + 1, 0, none⟩ = false := hN.free 0
  go_still_tail 11, (by kernel_rfl)
  change wpList _ _ _ _ _ w4.drew
  have hPd := hP.quiet ((G.refl w4 none).drew)
  have hOd := hO.quiet ((G.refl w4 none).drew)
  have hNd := hN.quiet ((G.refl w4 none).drew)
  have hGd := hG.drew
  clear hP hN hO hG p5 n0 f0
  generalize w4.drew = w5 at hPd hOd hNd hGd ⊢
  have n0 : w5.cell? ⟨w.heap.size + 1 + 1, 0, none⟩ = some (.int .i64 0) := hNd.cell 0
  have f0 : w5.frozen? ⟨w.heap.size + 1 + 1, 0, none⟩ = false := hNd.free 0
  have hN : Bk (w5.setCell ⟨w.heap.size + 1 + 1, 0, none⟩ (.int .i64 50)) (w.heap.size + 1 + 1) 3 #[.int .i64 50, .int .i64 0] := hNd.set 0 _
  have hP := hPd.far (p := ⟨w.heap.size + 1 + 1, 0, none⟩) (show w.heap.size + 1 ≠ w.heap.size + 1 + 1 by omega) (.int .i64 50)
  have hG := hGd.setCell (p := ⟨w.heap.size + 1 + 1, 0, none⟩) (.inl (show w.heap.size ≤ w.heap.size + 1 + 1 by omega)) (.int .i64 50)
  clear hPd hNd hOd hGd
  go_wp2_with fail
  generalize w5.setCell ⟨w.heap.size + 1 + 1, 0, none⟩ (.int .i64 50) = w6 at hP hN hG ⊢
  have p5 : w6.cell? ⟨w.heap.size + 1, 5, none⟩ = some (.int .i64 50) := hP.cell 5
  have n1 : w6.cell? ⟨w.heap.size + 1 + 1, 1, none⟩ = some (.int .i64 0) := hN.cell 1
  have hw1 : IntKind.i64.wrap 1 = 1 := by decide
  have f1 : w6.frozen? ⟨w.heap.size + 1 + 1, 1, none⟩ = false := hN.free 1
  go_still_tail 11, (by kernel_rfl)
  change wpList _ _ _ _ _ w6.drew
  have hNd := hN.quiet ((G.refl w6 none).drew)
  have hGd := hG.drew
  clear hP hN hG p5 n1 f1
  generalize w6.drew = w7 at hNd hGd ⊢
  have n1 : w7.cell? ⟨w.heap.size + 1 + 1, 1, none⟩ = some (.int .i64 0) := hNd.cell 1
  have f1 : w7.frozen? ⟨w.heap.size + 1 + 1, 1, none⟩ = false := hNd.free 1
  have hN : Bk (w7.setCell ⟨w.heap.size + 1 + 1, 1, none⟩ (.int .i64 50)) (w.heap.size + 1 + 1) 3 #[.int .i64 50, .int .i64 50] := hNd.set 1 _
  have hG := hGd.setCell (p := ⟨w.heap.size + 1 + 1, 1, none⟩) (.inl (show w.heap.size ≤ w.heap.size + 1 + 1 by omega)) (.int .i64 50)
  clear hNd hGd
  go_wp2_with fail
  rw [rounds_succ]
  go_wp2_with fail
  rw [rounds_succ]
  go_wp2_with fail
  go_ret2
  exact ⟨_, rfl, hN, hG⟩
theorem bo1_ok : boB bo1 := ⟨small_of (by decide), small_of (by decide), by unfold bnd bo1; dsimp only; omega, by unfold bnd bo1; dsimp only; omega, by unfold bnd bo1; dsimp only; omega, by unfold bnd bo1; dsimp only; omega⟩
theorem coE_one : coE [bo1] = 0 := by
  have h1 : boE [bo1] = 0 := by
    show boErr ⟨#[]⟩ [bo1] = 0
    unfold boErr bo1
    dsimp only
    rw [if_neg (by rw [show keyB ⟨#[97]⟩ = true by decide]; decide), if_neg (by rw [show keyB ⟨#[99]⟩ = true by decide]; decide), if_neg (by rw [leB_cmp]; decide), if_neg (by decide)]
    rfl
  rw [coE, if_pos h1, if_neg (by decide)]
/-! A row of fractions that the call owns. -/
abbrev Fr := Int × Int
def frV (x : Fr) : Array Value := frC x.1 x.2
theorem frV_sz (x : Fr) : (frV x).size = 2 := rfl
abbrev OwnFr (w : World) (base : Nat) (v : Value) (l : List Fr) : Prop := w.ownsRow base 101 2 v l.length (rowL frV l)
theorem fr_row : (Try.prog.info? 101).map (fun i => (i.zero, i.size, i.bytes)) = some (some (.agg (frC 0 0)), 2, 16) := by kernel_rfl
theorem frV_one (r : Fr) : ∀ u ∈ (frV r).toList, u.oneCell' = true := by
  intro u hu
  simp [frV, frC] at hu
  rcases hu with rfl | rfl <;> rfl
theorem wp_append_fr {w : World} {o : Oper} {a : Act} {K : Act → World → Prop} {Q : Exit → Act → World → Prop} (s x : Operand)
    (ho : o.op = .call { callee := .builtin .append, args := #[s, x], argTypes := #[66, 66] }) (base : Nat) (v : Value) (l : List Fr) (hs : a.eval s = v) (hown : OwnFr w base v l)
    (g : Nat) (r : Fr) (hx : a.eval x = .slice (some ⟨g, 0, none⟩) 1 1) (hb : Bk w g 101 (frV r)) (hl : l.length ≤ 1000) (hbase : base ≤ w.heap.size)
    (hK : ∀ v' w', OwnFr w' base v' (l ++ [r]) → w.grownBy w' v.ownBlock → K (a.put o.dst v') w') : o.wp Try.prog a w K Q := by
  obtain ⟨i0, hi, hz0, hz1, hz2⟩ := info_parts fr_row
  refine wp_append_own w s x 66 ho base 101 i0 _ 2 16 Try.underlying66 hi hz0 hz1 hz2 rfl (by decide) v l.length (rowL frV l) hs hown ⟨g, 0, none⟩ 1 1 (frV r).toList hx rfl hb.at_ (frV_one r) (by unfold maxLen; omega) (by omega) hbase ?_
  intro v' w' h1 h2 _
  refine hK v' w' ?_ h2
  unfold OwnFr
  rw [List.length_append, rowL_snoc]
  exact h1
theorem OwnFr.alloc {w : World} {base : Nat} {v : Value} {l : List Fr} (h : OwnFr w base v l) (o : Obj) : OwnFr (w.alloc o) base v l := World.ownsRow.alloc h o
theorem OwnFr.quiet {w w' : World} {base : Nat} {v : Value} {l : List Fr} (h : OwnFr w base v l) (hg : G w w' none) : OwnFr w' base v l :=
  World.ownsRow.kept h hg (Classical.em _)
set_option maxRecDepth 100000 in
set_option maxHeartbeats 4000000 in
theorem spread1_c (w : World) (b : Nat) (h : Bk w b 110 (boC bo1)) :
    Calls Try.prog 26 #[.slice (some ⟨b, 0, none⟩) 1 1] w fun e w' => ∃ v, e = .returned (.tuple #[v, .int .i64 0]) ∧ OwnFr w' w.heap.size v [(1, 2), (1, 2)] ∧ G w w' none := by
  go_enter Try.func26, Try.ntmps26
  go_wp2_with fail
  refine (checkOdds_c _ [bo1] _ (RdR.one h) (BoOk.one bo1_ok) (one_len bo1)).mono ?_; rintro e w1 ⟨rfl, hG1⟩
  rw [coE_one]
  have h1 := h.quiet hG1
  go_wp2_with fail
  refine (casesOf1_c _ b h1).mono ?_; rintro e w2 ⟨g, rfl, hN2, hG2⟩
  have hG02 := hG1.trans hG2
  clear hG1 hG2 h h1
  have c0 : w2.cell? ⟨g, 0, none⟩ = some (.int .i64 50) := hN2.cell 0
  go_wp2_with fail
  refine wp_loop_rounds 3 ?_
  rw [rounds_succ]
  go_wp2_with fail
  refine (lowest_c 50 100 _ (by omega) (by omega) (by omega)).mono ?_; rintro e w3 ⟨rfl, hG3⟩
  rw [show frC ((50 / Nat.gcd 100 50 : Nat) : Int) ((100 / Nat.gcd 100 50 : Nat) : Int) = #[.int .i64 1, .int .i64 2] by rfl]
  have hN3 := (hN2.quiet hG3).alloc (.cells #[.int .i64 1, .int .i64 2] 101)
  have hG03 := (hG02.trans hG3).alloc (.cells #[.int .i64 1, .int .i64 2] 101)
  have hz3 := hG03.size
  clear hN2 hG02 hG3 c0
  go_wp2_with (at_builtin; refine wpList_plain rfl fun K' hK' => wp_append_fr _ _ rfl w.heap.size (.slice none 0 0) [] rfl (World.ownsRow_nil _ _ _ _) w3.heap.size (1, 2) rfl (Bk.new w3 _ _) (by simp) hz3 ?_; intro v1 w4 hown1 hgrow1; refine hK' _ _ ?_)
  have hN4 := hN3.quiet hgrow1
  have hG04 := hG03.trans hgrow1
  clear hN3 hG03 hz3 hgrow1
  have c1 : w4.cell? ⟨g, 1, none⟩ = some (.int .i64 50) := hN4.cell 1
  rw [rounds_succ]
  go_wp2_with fail
  refine (lowest_c 50 100 _ (by omega) (by omega) (by omega)).mono ?_; rintro e w5 ⟨rfl, hG5⟩
  rw [show frC ((50 / Nat.gcd 100 50 : Nat) : Int) ((100 / Nat.gcd 100 50 : Nat) : Int) = #[.int .i64 1, .int .i64 2] by rfl]
  have hown2 := (hown1.quiet hG5).alloc (.cells #[.int .i64 1, .int .i64 2] 101)
  have hG05 := (hG04.trans hG5).alloc (.cells #[.int .i64 1, .int .i64 2] 101)
  have hz5 := hG05.size
  clear hN4 hG04 hG5 c1 hown1
  go_wp2_with (at_builtin; refine wpList_plain rfl fun K' hK' => wp_append_fr _ _ rfl w.heap.size v1 [(1, 2)] rfl hown2 w5.heap.size (1, 2) rfl (Bk.new w5 _ _) (by simp) hz5 ?_; intro v2 w6 hown3 hgrow2; refine hK' _ _ ?_)
  have hG06 := hG05.other hgrow2 (fun j e => .inl (World.ownsRow.lt hown2 j e).1)
  rw [rounds_succ]
  go_wp2_with fail
  go_ret2
  exact ⟨_, rfl, hown3, hG06⟩
theorem fr_neq (x y : Fr) (w : World) : (binOp .neq 101 (.agg (frV x)) (.agg (frV y))).run Try.prog w = .ok (.bool (!(decide (x = y)))) w := by
  obtain ⟨a, b⟩ := x
  obtain ⟨c, d⟩ := y
  have ht : Try.prog.underlying 101 = some (.struct (Try.prog.fieldsOf 101)) := by kernel_rfl
  have hp : Try.prog.stoodInHeld 101 = false := by kernel_rfl
  rw [run_neq_struct, run_equalIn_agg w 9999 101 _ _ ht hp]
  simp [frV, frC, Try.underlying101, Try.underlying3, go_sem]
  by_cases h1 : a = c <;> by_cases h2 : b = d <;> simp [h1, h2]
def EqfRel (l m : List Fr) (w : World) (i : Value) (wr : World) : Prop := ∃ k n : Nat, k ≤ l.length ∧ i = .int .i64 k ∧ l.take k = m.take k ∧ wr = w.drewN n
theorem take_succ_eq {l m : List Fr} {k : Nat} {x : Fr} (h : l.take k = m.take k) (hx : l[k]? = some x) (hy : m[k]? = some x) : l.take (k + 1) = m.take (k + 1) := by
  rw [List.take_add_one, List.take_add_one, h, hx, hy]
end Go.Proofs.Ytbddcbbjmgepnaa
