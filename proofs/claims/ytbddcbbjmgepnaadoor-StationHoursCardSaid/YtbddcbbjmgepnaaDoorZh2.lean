/- Ord, Bs, Veh, LotA, LotB, Lots, Has, Open, Next, Min, Quiet, Nof, Errs, Reg, Shl. -/
import Derived.Test.YtbddcbbjmgepnaaDoorZh1
import Derived.Test.YtbddcbbjmgepnaaDoorShelf
import Derived.Deep.LoopGhost
import Derived.Handy
import Derived.BigQuiet
import Derived.Laws.ResultCell
import Derived.Deep.RegionHeld3
import Derived.RegionTactic
import Derived.Deep.DeepCutAuto
/- The order of strings: what strings.Compare says, and what '<=' says. No program but strings.Compare's contract. -/
namespace Go.Proofs.YtbddcbbjmgepnaaDoor
open Go.RowKit Go.Shelf

abbrev cL := Lib.compareBytes
theorem cL_self (a : List UInt8) : cL a a = 0 := by
  induction a with
  | nil => rfl
  | cons x a ih => show (if x < x then (-1 : Int) else if x < x then 1 else cL a a) = 0; simp [ih]
theorem u8_tri (x y : UInt8) : x < y ∨ x = y ∨ y < x := by
  rcases Nat.lt_trichotomy x.toNat y.toNat with h | h | h
  · exact .inl (UInt8.lt_iff_toNat_lt.2 h)
  · exact .inr (.inl (UInt8.toNat_inj.1 h))
  · exact .inr (.inr (UInt8.lt_iff_toNat_lt.2 h))
theorem u8_asym {x y : UInt8} (h : x < y) : ¬ y < x := by rw [UInt8.lt_iff_toNat_lt] at h ⊢; omega
theorem u8_trans {x y z : UInt8} (h : x < y) (k : y < z) : x < z := by rw [UInt8.lt_iff_toNat_lt] at h k ⊢; omega
theorem cL_cons (x y : UInt8) (a b : List UInt8) : cL (x :: a) (y :: b) = if x < y then -1 else if y < x then 1 else cL a b := rfl
theorem cL_range (a b : List UInt8) : cL a b = -1 ∨ cL a b = 0 ∨ cL a b = 1 := by
  induction a generalizing b with
  | nil => cases b with
    | nil => exact .inr (.inl rfl)
    | cons _ _ => exact .inl rfl
  | cons x a ih => cases b with
    | nil => exact .inr (.inr rfl)
    | cons y b =>
      rw [cL_cons]
      split
      · exact .inl rfl
      · split
        · exact .inr (.inr rfl)
        · exact ih b
theorem cL_eq {a b : List UInt8} (h : cL a b = 0) : a = b := by
  induction a generalizing b with
  | nil => cases b with
    | nil => rfl
    | cons _ _ => cases (show (-1 : Int) = 0 from h)
  | cons x a ih => cases b with
    | nil => cases (show (1 : Int) = 0 from h)
    | cons y b =>
      rw [cL_cons] at h
      rcases u8_tri x y with h1 | rfl | h1
      · rw [if_pos h1] at h; omega
      · rw [if_neg (fun q => u8_asym q q), if_neg (fun q => u8_asym q q)] at h
        rw [ih h]
      · rw [if_neg (u8_asym h1), if_pos h1] at h; omega
theorem cL_neg (a b : List UInt8) : cL b a = - cL a b := by
  induction a generalizing b with
  | nil => cases b <;> rfl
  | cons x a ih => cases b with
    | nil => rfl
    | cons y b =>
      rw [cL_cons, cL_cons]
      rcases u8_tri x y with h1 | rfl | h1
      · rw [if_neg (u8_asym h1), if_pos h1, if_pos h1]; rfl
      · rw [if_neg (fun q => u8_asym q q), if_neg (fun q => u8_asym q q), if_neg (fun q => u8_asym q q), if_neg (fun q => u8_asym q q)]; exact ih b
      · rw [if_pos h1, if_neg (u8_asym h1), if_pos h1]
theorem cL_trans {a b c : List UInt8} (h : cL a b < 0) (k : cL b c < 0) : cL a c < 0 := by
  induction a generalizing b c with
  | nil => cases c with
    | nil => cases b with
      | nil => exact h
      | cons _ _ => have : (1 : Int) < 0 := k; omega
    | cons _ _ => show (-1 : Int) < 0; omega
  | cons x a ih => cases b with
    | nil => have : (1 : Int) < 0 := h; omega
    | cons y b => cases c with
      | nil => have : (1 : Int) < 0 := k; omega
      | cons z c =>
        rw [cL_cons] at h k ⊢
        rcases u8_tri x y with h1 | rfl | h1
        · rcases u8_tri y z with h2 | rfl | h2
          · rw [if_pos (u8_trans h1 h2)]; omega
          · rw [if_pos h1]; omega
          · rw [if_neg (u8_asym h2), if_pos h2] at k; omega
        · rw [if_neg (fun q => u8_asym q q), if_neg (fun q => u8_asym q q)] at h
          rcases u8_tri x z with h2 | rfl | h2
          · rw [if_pos h2]; omega
          · rw [if_neg (fun q => u8_asym q q), if_neg (fun q => u8_asym q q)] at k ⊢
            exact ih h k
          · rw [if_neg (u8_asym h2), if_pos h2] at k; omega
        · rw [if_neg (u8_asym h1), if_pos h1] at h; omega
theorem less_cL (a b : List UInt8) : Op.bytesLess a b = decide (cL a b < 0) := by
  induction a generalizing b with
  | nil => cases b <;> rfl
  | cons x a ih => cases b with
    | nil => rfl
    | cons y b =>
      rw [cL_cons]
      unfold Op.bytesLess
      rcases u8_tri x y with h1 | rfl | h1
      · simp [h1]
      · simp [ih]
      · have h2 := u8_asym h1
        have h3 : x ≠ y := fun e => by rw [e] at h1; exact u8_asym h1 h1
        simp [h1, h2, h3]

/-- What strings.Compare returns. -/
def cmpI (a b : ByteArray) : Int := cL a.data.toList b.data.toList
theorem compare_c (a b : ByteArray) (w : World) : Calls Tryd.prog 83 #[.string a, .string b] w fun e w' => e = .returned (.int .i64 (cmpI a b)) ∧ w = w' :=
  (Any.strings_Compare Tryd.lays106 a b w).mono fun _ _ ⟨h1, h2⟩ => ⟨h1, h2.symm⟩
theorem cmpI_eq {a b : ByteArray} : cmpI a b = 0 ↔ a = b := by
  constructor
  · intro h
    exact Go.WideShapes.bytes_inj (cL_eq h)
  · intro h; rw [h]; exact cL_self _
theorem cmpI_neg (a b : ByteArray) : cmpI b a = - cmpI a b := cL_neg _ _
theorem cmpI_trans {a b c : ByteArray} (h : cmpI a b < 0) (k : cmpI b c < 0) : cmpI a c < 0 := cL_trans h k
theorem cmpI_range (a b : ByteArray) : cmpI a b = -1 ∨ cmpI a b = 0 ∨ cmpI a b = 1 := cL_range _ _
theorem leB_cmp (a b : ByteArray) : leB a b = decide (cmpI a b ≤ 0) := by
  unfold leB cmpI
  rw [less_cL, ByteArray.toList_eq, ByteArray.toList_eq]
  rcases cL_range a.data.toList b.data.toList with h | h | h
  · rw [h]; rfl
  · rw [h, cL_eq h]; simp
  · have : a.data.toList ≠ b.data.toList := fun e => by rw [e, cL_self] at h; omega
    rw [h, beq_eq_false_iff_ne.2 this]; rfl
theorem eqB_cmp (a b : ByteArray) : eqB a b = decide (cmpI a b = 0) := by
  rw [Bool.eq_iff_iff, eqB_iff, decide_eq_true_iff]
  exact cmpI_eq.symm
/-- Rising. -/
def Rise (l : List ByteArray) : Prop := l.Pairwise (fun a b => cmpI a b < 0)
def hasK (l : List ByteArray) (t : ByteArray) : Bool := l.any fun s => eqB s t
theorem hasK_iff {l : List ByteArray} {t : ByteArray} : hasK l t = true ↔ t ∈ l := by
  unfold hasK
  rw [List.any_eq_true]
  constructor
  · rintro ⟨s, hs, he⟩
    rw [eqB_iff] at he
    exact he ▸ hs
  · intro h
    exact ⟨t, h, eqB_iff.2 rfl⟩
theorem ck_rise (b : ByteArray) (l : List Cla) (h : ckErr b l = 0) : Rise (l.map (·.1)) ∧ ∀ p ∈ l, cmpI b p.1 < 0 := by
  induction l generalizing b with
  | nil => exact ⟨List.Pairwise.nil, fun p hp => by cases hp⟩
  | cons p r ih =>
    unfold ckErr at h
    split at h
    · omega
    · split at h
      · omega
      · rename_i hle
        split at h
        · omega
        · obtain ⟨i1, i2⟩ := ih p.1 h
          have hb : cmpI b p.1 < 0 := by
            rw [leB_cmp] at hle
            have h1 := cmpI_neg p.1 b
            simp at hle
            omega
          refine ⟨List.pairwise_cons.2 ⟨fun s hs => ?_, i1⟩, fun q hq => ?_⟩
          · obtain ⟨q, hq, rfl⟩ := List.mem_map.1 hs
            exact i2 q hq
          · rcases List.mem_cons.1 hq with rfl | hq
            · exact hb
            · exact cmpI_trans hb (i2 q hq)
theorem sta_rise (b : ByteArray) (l : List Sta) (h : staErr b l = 0) : Rise (l.map (·.1)) ∧ ∀ p ∈ l, cmpI b p.1 < 0 := by
  induction l generalizing b with
  | nil => exact ⟨List.Pairwise.nil, fun p hp => by cases hp⟩
  | cons p r ih =>
    unfold staErr at h
    split at h
    · omega
    · split at h
      · omega
      · rename_i hle
        split at h
        · omega
        · obtain ⟨i1, i2⟩ := ih p.1 h
          have hb : cmpI b p.1 < 0 := by
            rw [leB_cmp] at hle
            have h1 := cmpI_neg p.1 b
            simp at hle
            omega
          refine ⟨List.pairwise_cons.2 ⟨fun s hs => ?_, i1⟩, fun q hq => ?_⟩
          · obtain ⟨q, hq, rfl⟩ := List.mem_map.1 hs
            exact i2 q hq
          · rcases List.mem_cons.1 hq with rfl | hq
            · exact hb
            · exact cmpI_trans hb (i2 q hq)
/-- The binary search's end: all below 'i' are less, none from 'i' on is. -/
theorem bs_found (l : List ByteArray) (t : ByteArray) (hr : Rise l) (i : Nat) (hi : i ≤ l.length) (h1 : ∀ (j : Nat) (s : ByteArray), j < i → l[j]? = some s → cmpI s t < 0) (h2 : ∀ (j : Nat) (s : ByteArray), i ≤ j → l[j]? = some s → 0 ≤ cmpI s t) :
    hasK l t = (match l[i]? with | some s => decide (cmpI s t = 0) | none => false) := by
  cases hs : l[i]? with
  | none =>
    rw [← Bool.not_eq_true, hasK_iff]
    intro hm
    obtain ⟨j, hj⟩ := List.getElem?_of_mem hm
    have hjl := (List.getElem?_eq_some_iff.1 hj).1
    have hil := List.getElem?_eq_none_iff.1 hs
    have := h1 j t (by omega) hj
    rw [cmpI_eq.2 rfl] at this
    omega
  | some s =>
    rw [Bool.eq_iff_iff, hasK_iff, decide_eq_true_iff]
    constructor
    · intro hm
      obtain ⟨j, hj⟩ := List.getElem?_of_mem hm
      by_cases hji : j < i
      · have := h1 j t hji hj
        rw [cmpI_eq.2 rfl] at this
        omega
      · by_cases e : j = i
        · subst e
          rw [hs] at hj
          obtain rfl := Option.some.inj hj
          exact cmpI_eq.2 rfl
        · have h3 := h2 i s (Nat.le_refl _) hs
          have h4 : cmpI s t < 0 := by
            have hjl := (List.getElem?_eq_some_iff.1 hj)
            have hil := (List.getElem?_eq_some_iff.1 hs)
            have := List.pairwise_iff_getElem.1 hr i j hil.1 hjl.1 (by omega)
            rw [hil.2, hjl.2] at this
            exact this
          omega
    · intro h
      rw [cmpI_eq] at h
      subst h
      exact List.mem_of_getElem? hs
end Go.Proofs.YtbddcbbjmgepnaaDoor

/- The binary searches: hasStation, hasClass, hasVehicle. -/
namespace Go.Proofs.YtbddcbbjmgepnaaDoor
open Go.RowKit

/-- As 'wpList_load_at', where the operation is guarded and its guard says yes. -/
theorem wpList_load_at_g {P : Program} {ops : Array Oper} {rest : List Oper} {o : Oper} {a : Act} {w : World} {Q : Exit → Act → World → Prop} (hw : Region.wanted o (yielded ops a.tmps) = true) (ty : TypeId) (x : Operand) (ho : o.op = .load ty x)
    (ad : Addr) (hx : a.eval x = .pointer (some ad)) (cs : Array Value) (d : TypeDesc) (hc : ∀ j v, cs.toList[j]? = some v → w.cell? (ad.add j) = some v)
    (hu : P.underlying ty = some d) (hd : (match d with | .struct _ | .array _ _ => true | _ => false) = true) (hi : (P.info? ty).map (·.size) = some cs.size)
    (h : wpList P ops Q rest (a.put o.dst (.agg cs)) w) : wpList P ops Q (o :: rest) a w :=
  wpList_step fun K hK => by
    rw [if_pos hw]
    unfold Oper.wp execOp
    simp only [ho, hx, Instr.loadAt, Instr.sureAddr, Sem.run_bind, Sem.run_pure, Result.andThen_ok, run_loadVar_at w ad ty cs d hc hu hd hi]
    exact hK _ _ h
/-- A vehicle: its key, its class. -/
abbrev Veh := ByteArray × ByteArray
theorem ve_info (p : Veh) : (Tryd.prog.info? 83).map (·.size) = some (clC p).size := (by kernel_rfl : (Tryd.prog.info? 83).map (·.size) = some 2)
def BsPost (b : Bool) (w : World) (e : Ending) (w' : World) : Prop := ∃ i : Int, e = .returned (.tuple #[.int .i64 i, .bool b]) ∧ G w w' none
def BelowB (l : List ByteArray) (t : ByteArray) (i : Nat) : Prop := ∀ (j : Nat) (s : ByteArray), j < i → l[j]? = some s → cmpI s t < 0
def FromB (l : List ByteArray) (t : ByteArray) (i : Nat) : Prop := ∀ (j : Nat) (s : ByteArray), i ≤ j → l[j]? = some s → 0 ≤ cmpI s t
theorem BelowB.up {l : List ByteArray} {t s : ByteArray} {i : Nat} (hr : Rise l) (hs : l[i]? = some s) (h : cmpI s t < 0) : BelowB l t (i + 1) := by
  intro j u hj hu
  by_cases e : j = i
  · subst e; rw [hs] at hu; obtain rfl := Option.some.inj hu; exact h
  · have hjl := (List.getElem?_eq_some_iff.1 hu)
    have hil := (List.getElem?_eq_some_iff.1 hs)
    have := List.pairwise_iff_getElem.1 hr j i hjl.1 hil.1 (by omega)
    rw [hil.2, hjl.2] at this
    exact cmpI_trans this h
theorem FromB.down {l : List ByteArray} {t s : ByteArray} {i : Nat} (hr : Rise l) (hs : l[i]? = some s) (h : 0 ≤ cmpI s t) : FromB l t i := by
  intro j u hj hu
  by_cases e : j = i
  · subst e; rw [hs] at hu; obtain rfl := Option.some.inj hu; exact h
  · have hjl := (List.getElem?_eq_some_iff.1 hu)
    have hil := (List.getElem?_eq_some_iff.1 hs)
    have := List.pairwise_iff_getElem.1 hr i j hil.1 hjl.1 (by omega)
    rw [hil.2, hjl.2] at this
    have h3 := cmpI_neg s t
    have h4 : ¬ cmpI u t < 0 := fun q => by have := cmpI_trans this q; omega
    omega
def BsRel (w : World) (l : List ByteArray) (t : ByteArray) (kx : Nat) (s9 s10 : Value) (wr : World) : Prop :=
  ∃ lo hi : Nat, s9 = .int .i64 lo ∧ s10 = .int .i64 hi ∧ lo ≤ hi ∧ hi ≤ l.length ∧ hi - lo ≤ kx ∧ BelowB l t lo ∧ FromB l t hi ∧ G w wr none

/-! ### St -/
theorem cmpSt_c (p : Sta) (t : ByteArray) (w : World) : Calls Tryd.prog 110 #[.agg (stC p.1 p.2), .string t] w fun e w' => e = .returned (.int .i64 (cmpI p.1 t)) ∧ G w w' none := by
  have hc := (Bk.new w 30 (stC p.1 p.2)).cell 0
  rw [show (stC p.1 p.2)[0]? = some (.string p.1) from rfl] at hc
  go_enter Tryd.func110, Tryd.ntmps110
  go_wp2_with fail
  refine (compare_c _ _ _).mono ?_; rintro e w' ⟨rfl, rfl⟩
  go_wp2_with fail
  go_ret
  exact ⟨rfl, (G.refl _ _).alloc _⟩
set_option maxRecDepth 100000 in
set_option maxHeartbeats 2000000 in
theorem bsSt_c (v : Value) (l : List Sta) (t : ByteArray) (w : World) (hr : Rd w 15 v l.length (stL l)) (hn : l.length ≤ 1000000) (hs : Rise (l.map (·.1))) :
    Calls Tryd.prog 109 #[v, .string t, .func (.func 110) #[] #[]] w (BsPost (hasK (l.map (·.1)) t) w) := by
  obtain ⟨a, cap, rfl, hcap, hm, hlen, hnil, hcell⟩ := hr
  have HS := Lib.hid hs
  clear hs
  have hat : ∀ (k : Nat) (p : Sta), l[k]? = some p → (l.map (·.1))[k]? = some p.1 := fun k p h => by rw [List.getElem?_map, h]; rfl
  have HAT := Lib.hid hat
  clear hat
  have hll : (l.map (·.1)).length = l.length := List.length_map _
  obtain ⟨ks, hks⟩ : ∃ ks, l.map (·.1) = ks := ⟨_, rfl⟩
  rw [hks] at HS HAT hll ⊢
  clear hks
  have HLL := Lib.hid hll
  clear hll
  go_enter Tryd.func109, Tryd.ntmps109
  go_wp2_with fail
  go_loopg [9, 10] l.length (BsRel w ks t)
  case atStart => exact ⟨0, l.length, rfl, rfl, Nat.zero_le _, Nat.le_of_eq HLL.out.symm, by omega, fun j s hj => absurd hj (Nat.not_lt_zero _), fun j s hj hu => by have h1 := (List.getElem?_eq_some_iff.1 hu).1; have h2 := HLL.out; omega, G.refl _ _⟩
  case round =>
    obtain ⟨lo, hi, rfl, rfl, hlh, hin, hg, hbe, hfr, hG⟩ := hrel
    have HB := Lib.hid hbe
    have HF := Lib.hid hfr
    clear hbe hfr
    have hin' : hi ≤ l.length := by have := HLL.out; omega
    clear hin
    by_cases hlt : lo < hi
    · obtain ⟨m, hm0⟩ : ∃ m, (lo + hi) / 2 = m := ⟨_, rfl⟩
      have hml : lo ≤ m ∧ m < hi := by omega
      obtain ⟨hml1, hml2⟩ := hml
      have hmi : ((lo : Int) + (hi : Int)) / 2 = (m : Int) := by omega
      have HM := Lib.hid hm0
      clear hm0
      obtain ⟨p, hp⟩ : ∃ p, l[m]? = some p := ⟨_, List.getElem?_eq_getElem (by omega)⟩
      cases a with
      | none => have := (hnil rfl).1; omega
      | some ad =>
        obtain ⟨bb, bo, bs⟩ := ad
        obtain ⟨e1, e2, e3⟩ := hcell _ rfl
        dsimp only at e1 e2 e3
        subst e1
        have hrow : ∀ j v, (stC p.1 p.2).toList[j]? = some v → wr.cell? ((⟨bb, bo + m * 15, none⟩ : Addr).add j) = some v := by
          intro j v hv
          rw [add_at]
          have h1 := e3 (m * 15 + j) v (stL_at l m p hp j v hv)
          rw [← Nat.add_assoc] at h1
          exact ((gcell hG).1 bb _ e2).trans h1
        have HW := Lib.hid hrow
        clear hrow hcell e3 hnil
        have hp1 := HAT.out m p hp
        have HP := Lib.hid hp1
        clear hp1 hp
        by_cases hc : cmpI p.1 t < 0
        · have HU := Lib.hid (BelowB.up HS.out HP.out hc)
          go_wp2_with (refine wpList_load_at rfl 30 _ rfl ⟨bb, bo + m * 15, none⟩ rfl (stC p.1 p.2) _ HW.out Tryd.underlying30 rfl (st_info p.1 p.2) ?_)
          refine (cmpSt_c p t _).mono ?_; rintro e w1 ⟨rfl, hG1⟩
          go_wp2_with fail
          go_roundg (hi - (m + 1))
          case measure => omega
          case rel => exact ⟨m + 1, hi, by go_num, rfl, by omega, by have := HLL.out; omega, Nat.le_refl _, HU.out, HF.out, hG.trans hG1⟩
        · have HU := Lib.hid (FromB.down (t := t) HS.out HP.out (by omega))
          have hc' : 0 ≤ cmpI p.1 t := by omega
          go_wp2_with (refine wpList_load_at rfl 30 _ rfl ⟨bb, bo + m * 15, none⟩ rfl (stC p.1 p.2) _ HW.out Tryd.underlying30 rfl (st_info p.1 p.2) ?_)
          refine (cmpSt_c p t _).mono ?_; rintro e w1 ⟨rfl, hG1⟩
          go_wp2_with fail
          go_roundg (m - lo)
          case measure => omega
          case rel => exact ⟨lo, m, rfl, rfl, by omega, by have := HLL.out; omega, Nat.le_refl _, HB.out, HU.out, hG.trans hG1⟩
    · obtain rfl : hi = lo := by omega
      have hfd := bs_found ks t HS.out hi (by have := HLL.out; omega) HB.out HF.out
      have HD := Lib.hid hfd
      clear hfd
      by_cases hn' : hi < l.length
      · obtain ⟨p, hp⟩ : ∃ p, l[hi]? = some p := ⟨_, List.getElem?_eq_getElem hn'⟩
        cases a with
        | none => have := (hnil rfl).1; omega
        | some ad =>
          obtain ⟨bb, bo, bs⟩ := ad
          obtain ⟨e1, e2, e3⟩ := hcell _ rfl
          dsimp only at e1 e2 e3
          subst e1
          have hrow : ∀ j v, (stC p.1 p.2).toList[j]? = some v → wr.cell? ((⟨bb, bo + hi * 15, none⟩ : Addr).add j) = some v := by
            intro j v hv
            rw [add_at]
            have h1 := e3 (hi * 15 + j) v (stL_at l hi p hp j v hv)
            rw [← Nat.add_assoc] at h1
            exact ((gcell hG).1 bb _ e2).trans h1
          have HW := Lib.hid hrow
          clear hrow hcell e3 hnil
          have HN : Hid (hasK ks t = decide (cmpI p.1 t = 0)) := Lib.hid (by rw [HD.out, HAT.out hi p hp])
          clear hp
          go_wp2_with (refine wpList_load_at_g rfl 30 _ rfl ⟨bb, bo + hi * 15, none⟩ rfl (stC p.1 p.2) _ HW.out Tryd.underlying30 rfl (st_info p.1 p.2) ?_)
          refine (cmpSt_c p t _).mono ?_; rintro e w1 ⟨rfl, hG1⟩
          go_wp2_with fail
          go_ret2
          exact ⟨_, by rw [HN.out]; rfl, hG.trans hG1⟩
      · have HN : Hid (hasK ks t = false) := Lib.hid (by rw [HD.out, List.getElem?_eq_none (by have := HLL.out; omega)])
        go_wp2_with fail
        go_ret2
        exact ⟨_, by rw [HN.out]; rfl, hG⟩
set_option maxRecDepth 100000 in
theorem hasStation_c (v0 v1 v2 v3 : Value) (l : List Sta) (t : ByteArray) (w : World) (hr : Rd w 15 v0 l.length (stL l)) (hn : l.length ≤ 1000000) (hs : Rise (l.map (·.1))) :
    Calls Tryd.prog 92 #[.agg #[v0, v1, v2, v3], .string t] w fun e w' => e = .returned (.bool (hasK (l.map (·.1)) t)) ∧ G w w' none := by
  have HR := Lib.hid (hr.quiet ((G.refl w none).alloc (.cells #[v0, v1, v2, v3] 87)))
  have HS := Lib.hid hs
  have hc := (Bk.new w 87 #[v0, v1, v2, v3]).cell 0
  rw [show (#[v0, v1, v2, v3] : Array Value)[0]? = some v0 from rfl] at hc
  clear hs
  go_enter Tryd.func92, Tryd.ntmps92
  go_wp2_with fail
  refine (bsSt_c _ l t _ HR.out hn HS.out).mono ?_; rintro e w1 ⟨i, rfl, hG1⟩
  go_wp2_with fail
  go_ret
  exact ⟨rfl, ((G.refl w none).alloc _).trans hG1⟩

/-! ### Cl -/
theorem cmpCl_c (p : Cla) (t : ByteArray) (w : World) : Calls Tryd.prog 119 #[.agg (clC p), .string t] w fun e w' => e = .returned (.int .i64 (cmpI p.1 t)) ∧ G w w' none := by
  have hc := (Bk.new w 80 (clC p)).cell 0
  rw [show (clC p)[0]? = some (.string p.1) from rfl] at hc
  go_enter Tryd.func119, Tryd.ntmps119
  go_wp2_with fail
  refine (compare_c _ _ _).mono ?_; rintro e w' ⟨rfl, rfl⟩
  go_wp2_with fail
  go_ret
  exact ⟨rfl, (G.refl _ _).alloc _⟩
set_option maxRecDepth 100000 in
set_option maxHeartbeats 2000000 in
theorem bsCl_c (v : Value) (l : List Cla) (t : ByteArray) (w : World) (hr : Rd w 2 v l.length (clL l)) (hn : l.length ≤ 1000000) (hs : Rise (l.map (·.1))) :
    Calls Tryd.prog 118 #[v, .string t, .func (.func 119) #[] #[]] w (BsPost (hasK (l.map (·.1)) t) w) := by
  obtain ⟨a, cap, rfl, hcap, hm, hlen, hnil, hcell⟩ := hr
  have HS := Lib.hid hs
  clear hs
  have hat : ∀ (k : Nat) (p : Cla), l[k]? = some p → (l.map (·.1))[k]? = some p.1 := fun k p h => by rw [List.getElem?_map, h]; rfl
  have HAT := Lib.hid hat
  clear hat
  have hll : (l.map (·.1)).length = l.length := List.length_map _
  obtain ⟨ks, hks⟩ : ∃ ks, l.map (·.1) = ks := ⟨_, rfl⟩
  rw [hks] at HS HAT hll ⊢
  clear hks
  have HLL := Lib.hid hll
  clear hll
  go_enter Tryd.func118, Tryd.ntmps118
  go_wp2_with fail
  go_loopg [9, 10] l.length (BsRel w ks t)
  case atStart => exact ⟨0, l.length, rfl, rfl, Nat.zero_le _, Nat.le_of_eq HLL.out.symm, by omega, fun j s hj => absurd hj (Nat.not_lt_zero _), fun j s hj hu => by have h1 := (List.getElem?_eq_some_iff.1 hu).1; have h2 := HLL.out; omega, G.refl _ _⟩
  case round =>
    obtain ⟨lo, hi, rfl, rfl, hlh, hin, hg, hbe, hfr, hG⟩ := hrel
    have HB := Lib.hid hbe
    have HF := Lib.hid hfr
    clear hbe hfr
    have hin' : hi ≤ l.length := by have := HLL.out; omega
    clear hin
    by_cases hlt : lo < hi
    · obtain ⟨m, hm0⟩ : ∃ m, (lo + hi) / 2 = m := ⟨_, rfl⟩
      have hml : lo ≤ m ∧ m < hi := by omega
      obtain ⟨hml1, hml2⟩ := hml
      have hmi : ((lo : Int) + (hi : Int)) / 2 = (m : Int) := by omega
      have HM := Lib.hid hm0
      clear hm0
      obtain ⟨p, hp⟩ : ∃ p, l[m]? = some p := ⟨_, List.getElem?_eq_getElem (by omega)⟩
      cases a with
      | none => have := (hnil rfl).1; omega
      | some ad =>
        obtain ⟨bb, bo, bs⟩ := ad
        obtain ⟨e1, e2, e3⟩ := hcell _ rfl
        dsimp only at e1 e2 e3
        subst e1
        have hrow : ∀ j v, (clC p).toList[j]? = some v → wr.cell? ((⟨bb, bo + m * 2, none⟩ : Addr).add j) = some v := by
          intro j v hv
          rw [add_at]
          have h1 := e3 (m * 2 + j) v (clL_at l m p hp j v hv)
          rw [← Nat.add_assoc] at h1
          exact ((gcell hG).1 bb _ e2).trans h1
        have HW := Lib.hid hrow
        clear hrow hcell e3 hnil
        have hp1 := HAT.out m p hp
        have HP := Lib.hid hp1
        clear hp1 hp
        by_cases hc : cmpI p.1 t < 0
        · have HU := Lib.hid (BelowB.up HS.out HP.out hc)
          go_wp2_with (refine wpList_load_at rfl 80 _ rfl ⟨bb, bo + m * 2, none⟩ rfl (clC p) _ HW.out Tryd.underlying80 rfl (cl_info p) ?_)
          refine (cmpCl_c p t _).mono ?_; rintro e w1 ⟨rfl, hG1⟩
          go_wp2_with fail
          go_roundg (hi - (m + 1))
          case measure => omega
          case rel => exact ⟨m + 1, hi, by go_num, rfl, by omega, by have := HLL.out; omega, Nat.le_refl _, HU.out, HF.out, hG.trans hG1⟩
        · have HU := Lib.hid (FromB.down (t := t) HS.out HP.out (by omega))
          have hc' : 0 ≤ cmpI p.1 t := by omega
          go_wp2_with (refine wpList_load_at rfl 80 _ rfl ⟨bb, bo + m * 2, none⟩ rfl (clC p) _ HW.out Tryd.underlying80 rfl (cl_info p) ?_)
          refine (cmpCl_c p t _).mono ?_; rintro e w1 ⟨rfl, hG1⟩
          go_wp2_with fail
          go_roundg (m - lo)
          case measure => omega
          case rel => exact ⟨lo, m, rfl, rfl, by omega, by have := HLL.out; omega, Nat.le_refl _, HB.out, HU.out, hG.trans hG1⟩
    · obtain rfl : hi = lo := by omega
      have hfd := bs_found ks t HS.out hi (by have := HLL.out; omega) HB.out HF.out
      have HD := Lib.hid hfd
      clear hfd
      by_cases hn' : hi < l.length
      · obtain ⟨p, hp⟩ : ∃ p, l[hi]? = some p := ⟨_, List.getElem?_eq_getElem hn'⟩
        cases a with
        | none => have := (hnil rfl).1; omega
        | some ad =>
          obtain ⟨bb, bo, bs⟩ := ad
          obtain ⟨e1, e2, e3⟩ := hcell _ rfl
          dsimp only at e1 e2 e3
          subst e1
          have hrow : ∀ j v, (clC p).toList[j]? = some v → wr.cell? ((⟨bb, bo + hi * 2, none⟩ : Addr).add j) = some v := by
            intro j v hv
            rw [add_at]
            have h1 := e3 (hi * 2 + j) v (clL_at l hi p hp j v hv)
            rw [← Nat.add_assoc] at h1
            exact ((gcell hG).1 bb _ e2).trans h1
          have HW := Lib.hid hrow
          clear hrow hcell e3 hnil
          have HN : Hid (hasK ks t = decide (cmpI p.1 t = 0)) := Lib.hid (by rw [HD.out, HAT.out hi p hp])
          clear hp
          go_wp2_with (refine wpList_load_at_g rfl 80 _ rfl ⟨bb, bo + hi * 2, none⟩ rfl (clC p) _ HW.out Tryd.underlying80 rfl (cl_info p) ?_)
          refine (cmpCl_c p t _).mono ?_; rintro e w1 ⟨rfl, hG1⟩
          go_wp2_with fail
          go_ret2
          exact ⟨_, by rw [HN.out]; rfl, hG.trans hG1⟩
      · have HN : Hid (hasK ks t = false) := Lib.hid (by rw [HD.out, List.getElem?_eq_none (by have := HLL.out; omega)])
        go_wp2_with fail
        go_ret2
        exact ⟨_, by rw [HN.out]; rfl, hG⟩
set_option maxRecDepth 100000 in
theorem hasClass_c (v0 v1 v2 v3 : Value) (l : List Cla) (t : ByteArray) (w : World) (hr : Rd w 2 v1 l.length (clL l)) (hn : l.length ≤ 1000000) (hs : Rise (l.map (·.1))) :
    Calls Tryd.prog 105 #[.agg #[v0, v1, v2, v3], .string t] w fun e w' => e = .returned (.bool (hasK (l.map (·.1)) t)) ∧ G w w' none := by
  have HR := Lib.hid (hr.quiet ((G.refl w none).alloc (.cells #[v0, v1, v2, v3] 87)))
  have HS := Lib.hid hs
  have hc := (Bk.new w 87 #[v0, v1, v2, v3]).cell 1
  rw [show (#[v0, v1, v2, v3] : Array Value)[1]? = some v1 from rfl] at hc
  clear hs
  go_enter Tryd.func105, Tryd.ntmps105
  go_wp2_with fail
  refine (bsCl_c _ l t _ HR.out hn HS.out).mono ?_; rintro e w1 ⟨i, rfl, hG1⟩
  go_wp2_with fail
  go_ret
  exact ⟨rfl, ((G.refl w none).alloc _).trans hG1⟩

/-! ### Ve -/
theorem cmpVe_c (p : Veh) (t : ByteArray) (w : World) : Calls Tryd.prog 82 #[.agg (clC p), .string t] w fun e w' => e = .returned (.int .i64 (cmpI p.1 t)) ∧ G w w' none := by
  have hc := (Bk.new w 83 (clC p)).cell 0
  rw [show (clC p)[0]? = some (.string p.1) from rfl] at hc
  go_enter Tryd.func82, Tryd.ntmps82
  go_wp2_with fail
  refine (compare_c _ _ _).mono ?_; rintro e w' ⟨rfl, rfl⟩
  go_wp2_with fail
  go_ret
  exact ⟨rfl, (G.refl _ _).alloc _⟩
set_option maxRecDepth 100000 in
set_option maxHeartbeats 2000000 in
theorem bsVe_c (v : Value) (l : List Veh) (t : ByteArray) (w : World) (hr : Rd w 2 v l.length (clL l)) (hn : l.length ≤ 1000000) (hs : Rise (l.map (·.1))) :
    Calls Tryd.prog 81 #[v, .string t, .func (.func 82) #[] #[]] w (BsPost (hasK (l.map (·.1)) t) w) := by
  obtain ⟨a, cap, rfl, hcap, hm, hlen, hnil, hcell⟩ := hr
  have HS := Lib.hid hs
  clear hs
  have hat : ∀ (k : Nat) (p : Veh), l[k]? = some p → (l.map (·.1))[k]? = some p.1 := fun k p h => by rw [List.getElem?_map, h]; rfl
  have HAT := Lib.hid hat
  clear hat
  have hll : (l.map (·.1)).length = l.length := List.length_map _
  obtain ⟨ks, hks⟩ : ∃ ks, l.map (·.1) = ks := ⟨_, rfl⟩
  rw [hks] at HS HAT hll ⊢
  clear hks
  have HLL := Lib.hid hll
  clear hll
  go_enter Tryd.func81, Tryd.ntmps81
  go_wp2_with fail
  go_loopg [9, 10] l.length (BsRel w ks t)
  case atStart => exact ⟨0, l.length, rfl, rfl, Nat.zero_le _, Nat.le_of_eq HLL.out.symm, by omega, fun j s hj => absurd hj (Nat.not_lt_zero _), fun j s hj hu => by have h1 := (List.getElem?_eq_some_iff.1 hu).1; have h2 := HLL.out; omega, G.refl _ _⟩
  case round =>
    obtain ⟨lo, hi, rfl, rfl, hlh, hin, hg, hbe, hfr, hG⟩ := hrel
    have HB := Lib.hid hbe
    have HF := Lib.hid hfr
    clear hbe hfr
    have hin' : hi ≤ l.length := by have := HLL.out; omega
    clear hin
    by_cases hlt : lo < hi
    · obtain ⟨m, hm0⟩ : ∃ m, (lo + hi) / 2 = m := ⟨_, rfl⟩
      have hml : lo ≤ m ∧ m < hi := by omega
      obtain ⟨hml1, hml2⟩ := hml
      have hmi : ((lo : Int) + (hi : Int)) / 2 = (m : Int) := by omega
      have HM := Lib.hid hm0
      clear hm0
      obtain ⟨p, hp⟩ : ∃ p, l[m]? = some p := ⟨_, List.getElem?_eq_getElem (by omega)⟩
      cases a with
      | none => have := (hnil rfl).1; omega
      | some ad =>
        obtain ⟨bb, bo, bs⟩ := ad
        obtain ⟨e1, e2, e3⟩ := hcell _ rfl
        dsimp only at e1 e2 e3
        subst e1
        have hrow : ∀ j v, (clC p).toList[j]? = some v → wr.cell? ((⟨bb, bo + m * 2, none⟩ : Addr).add j) = some v := by
          intro j v hv
          rw [add_at]
          have h1 := e3 (m * 2 + j) v (clL_at l m p hp j v hv)
          rw [← Nat.add_assoc] at h1
          exact ((gcell hG).1 bb _ e2).trans h1
        have HW := Lib.hid hrow
        clear hrow hcell e3 hnil
        have hp1 := HAT.out m p hp
        have HP := Lib.hid hp1
        clear hp1 hp
        by_cases hc : cmpI p.1 t < 0
        · have HU := Lib.hid (BelowB.up HS.out HP.out hc)
          go_wp2_with (refine wpList_load_at rfl 83 _ rfl ⟨bb, bo + m * 2, none⟩ rfl (clC p) _ HW.out Tryd.underlying83 rfl (ve_info p) ?_)
          refine (cmpVe_c p t _).mono ?_; rintro e w1 ⟨rfl, hG1⟩
          go_wp2_with fail
          go_roundg (hi - (m + 1))
          case measure => omega
          case rel => exact ⟨m + 1, hi, by go_num, rfl, by omega, by have := HLL.out; omega, Nat.le_refl _, HU.out, HF.out, hG.trans hG1⟩
        · have HU := Lib.hid (FromB.down (t := t) HS.out HP.out (by omega))
          have hc' : 0 ≤ cmpI p.1 t := by omega
          go_wp2_with (refine wpList_load_at rfl 83 _ rfl ⟨bb, bo + m * 2, none⟩ rfl (clC p) _ HW.out Tryd.underlying83 rfl (ve_info p) ?_)
          refine (cmpVe_c p t _).mono ?_; rintro e w1 ⟨rfl, hG1⟩
          go_wp2_with fail
          go_roundg (m - lo)
          case measure => omega
          case rel => exact ⟨lo, m, rfl, rfl, by omega, by have := HLL.out; omega, Nat.le_refl _, HB.out, HU.out, hG.trans hG1⟩
    · obtain rfl : hi = lo := by omega
      have hfd := bs_found ks t HS.out hi (by have := HLL.out; omega) HB.out HF.out
      have HD := Lib.hid hfd
      clear hfd
      by_cases hn' : hi < l.length
      · obtain ⟨p, hp⟩ : ∃ p, l[hi]? = some p := ⟨_, List.getElem?_eq_getElem hn'⟩
        cases a with
        | none => have := (hnil rfl).1; omega
        | some ad =>
          obtain ⟨bb, bo, bs⟩ := ad
          obtain ⟨e1, e2, e3⟩ := hcell _ rfl
          dsimp only at e1 e2 e3
          subst e1
          have hrow : ∀ j v, (clC p).toList[j]? = some v → wr.cell? ((⟨bb, bo + hi * 2, none⟩ : Addr).add j) = some v := by
            intro j v hv
            rw [add_at]
            have h1 := e3 (hi * 2 + j) v (clL_at l hi p hp j v hv)
            rw [← Nat.add_assoc] at h1
            exact ((gcell hG).1 bb _ e2).trans h1
          have HW := Lib.hid hrow
          clear hrow hcell e3 hnil
          have HN : Hid (hasK ks t = decide (cmpI p.1 t = 0)) := Lib.hid (by rw [HD.out, HAT.out hi p hp])
          clear hp
          go_wp2_with (refine wpList_load_at_g rfl 83 _ rfl ⟨bb, bo + hi * 2, none⟩ rfl (clC p) _ HW.out Tryd.underlying83 rfl (ve_info p) ?_)
          refine (cmpVe_c p t _).mono ?_; rintro e w1 ⟨rfl, hG1⟩
          go_wp2_with fail
          go_ret2
          exact ⟨_, by rw [HN.out]; rfl, hG.trans hG1⟩
      · have HN : Hid (hasK ks t = false) := Lib.hid (by rw [HD.out, List.getElem?_eq_none (by have := HLL.out; omega)])
        go_wp2_with fail
        go_ret2
        exact ⟨_, by rw [HN.out]; rfl, hG⟩
set_option maxRecDepth 100000 in
theorem hasVehicle_c (v0 v1 v2 v3 : Value) (l : List Veh) (t : ByteArray) (w : World) (hr : Rd w 2 v2 l.length (clL l)) (hn : l.length ≤ 1000000) (hs : Rise (l.map (·.1))) :
    Calls Tryd.prog 68 #[.agg #[v0, v1, v2, v3], .string t] w fun e w' => e = .returned (.bool (hasK (l.map (·.1)) t)) ∧ G w w' none := by
  have HR := Lib.hid (hr.quiet ((G.refl w none).alloc (.cells #[v0, v1, v2, v3] 87)))
  have HS := Lib.hid hs
  have hc := (Bk.new w 87 #[v0, v1, v2, v3]).cell 2
  rw [show (#[v0, v1, v2, v3] : Array Value)[2]? = some v2 from rfl] at hc
  clear hs
  go_enter Tryd.func68, Tryd.ntmps68
  go_wp2_with fail
  refine (bsVe_c _ l t _ HR.out hn HS.out).mono ?_; rintro e w1 ⟨i, rfl, hG1⟩
  go_wp2_with fail
  go_ret
  exact ⟨rfl, ((G.refl w none).alloc _).trans hG1⟩
end Go.Proofs.YtbddcbbjmgepnaaDoor

/- checkVehicles, CheckFleet. -/
namespace Go.Proofs.YtbddcbbjmgepnaaDoor
open Go.RowKit

/-- Whether so many vehicles are right, 'ck' being the keys of the classes. -/
def vhErr (ck : List ByteArray) (before : ByteArray) : List Veh → Int
  | [] => 0
  | p :: r => if keyB p.1 = false then 5 else if leB p.1 before = true then 7 else if hasK ck p.2 = false then 8 else vhErr ck p.1 r
def vhE (ck : List ByteArray) (l : List Veh) : Int := if 500 < l.length then 2 else vhErr ck ⟨#[]⟩ l
theorem fl_info (v0 v1 v2 v3 : Value) : (Tryd.prog.info? 87).map (·.size) = some (#[v0, v1, v2, v3] : Array Value).size := (by kernel_rfl : (Tryd.prog.info? 87).map (·.size) = some 4)
def VhRel (w : World) (ck : List ByteArray) (l : List Veh) (v0 v1 v2 v3 : Value) (v i : Value) (wr : World) : Prop :=
  ∃ (k : Nat) (b : ByteArray), k ≤ l.length ∧ i = .int .i64 k ∧ v = .string b ∧ vhErr ck ⟨#[]⟩ l = vhErr ck b (l.drop k) ∧ G w wr none ∧ Bk wr w.heap.size 87 #[v0, v1, v2, v3]
set_option maxRecDepth 100000 in
set_option maxHeartbeats 4000000 in
theorem checkVehicles_c (v0 v1 v2 v3 : Value) (lc : List Cla) (l : List Veh) (w : World) (hc : Rd w 2 v1 lc.length (clL lc)) (hcn : lc.length ≤ 1000) (hcr : Rise (lc.map (·.1))) (hr : Rd w 2 v2 l.length (clL l)) (hl : ClsOk l) (hn : l.length ≤ 1000000) :
    Calls Tryd.prog 90 #[.agg #[v0, v1, v2, v3]] w fun e w' => e = .returned (.int .i64 (vhE (lc.map (·.1)) l)) ∧ G w w' none := by
  obtain ⟨ck, hck⟩ : ∃ ck, lc.map (·.1) = ck := ⟨_, rfl⟩
  have HC := Lib.hid hc
  have HCR := Lib.hid hcr
  have HCK := Lib.hid hck
  rw [hck]
  clear hc hcr hck
  have hr0 := hr
  obtain ⟨a, cap, rfl, hcap, hm, hlen, hnil, hcell⟩ := hr
  have hf2 := (Bk.new w 87 #[v0, v1, Value.slice a l.length cap, v3]).cell 2
  rw [show (#[v0, v1, Value.slice a l.length cap, v3] : Array Value)[2]? = some (.slice a l.length cap) from rfl] at hf2
  by_cases h500 : 500 < l.length
  · have H := Lib.hid (show vhE ck l = 2 by simp [vhE, h500])
    go_enter Tryd.func90, Tryd.ntmps90
    go_wp2_with fail
    go_ret
    exact ⟨by rw [H.out]; rfl, (G.refl _ _).alloc _⟩
  · have H := Lib.hid (show vhE ck l = vhErr ck ⟨#[]⟩ l by simp [vhE, h500])
    go_enter Tryd.func90, Tryd.ntmps90
    go_wp2_with fail
    clear hf2
    go_loopw [3, 13] (VhRel w ck l v0 v1 (.slice a l.length cap) v3) (fun _ i _ => l.length - (intOf i).toNat)
    case atStart => exact ⟨0, ⟨#[]⟩, by omega, rfl, rfl, rfl, (G.refl _ _).alloc _, Bk.new _ _ _⟩
    case round =>
      obtain ⟨k, b, hkl, rfl, rfl, heq, hG, hF⟩ := hrel
      have HE := Lib.hid heq
      clear heq
      by_cases hk : k < l.length
      · obtain ⟨p, hp⟩ : ∃ p, l[k]? = some p := ⟨_, List.getElem?_eq_getElem hk⟩
        have hdrop : l.drop k = p :: l.drop (k + 1) := by rw [List.drop_eq_getElem_cons hk, ← (List.getElem?_eq_some_iff.1 hp).2]
        have hpl := hl p (List.mem_of_getElem? hp)
        cases a with
        | none => have := (hnil rfl).1; omega
        | some ad =>
          obtain ⟨bb, bo, bs⟩ := ad
          obtain ⟨e1, e2, e3⟩ := hcell _ rfl
          dsimp only at e1 e2 e3
          subst e1
          have hrow : ∀ j v, (clC p).toList[j]? = some v → wr.cell? ((⟨bb, bo + k * 2, none⟩ : Addr).add j) = some v := by
            intro j v hv
            rw [add_at]
            have h1 := e3 (k * 2 + j) v (clL_at l k p hp j v hv)
            rw [← Nat.add_assoc] at h1
            exact ((gcell hG).1 bb _ e2).trans h1
          have HR := Lib.hid hrow
          clear hrow hcell e3 hnil
          have hs1 := hpl.1
          unfold Small at hs1
          have HS : Hid (vhErr ck b (l.drop k) = if keyB p.1 = false then 5 else if leB p.1 b = true then 7 else if hasK ck p.2 = false then 8 else vhErr ck p.1 (l.drop (k + 1))) := Lib.hid (by rw [hdrop]; rfl)
          clear hdrop
          have hF' := hF.alloc (.cells #[.string p.1, .string p.2] 83)
          have hBn := Bk.new wr 83 #[.string p.1, .string p.2]
          go_wp2_with (refine wpList_load_at rfl 83 _ rfl ⟨bb, bo + k * 2, none⟩ rfl #[.string p.1, .string p.2] _ HR.out Tryd.underlying83 rfl (ve_info p) ?_)
          refine (isKey_c _ _ hs1).mono ?_; rintro e w' ⟨rfl, rfl⟩
          cases hkb : keyB p.1 with
          | false =>
            have HF : Hid (vhE ck l = 5) := Lib.hid (by rw [H.out, HE.out, HS.out, if_pos hkb])
            clear hkb
            go_wp2_with fail
            go_ret
            exact ⟨by rw [HF.out]; rfl, hG.alloc _⟩
          | true =>
            cases hle : leB p.1 b with
            | true =>
              have HF : Hid (vhE ck l = 7) := Lib.hid (by rw [H.out, HE.out, HS.out, if_neg (by simp [hkb]), if_pos hle])
              unfold leB at hle
              clear hkb
              go_wp2_with fail
              go_ret
              exact ⟨by rw [HF.out]; rfl, hG.alloc _⟩
            | false =>
              have HL := Lib.hid hle
              have HK := Lib.hid hkb
              unfold leB at hle
              clear hkb
              go_wp2_with (refine wpList_load_row rfl 87 _ rfl w.heap.size rfl 87 #[v0, v1, .slice (some ⟨bb, bo, none⟩) l.length cap, v3] (0, 0) _ hF' Tryd.underlying87 rfl (fl_info _ _ _ _) ?_)
              refine (hasClass_c v0 v1 _ v3 lc p.2 _ (HC.out.quiet (hG.alloc _)) (by omega) HCR.out).mono ?_; rintro e w2 ⟨rfl, hG2⟩
              rw [HCK.out]
              have hc0 : w2.cell? ⟨wr.heap.size, 0, none⟩ = some (.string p.1) := ((gcell hG2).1 _ 0 (by simp)).trans (hBn.cell 0)
              have hG3 := (hG.alloc (.cells #[.string p.1, .string p.2] 83)).trans hG2
              have hF3 := hF'.quiet hG2
              clear hG2 hF' hF hBn
              cases hok : hasK ck p.2 with
              | false =>
                have HF : Hid (vhE ck l = 8) := Lib.hid (by rw [H.out, HE.out, HS.out, if_neg (by simp [HK.out]), if_neg (by simp [HL.out]), if_pos hok])
                clear hok
                go_wp2_with fail
                go_ret
                exact ⟨by rw [HF.out]; rfl, hG3⟩
              | true =>
                have HF : Hid (vhErr ck ⟨#[]⟩ l = vhErr ck p.1 (l.drop (k + 1))) := Lib.hid (by rw [HE.out, HS.out, if_neg (by simp [HK.out]), if_neg (by simp [HL.out]), if_neg (by simp [hok])])
                clear hok
                go_wp2_with fail
                go_roundw
                case rel => exact ⟨k + 1, p.1, by omega, by go_num, rfl, HF.out, hG3, hF3⟩
                case measure => simp [intOf]; omega
      · obtain rfl : k = l.length := by omega
        have HE2 : Hid (vhE ck l = 0) := Lib.hid (by rw [H.out, HE.out, List.drop_length]; rfl)
        go_wp2_with fail
        go_ret
        exact ⟨by rw [HE2.out]; rfl, hG⟩

/-! ### CheckFleet: its plates by a contract that is handed in -/
def flE (ls : List Sta) (lc : List Cla) (lv : List Veh) (pe : Int) : Int :=
  if stErr ls = 0 then if clErr lc = 0 then if vhE (lc.map (·.1)) lv = 0 then pe else vhE (lc.map (·.1)) lv else clErr lc else stErr ls
theorem stErr_rise {l : List Sta} (h : stErr l = 0) : Rise (l.map (·.1)) := by
  unfold stErr at h
  split at h
  · omega
  · exact (sta_rise _ _ h).1
theorem clErr_rise {l : List Cla} (h : clErr l = 0) : Rise (l.map (·.1)) := by
  unfold clErr at h
  split at h
  · omega
  · split at h
    · rename_i hc
      exact (ck_rise _ _ hc).1
    · contradiction
set_option maxRecDepth 100000 in
set_option maxHeartbeats 4000000 in
theorem checkFleet_c (v0 v1 v2 v3 : Value) (ls : List Sta) (lc : List Cla) (lv : List Veh) (pe : Int) (w : World)
    (hs : Rd w 15 v0 ls.length (stL ls)) (hsl : KeysOk ls) (hsn : ls.length ≤ 1000) (hc : Rd w 2 v1 lc.length (clL lc)) (hcl : ClsOk lc) (hcn : lc.length ≤ 1000) (hv : Rd w 2 v2 lv.length (clL lv)) (hvl : ClsOk lv) (hvn : lv.length ≤ 1000000)
    (hp : stErr ls = 0 → clErr lc = 0 → vhE (lc.map (·.1)) lv = 0 → ∀ w1, G w w1 none → Calls Tryd.prog 91 #[.agg #[v0, v1, v2, v3]] w1 fun e w' => e = .returned (.int .i64 pe) ∧ G w1 w' none) :
    Calls Tryd.prog 78 #[.agg #[v0, v1, v2, v3]] w fun e w' => e = .returned (.int .i64 (flE ls lc lv pe)) ∧ G w w' none := by
  have HP := Lib.hid hp
  clear hp
  have hF0 := Bk.new w 87 #[v0, v1, v2, v3]
  have hf0 := hF0.cell 0
  rw [show (#[v0, v1, v2, v3] : Array Value)[0]? = some v0 from rfl] at hf0
  have hG0 : G w (w.alloc (.cells #[v0, v1, v2, v3] 87)) none := (G.refl _ _).alloc _
  by_cases h1 : stErr ls = 0
  · have H1 := Lib.hid h1
    clear h1
    by_cases h2 : clErr lc = 0
    · have H2 := Lib.hid h2
      clear h2
      by_cases h3 : vhE (lc.map (·.1)) lv = 0
      · have H : Hid (flE ls lc lv pe = pe) := Lib.hid (by simp [flE, H1.out, H2.out, h3])
        have H3 := Lib.hid h3
        clear h3
        go_enter Tryd.func78, Tryd.ntmps78
        go_wp2_with fail
        refine (checkStations_c v0 ls _ (hs.quiet hG0) hsl hsn).mono ?_; rintro e w1 ⟨rfl, hG1⟩
        rw [H1.out]
        have hF1 := hF0.quiet hG1
        have hG01 := hG0.trans hG1
        have hf1 := hF1.cell 1
        rw [show (#[v0, v1, v2, v3] : Array Value)[1]? = some v1 from rfl] at hf1
        clear hG0 hG1 hF0 hf0
        go_wp2_with fail
        refine (checkClasses_c v1 lc _ (hc.quiet hG01) hcl hcn).mono ?_; rintro e w2 ⟨rfl, hG2⟩
        rw [H2.out]
        have hF2 := hF1.quiet hG2
        have hG02 := hG01.trans hG2
        clear hG01 hG2 hF1 hf1
        go_wp2_with (refine wpList_load_row rfl 87 _ rfl w.heap.size rfl 87 #[v0, v1, v2, v3] (0, 0) _ hF2 Tryd.underlying87 rfl (fl_info _ _ _ _) ?_)
        refine (checkVehicles_c v0 v1 v2 v3 lc lv _ (hc.quiet hG02) hcn (clErr_rise H2.out) (hv.quiet hG02) hvl hvn).mono ?_; rintro e w3 ⟨rfl, hG3⟩
        rw [H3.out]
        have hF3 := hF2.quiet hG3
        have hG03 := hG02.trans hG3
        clear hG02 hG3 hF2
        go_wp2_with (refine wpList_load_row rfl 87 _ rfl w.heap.size rfl 87 #[v0, v1, v2, v3] (0, 0) _ hF3 Tryd.underlying87 rfl (fl_info _ _ _ _) ?_)
        refine (HP.out H1.out H2.out H3.out _ hG03).mono ?_; rintro e w4 ⟨rfl, hG4⟩
        go_wp2_with fail
        go_ret
        exact ⟨by rw [H.out]; rfl, hG03.trans hG4⟩
      · have H : Hid (flE ls lc lv pe = vhE (lc.map (·.1)) lv) := Lib.hid (by simp [flE, H1.out, H2.out, h3])
        have h3' : (vhE (lc.map (·.1)) lv != 0) = true := by rw [bne_iff_ne]; exact h3
        clear h3 HP
        generalize hx : vhE (lc.map (·.1)) lv = x at H h3'
        have HX := Lib.hid hx
        clear hx
        go_enter Tryd.func78, Tryd.ntmps78
        go_wp2_with fail
        refine (checkStations_c v0 ls _ (hs.quiet hG0) hsl hsn).mono ?_; rintro e w1 ⟨rfl, hG1⟩
        rw [H1.out]
        have hF1 := hF0.quiet hG1
        have hG01 := hG0.trans hG1
        have hf1 := hF1.cell 1
        rw [show (#[v0, v1, v2, v3] : Array Value)[1]? = some v1 from rfl] at hf1
        clear hG0 hG1 hF0 hf0
        go_wp2_with fail
        refine (checkClasses_c v1 lc _ (hc.quiet hG01) hcl hcn).mono ?_; rintro e w2 ⟨rfl, hG2⟩
        rw [H2.out]
        have hF2 := hF1.quiet hG2
        have hG02 := hG01.trans hG2
        clear hG01 hG2 hF1 hf1
        go_wp2_with (refine wpList_load_row rfl 87 _ rfl w.heap.size rfl 87 #[v0, v1, v2, v3] (0, 0) _ hF2 Tryd.underlying87 rfl (fl_info _ _ _ _) ?_)
        refine (checkVehicles_c v0 v1 v2 v3 lc lv _ (hc.quiet hG02) hcn (clErr_rise H2.out) (hv.quiet hG02) hvl hvn).mono ?_; rintro e w3 ⟨rfl, hG3⟩
        rw [HX.out]
        go_wp2_with fail
        go_ret
        exact ⟨by rw [H.out]; rfl, hG02.trans hG3⟩
    · have H : Hid (flE ls lc lv pe = clErr lc) := Lib.hid (by simp [flE, H1.out, h2])
      have h2' : (clErr lc != 0) = true := by rw [bne_iff_ne]; exact h2
      clear h2 HP
      go_enter Tryd.func78, Tryd.ntmps78
      go_wp2_with fail
      refine (checkStations_c v0 ls _ (hs.quiet hG0) hsl hsn).mono ?_; rintro e w1 ⟨rfl, hG1⟩
      rw [H1.out]
      have hF1 := hF0.quiet hG1
      have hG01 := hG0.trans hG1
      have hf1 := hF1.cell 1
      rw [show (#[v0, v1, v2, v3] : Array Value)[1]? = some v1 from rfl] at hf1
      clear hG0 hG1 hF0 hf0
      go_wp2_with fail
      refine (checkClasses_c v1 lc _ (hc.quiet hG01) hcl hcn).mono ?_; rintro e w2 ⟨rfl, hG2⟩
      go_wp2_with fail
      go_ret
      exact ⟨by rw [H.out]; rfl, hG01.trans hG2⟩
  · have H : Hid (flE ls lc lv pe = stErr ls) := Lib.hid (by simp [flE, h1])
    have h1' : (stErr ls != 0) = true := by rw [bne_iff_ne]; exact h1
    clear h1 HP
    go_enter Tryd.func78, Tryd.ntmps78
    go_wp2_with fail
    refine (checkStations_c v0 ls _ (hs.quiet hG0) hsl hsn).mono ?_; rintro e w1 ⟨rfl, hG1⟩
    go_wp2_with fail
    go_ret
    exact ⟨by rw [H.out]; rfl, hG0.trans hG1⟩
end Go.Proofs.YtbddcbbjmgepnaaDoor

/- The law's own 'lots': the functions of package lot at one small fleet and one event. -/
namespace Go.Proofs.YtbddcbbjmgepnaaDoor
open Go.RowKit

set_option maxRecDepth 100000 in
set_option maxHeartbeats 2000000 in
/-- No plates. -/
theorem checkPlates0_c (v0 v1 v2 : Value) (w : World) : Calls Tryd.prog 91 #[.agg #[v0, v1, v2, .slice none 0 0]] w fun e w' => e = .returned (.int .i64 0) ∧ G w w' none := by
  have hmm := @run_makeMap Tryd.prog
  have hf3 := (Bk.new w 87 #[v0, v1, v2, .slice none 0 0]).cell 3
  rw [show (#[v0, v1, v2, .slice none 0 0] : Array Value)[3]? = some (.slice none 0 0) from rfl] at hf3
  go_enter Tryd.func91, Tryd.ntmps91
  go_wp2_with fail
  refine wp_loop_rounds 1 ?_
  rw [rounds_succ]
  go_wp2_with fail
  go_ret
  exact ⟨rfl, (((G.refl _ _).alloc _).alloc _).alloc _⟩

def sS : ByteArray := ⟨#[115]⟩
def sC : ByteArray := ⟨#[99]⟩
def sV : ByteArray := ⟨#[118]⟩
def ls1 : List Sta := [(sS, fun _ => 0)]
def lc1 : List Cla := [(sC, eS)]
def lv1 : List Veh := [(sV, sC)]
theorem st1 : stErr ls1 = 0 := by decide +kernel
theorem ck1 : ckErr ⟨#[]⟩ lc1 = 0 := by decide +kernel
theorem vh1 : vhE (lc1.map (·.1)) lv1 = 0 := by decide +kernel
theorem cl1 : clErr lc1 = 0 := by
  unfold clErr
  rw [if_neg (by decide), if_pos ck1]
  unfold clTail
  rw [if_neg (by decide +kernel), if_neg (by
    have h : upC 0 eF lc1 = 1 := by rfl
    rw [h]
    decide +kernel)]
theorem small_of {s : ByteArray} (h : s.size ≤ 100) : Small s := by unfold Small; omega
theorem lc1_ok : ClsOk lc1 := by intro p hp; obtain rfl := List.mem_singleton.1 hp; exact ⟨small_of (by decide), small_of (by decide)⟩
theorem lv1_ok : ClsOk lv1 := by intro p hp; obtain rfl := List.mem_singleton.1 hp; exact ⟨small_of (by decide), small_of (by decide)⟩
theorem ls1_ok : KeysOk ls1 := by intro p hp; obtain rfl := List.mem_singleton.1 hp; exact ⟨by show (1 : Nat) ≤ _; omega, HB.zero⟩
/-- The one small fleet. -/
def Fl1 (w : World) (v0 v1 v2 : Value) : Prop := Rd w 15 v0 1 (stL ls1) ∧ Rd w 2 v1 1 (clL lc1) ∧ Rd w 2 v2 1 (clL lv1)
theorem Fl1.quiet {w w' : World} {v0 v1 v2 : Value} (h : Fl1 w v0 v1 v2) (hg : G w w' none) : Fl1 w' v0 v1 v2 := ⟨h.1.quiet hg, h.2.1.quiet hg, h.2.2.quiet hg⟩
theorem checkFleet1_c (v0 v1 v2 : Value) (w : World) (h : Fl1 w v0 v1 v2) : Calls Tryd.prog 78 #[.agg #[v0, v1, v2, .slice none 0 0]] w fun e w' => e = .returned (.int .i64 0) ∧ G w w' none := by
  have he : flE ls1 lc1 lv1 0 = 0 := by unfold flE; rw [if_pos st1, if_pos cl1, if_pos vh1]
  have := checkFleet_c v0 v1 v2 (.slice none 0 0) ls1 lc1 lv1 0 w h.1 ls1_ok (by decide) h.2.1 lc1_ok (by decide) h.2.2 lv1_ok (by decide) (fun _ _ _ w1 _ => checkPlates0_c v0 v1 v2 w1)
  rw [he] at this
  exact this
theorem hasV1_c (v0 v1 v2 v3 : Value) (w : World) (h : Fl1 w v0 v1 v2) : Calls Tryd.prog 68 #[.agg #[v0, v1, v2, v3], .string ⟨#[118]⟩] w fun e w' => e = .returned (.bool true) ∧ G w w' none :=
  by
  have hk : hasK (lv1.map (·.1)) sV = true := by decide +kernel
  have := hasVehicle_c v0 v1 v2 v3 lv1 sV w h.2.2 (by decide) (by simp [lv1, Rise])
  rw [hk] at this
  exact this
theorem hasS1_c (v0 v1 v2 v3 : Value) (w : World) (h : Fl1 w v0 v1 v2) : Calls Tryd.prog 92 #[.agg #[v0, v1, v2, v3], .string ⟨#[115]⟩] w fun e w' => e = .returned (.bool true) ∧ G w w' none :=
  by
  have hk : hasK (ls1.map (·.1)) sS = true := by decide +kernel
  have := hasStation_c v0 v1 v2 v3 ls1 sS w h.1 (by decide) (by simp [ls1, Rise])
  rw [hk] at this
  exact this

/-- The one event. -/
def ev1 : Array Value := #[.int .i64 5, .string ⟨#[118]⟩, .string ⟨#[115]⟩, .int .i64 1, .string ⟨#[]⟩]
theorem ev_info : (Tryd.prog.info? 93).map (·.size) = some (#[.int .i64 5, .string ⟨#[118]⟩, .string ⟨#[115]⟩, .int .i64 1, .string ⟨#[]⟩] : Array Value).size := by kernel_rfl
set_option maxRecDepth 100000 in
set_option maxHeartbeats 2000000 in
theorem checkEvent1_c (v0 v1 v2 : Value) (w : World) (h : Fl1 w v0 v1 v2) : Calls Tryd.prog 79 #[.agg #[v0, v1, v2, .slice none 0 0], .agg #[.int .i64 5, .string ⟨#[118]⟩, .string ⟨#[115]⟩, .int .i64 1, .string ⟨#[]⟩]] w fun e w' => e = .returned (.int .i64 0) ∧ G w w' none := by
  have H := Lib.hid (fun w' hg => hasV1_c v0 v1 v2 (.slice none 0 0) w' (h.quiet hg))
  have H2 := Lib.hid (fun w' hg => hasS1_c v0 v1 v2 (.slice none 0 0) w' (h.quiet hg))
  clear h
  have hF0 := (Bk.new w 87 #[v0, v1, v2, .slice none 0 0]).alloc (.cells #[.int .i64 5, .string ⟨#[118]⟩, .string ⟨#[115]⟩, .int .i64 1, .string ⟨#[]⟩] 93)
  have hE0 := Bk.newAt (w := w.alloc (.cells #[v0, v1, v2, .slice none 0 0] 87)) (b := w.heap.size + 1) (by simp) 93 #[.int .i64 5, .string ⟨#[118]⟩, .string ⟨#[115]⟩, .int .i64 1, .string ⟨#[]⟩]
  have hG0 : G w ((w.alloc (.cells #[v0, v1, v2, .slice none 0 0] 87)).alloc (.cells #[.int .i64 5, .string ⟨#[118]⟩, .string ⟨#[115]⟩, .int .i64 1, .string ⟨#[]⟩] 93)) none := ((G.refl _ _).alloc _).alloc _
  have hmo : Hid (momB 5 = true) := Lib.hid (by decide)
  go_enter Tryd.func79, Tryd.ntmps79
  go_wp2_with fail
  refine (isMoment_c _ _).mono ?_; rintro e w' ⟨rfl, rfl⟩
  rw [hmo.out]
  go_wp2_with (refine wpList_load_row rfl 87 _ rfl w.heap.size rfl 87 #[v0, v1, v2, .slice none 0 0] (0, 0) _ hF0 Tryd.underlying87 rfl (fl_info _ _ _ _) ?_)
  refine (H.out _ hG0).mono ?_; rintro e w1 ⟨rfl, hG1⟩
  have hF1 := hF0.quiet hG1
  have hE1 := hE0.quiet hG1
  have hG01 := hG0.trans hG1
  clear hG0 hG1 hF0 hE0
  have c2 : w1.cell? ⟨w.heap.size + 1, 2, none⟩ = some (.string ⟨#[115]⟩) := hE1.cell 2
  have HA := Lib.hid (hF1.at_)
  go_wp2_with (refine wpList_load_at_g rfl 87 _ rfl ⟨w.heap.size, 0, none⟩ rfl #[v0, v1, v2, .slice none 0 0] _ HA.out Tryd.underlying87 rfl (fl_info _ _ _ _) ?_)
  refine (H2.out _ hG01).mono ?_; rintro e w2 ⟨rfl, hG2⟩
  have hE2 := hE1.quiet hG2
  have hG02 := hG01.trans hG2
  clear hG01 hG2 hF1 hE1 c2
  have c2 : w2.cell? ⟨w.heap.size + 1, 2, none⟩ = some (.string ⟨#[115]⟩) := hE2.cell 2
  have c3 : w2.cell? ⟨w.heap.size + 1, 3, none⟩ = some (.int .i64 1) := hE2.cell 3
  have c4 : w2.cell? ⟨w.heap.size + 1, 4, none⟩ = some (.string ⟨#[]⟩) := hE2.cell 4
  go_wp2_with fail
  go_ret
  exact ⟨rfl, hG02⟩

/-! ### Check, checkVehicle at the one event -/
def Ev1 (w : World) (g : Nat) : Prop := Bk w g 93 #[.int .i64 5, .string ⟨#[118]⟩, .string ⟨#[115]⟩, .int .i64 1, .string ⟨#[]⟩]
set_option maxRecDepth 100000 in
set_option maxHeartbeats 2000000 in
theorem check1_c (v0 v1 v2 : Value) (g : Nat) (w : World) (h : Fl1 w v0 v1 v2) (he : Ev1 w g) : Calls Tryd.prog 67 #[.agg #[v0, v1, v2, .slice none 0 0], .slice (some ⟨g, 0, none⟩) 1 1] w fun e w' => e = .returned (.int .i64 0) ∧ G w w' none := by
  have hF0 := (Bk.new w 87 #[v0, v1, v2, .slice none 0 0])
  have hG0 : G w (w.alloc (.cells #[v0, v1, v2, .slice none 0 0] 87)) none := (G.refl _ _).alloc _
  have hgl := Bk.lt he
  go_enter Tryd.func67, Tryd.ntmps67
  go_wp2_with (refine wpList_load_row rfl 87 _ rfl w.heap.size rfl 87 #[v0, v1, v2, .slice none 0 0] (0, 0) _ hF0 Tryd.underlying87 rfl (fl_info _ _ _ _) ?_)
  refine (checkFleet1_c v0 v1 v2 _ (h.quiet hG0)).mono ?_; rintro e w1 ⟨rfl, hG1⟩
  have hF1 := hF0.quiet hG1
  have hG01 := hG0.trans hG1
  have he1 : Ev1 w1 g := Bk.quiet he hG01
  clear hG0 hG1 hF0
  go_wp2_with fail
  refine wp_loop_rounds 2 ?_
  rw [rounds_succ]
  have HA := Lib.hid (Bk.at_ he1)
  have hF1' := hF1.alloc (.cells #[.int .i64 5, .string ⟨#[118]⟩, .string ⟨#[115]⟩, .int .i64 1, .string ⟨#[]⟩] 93)
  have hE1' := Bk.new w1 93 #[.int .i64 5, .string ⟨#[118]⟩, .string ⟨#[115]⟩, .int .i64 1, .string ⟨#[]⟩]
  have hG1' := hG01.alloc (.cells #[.int .i64 5, .string ⟨#[118]⟩, .string ⟨#[115]⟩, .int .i64 1, .string ⟨#[]⟩] 93)
  clear hG01 he1 hF1
  go_wp2_with (first | (refine wpList_load_at rfl 93 _ rfl ⟨g, 0, none⟩ rfl #[.int .i64 5, .string ⟨#[118]⟩, .string ⟨#[115]⟩, .int .i64 1, .string ⟨#[]⟩] _ HA.out Tryd.underlying93 rfl ev_info ?_) | (refine wpList_load_row rfl 87 _ rfl w.heap.size rfl 87 #[v0, v1, v2, .slice none 0 0] (0, 0) _ hF1' Tryd.underlying87 rfl (fl_info _ _ _ _) ?_) | (refine wpList_load_row rfl 93 _ rfl w1.heap.size rfl 93 #[.int .i64 5, .string ⟨#[118]⟩, .string ⟨#[115]⟩, .int .i64 1, .string ⟨#[]⟩] (0, 0) _ hE1' Tryd.underlying93 rfl ev_info ?_))
  refine (checkEvent1_c v0 v1 v2 _ (h.quiet hG1')).mono ?_; rintro e w2 ⟨rfl, hG2⟩
  have hG02 := hG1'.trans hG2
  clear hG1' hG2 hF1' hE1'
  go_wp2_with fail
  go_quiet (fail)
  go_wp2_with fail
  rw [rounds_succ]
  go_wp2_with fail
  go_ret
  exact ⟨rfl, hG02.drewN _⟩
end Go.Proofs.YtbddcbbjmgepnaaDoor

/- The law's own 'lots': checkVehicle, follow, statesAt, StateOf, lots. -/
namespace Go.Proofs.YtbddcbbjmgepnaaDoor
open Go.RowKit

/-- Two results, the first a struct that lies in memory. -/
theorem results_cell_row2 {P : Program} {fn : Func} {p u : Tmp} {ty : TypeId} (h : fn.results = #[.cell p ty, .tmp u]) (tmps : Array Value) (w : World) (g : Nat) (t : TypeId) (cs : Array Value) (fr : Nat × Nat) (d : TypeDesc)
    (hp : tmps.getD p undef = .pointer (some ⟨g, 0, none⟩)) (hg : w.heap[g]? = some (.cells cs t fr))
    (hu : P.underlying ty = some d) (hd : (match d with | .struct _ | .array _ _ => true | _ => false) = true) (hi : (P.info? ty).map (·.size) = some cs.size) :
    (results fn tmps).run P w = .ok (.tuple #[.agg cs, tmps.getD u undef]) w := by
  have hp' : tmps[p]?.getD undef = .pointer (some ⟨g, 0, none⟩) := by simpa using hp
  simp [results, h, hp', asAddr, run_loadVar_row w g t ty cs fr d hg hu hd hi]

set_option maxRecDepth 100000 in
set_option maxHeartbeats 2000000 in
theorem checkVehicle1_c (v0 v1 v2 : Value) (g : Nat) (w : World) (h : Fl1 w v0 v1 v2) (he : Ev1 w g) : Calls Tryd.prog 57 #[.agg #[v0, v1, v2, .slice none 0 0], .slice (some ⟨g, 0, none⟩) 1 1, .string ⟨#[118]⟩] w fun e w' => e = .returned (.int .i64 0) ∧ G w w' none := by
  have hF0 := (Bk.new w 87 #[v0, v1, v2, .slice none 0 0])
  have hG0 : G w (w.alloc (.cells #[v0, v1, v2, .slice none 0 0] 87)) none := (G.refl _ _).alloc _
  go_enter Tryd.func57, Tryd.ntmps57
  go_wp2_with (refine wpList_load_row rfl 87 _ rfl w.heap.size rfl 87 #[v0, v1, v2, .slice none 0 0] (0, 0) _ hF0 Tryd.underlying87 rfl (fl_info _ _ _ _) ?_)
  refine (check1_c v0 v1 v2 g _ (h.quiet hG0) (Bk.quiet he hG0)).mono ?_; rintro e w1 ⟨rfl, hG1⟩
  have hF1 := hF0.quiet hG1
  have hG01 := hG0.trans hG1
  clear hG0 hG1 hF0
  go_wp2_with (refine wpList_load_row rfl 87 _ rfl w.heap.size rfl 87 #[v0, v1, v2, .slice none 0 0] (0, 0) _ hF1 Tryd.underlying87 rfl (fl_info _ _ _ _) ?_)
  refine (hasV1_c v0 v1 v2 _ _ (h.quiet hG01)).mono ?_; rintro e w2 ⟨rfl, hG2⟩
  go_wp2_with fail
  go_ret
  exact ⟨rfl, hG01.trans hG2⟩

/-- What the table of the changes says at the first kind. -/
def Gl (w : World) : Prop := w.cell? ⟨0, 2, none⟩ = some (.int .i64 0) ∧ w.cell? ⟨0, 3, none⟩ = some (.int .i64 1) ∧ 0 < w.heap.size
theorem Gl.grown {w w' : World} {s : Option Nat} (h : Gl w) (hg : G w w' s) (hs : s ≠ some 0) : Gl w' := by
  obtain ⟨h1, h2, h3⟩ := h
  have e := hg.block _ h3 (by exact fun q => hs q.symm)
  exact ⟨(World.cell?_of_block (w := w) e).trans h1, (World.cell?_of_block (w := w) e).trans h2, Nat.lt_of_lt_of_le h3 hg.size⟩
theorem Gl.quiet {w w' : World} (h : Gl w) (hg : G w w' none) : Gl w' := h.grown hg (by simp)
theorem ss_info (a b : Int) (s : ByteArray) : (Tryd.prog.info? 89).map (·.size) = some (#[.int .i64 a, .string s, .int .i64 b] : Array Value).size := (by kernel_rfl : (Tryd.prog.info? 89).map (·.size) = some 3)
theorem ss_one (a b : Int) (s : ByteArray) : (#[.int .i64 a, .string s, .int .i64 b] : Array Value).all (·.oneCell') = true := by simp [Value.oneCell']
set_option maxRecDepth 100000 in
set_option maxHeartbeats 2000000 in
theorem follow1_c (w : World) (h : Gl w) : Calls Tryd.prog 69 #[.agg #[.int .i64 0, .string ⟨#[]⟩, .int .i64 0], .agg #[.int .i64 5, .string ⟨#[118]⟩, .string ⟨#[115]⟩, .int .i64 1, .string ⟨#[]⟩]] w fun e w' => e = .returned (.tuple #[.agg #[.int .i64 1, .string ⟨#[115]⟩, .int .i64 5], .bool true]) ∧ G w w' none := by
  obtain ⟨h1, h2, h3⟩ := h
  go_enter Tryd.func69, Tryd.ntmps69
  go_wp2_with fail
  refine bodyPost_ret (v := .tuple #[.agg #[.int .i64 1, .string ⟨#[115]⟩, .int .i64 5], .bool true]) (by simp [results, Tryd.results69, go_sem]) rfl ⟨rfl, ?_⟩
  repeat (first | exact G.refl _ _ | apply G.alloc)

abbrev SMap (w : World) (b c : Nat) (f : Fn) : Prop := OwnM Tryd.prog 9 w b c f
def st1V : Value := .agg #[.int .i64 1, .string ⟨#[115]⟩, .int .i64 5]
def StPost (w : World) (e : Ending) (w' : World) : Prop := ∃ b c : Nat, e = .returned (.map (some b)) ∧ SMap w' b c (fput eF ⟨#[118]⟩ st1V) ∧ G w w' none
theorem zt_run (w : World) : (zeroValue 89).run Tryd.prog w = .ok (.agg #[.int .i64 0, .string ⟨#[]⟩, .int .i64 0]) w := by kernel_rfl
theorem eF_get (s : ByteArray) (z : Value) : (eF s).getD z = z := rfl
theorem zltm : 0 < maxLen := by show 0 < 2 ^ 63 - 1; omega
theorem fput_get (s : ByteArray) (v z : Value) : (fput eF s v s).getD z = v := by simp [fput]
theorem sz118 : (⟨#[118]⟩ : ByteArray).size ≤ maxLen := by show (1 : Nat) ≤ 2 ^ 63 - 1; omega
set_option maxRecDepth 100000 in
set_option maxHeartbeats 2000000 in
theorem statesAt1_c (g : Nat) (w : World) (h : Gl w) (he : Ev1 w g) : Calls Tryd.prog 58 #[.slice (some ⟨g, 0, none⟩) 1 1, .int .i64 7] w (StPost w) := by
  have hmm := @run_makeMap Tryd.prog
  have hM0 : SMap (w.alloc (.map #[] 0)) w.heap.size 0 eF := OwnM.made w Tryd.prog 9 rfl
  have hG0 : G w (w.alloc (.map #[] 0)) none := (G.refl _ _).alloc _
  have HA := Lib.hid (Bk.at_ (Bk.alloc he (.map #[] 0)))
  have hgl := Bk.lt he
  have hM1 := hM0.alloc (.cells #[.int .i64 5, .string ⟨#[118]⟩, .string ⟨#[115]⟩, .int .i64 1, .string ⟨#[]⟩] 93)
  have hE1 := Bk.newAt (w := w.alloc (.map #[] 0)) (b := w.heap.size + 1) (by simp) 93 #[.int .i64 5, .string ⟨#[118]⟩, .string ⟨#[115]⟩, .int .i64 1, .string ⟨#[]⟩]
  have hG1 := hG0.alloc (.cells #[.int .i64 5, .string ⟨#[118]⟩, .string ⟨#[115]⟩, .int .i64 1, .string ⟨#[]⟩] 93)
  clear hM0 hG0
  go_enter Tryd.func58, Tryd.ntmps58
  go_wp2_with fail
  refine wp_loop_rounds 2 ?_
  rw [rounds_succ]
  go_wp2_with (first | (refine wpList_load_at rfl 93 _ rfl ⟨g, 0, none⟩ rfl #[.int .i64 5, .string ⟨#[118]⟩, .string ⟨#[115]⟩, .int .i64 1, .string ⟨#[]⟩] _ HA.out Tryd.underlying93 rfl ev_info ?_) | (at_lookup; refine wpM_look rfl _ _ 114 rfl 9 89 Tryd.underlying9 Tryd.underlying114 _ (zt_run _) w.heap.size _ _ rfl hM1 ⟨#[118]⟩ rfl sz118 ?_; rw [eF_get]))
  refine (follow1_c _ (h.quiet hG1)).mono ?_; rintro e w1 ⟨rfl, hG2⟩
  have hM2 := (hM1.quiet hG2).alloc (.cells #[.int .i64 1, .string ⟨#[115]⟩, .int .i64 5] 89)
  have hE2 := (hE1.quiet hG2).alloc (.cells #[.int .i64 1, .string ⟨#[115]⟩, .int .i64 5] 89)
  have hG3 := (hG1.trans hG2).alloc (.cells #[.int .i64 1, .string ⟨#[115]⟩, .int .i64 5] 89)
  have c1 : w1.cell? ⟨w.heap.size + 1, 1, none⟩ = some (.string ⟨#[118]⟩) := (hE1.quiet hG2).cell 1
  have hz := (hE1.quiet hG2).lt
  have hBn := Bk.new w1 89 #[.int .i64 1, .string ⟨#[115]⟩, .int .i64 5]
  clear hM1 hE1 hG1 hG2
  go_wp2_with (first | (refine wpList_load_row rfl 89 _ rfl w1.heap.size rfl 89 #[.int .i64 1, .string ⟨#[115]⟩, .int .i64 5] (0, 0) _ hBn Tryd.underlying89 rfl (ss_info _ _ _) ?_) | (at_mapUpdate; refine wpM_store rfl _ _ _ 114 rfl 9 89 Tryd.underlying9 Tryd.underlying114 w.heap.size _ _ rfl hM2 zltm ⟨#[118]⟩ rfl sz118 st1V rfl ?_; intro w2 hM3 hG4))
  rw [rounds_succ]
  go_wp2_with fail
  go_ret
  exact ⟨_, _, rfl, hM3, hG3.other hG4 (fun j e => .inl (by obtain rfl := Option.some.inj e; exact Nat.le_refl _))⟩

set_option maxRecDepth 100000 in
set_option maxHeartbeats 2000000 in
theorem stateOf1_c (v0 v1 v2 : Value) (g : Nat) (w : World) (h : Fl1 w v0 v1 v2) (he : Ev1 w g) (hg : Gl w) :
    Calls Tryd.prog 44 #[.agg #[v0, v1, v2, .slice none 0 0], .slice (some ⟨g, 0, none⟩) 1 1, .string ⟨#[118]⟩, .int .i64 7] w fun e w' => e = .returned (.tuple #[.agg #[.int .i64 1, .string ⟨#[115]⟩, .int .i64 5], .int .i64 0]) ∧ G w w' none := by
  have hF0 := (Bk.new w 87 #[v0, v1, v2, .slice none 0 0]).alloc (.cells #[.int .i64 0, .string ⟨#[]⟩, .int .i64 0] 89)
  have hR0 := Bk.newAt (w := w.alloc (.cells #[v0, v1, v2, .slice none 0 0] 87)) (b := w.heap.size + 1) (by simp) 89 #[.int .i64 0, .string ⟨#[]⟩, .int .i64 0]
  have hG0 : G w ((w.alloc (.cells #[v0, v1, v2, .slice none 0 0] 87)).alloc (.cells #[.int .i64 0, .string ⟨#[]⟩, .int .i64 0] 89)) none := ((G.refl _ _).alloc _).alloc _
  have hmo : Hid (momE 7 = 0) := Lib.hid (by decide)
  go_enter Tryd.func44, Tryd.ntmps44
  go_wp2_with (refine wpList_load_row rfl 87 _ rfl w.heap.size rfl 87 #[v0, v1, v2, .slice none 0 0] (0, 0) _ hF0 Tryd.underlying87 rfl (fl_info _ _ _ _) ?_)
  refine (checkVehicle1_c v0 v1 v2 g _ (h.quiet hG0) (Bk.quiet he hG0)).mono ?_; rintro e w1 ⟨rfl, hG1⟩
  have hR1 := hR0.quiet hG1
  have hG01 := hG0.trans hG1
  clear hG0 hG1 hR0 hF0
  go_wp2_with fail
  refine (checkMoment_c _ _).mono ?_; rintro e w' ⟨rfl, rfl⟩
  rw [hmo.out]
  go_wp2_with fail
  refine (statesAt1_c g _ (hg.quiet hG01) (Bk.quiet he hG01)).mono ?_; rintro e w2 ⟨b, c, rfl, hM, hG2⟩
  have hR2 := hR1.quiet hG2
  have hG02 := hG01.trans hG2
  clear hG01 hG2 hR1
  go_wp2_with (first | (at_lookup; refine wpM_look rfl _ _ 114 rfl 9 89 Tryd.underlying9 Tryd.underlying114 _ (zt_run _) b c _ rfl hM ⟨#[118]⟩ rfl sz118 ?_; rw [fput_get]; unfold st1V) | (refine wpList_store_row rfl 89 _ _ rfl (w.heap.size + 1) #[.int .i64 1, .string ⟨#[115]⟩, .int .i64 5] rfl rfl 89 _ hR2 (ss_info _ _ _) rfl (ss_one _ _ _) ?_))
  refine bodyPost_ret (results_cell_row2 rfl _ _ (w.heap.size + 1) 89 #[.int .i64 1, .string ⟨#[115]⟩, .int .i64 5] (0, 0) _ rfl (hR2.setRow _) Tryd.underlying89 rfl (ss_info _ _ _)) rfl ?_
  exact ⟨rfl, hG02.setRow (.inl (by omega)) _⟩
end Go.Proofs.YtbddcbbjmgepnaaDoor

/- The law's own 'lots' returns true. -/
namespace Go.Proofs.YtbddcbbjmgepnaaDoor
open Go.RowKit

theorem fl1_new (w : World) (d e : Obj) : Fl1 (((((w.alloc (.cells #[.string ⟨#[115]⟩, .int .i64 0, .int .i64 0, .int .i64 0, .int .i64 0, .int .i64 0, .int .i64 0, .int .i64 0, .int .i64 0, .int .i64 0, .int .i64 0, .int .i64 0, .int .i64 0, .int .i64 0, .int .i64 0] 30)).alloc
      (.cells #[.string ⟨#[99]⟩, .string ⟨#[]⟩] 80)).alloc (.cells #[.string ⟨#[118]⟩, .string ⟨#[99]⟩] 83)).alloc d).alloc e)
    (.slice (some ⟨w.heap.size, 0, none⟩) 1 1) (.slice (some ⟨w.heap.size + 1, 0, none⟩) 1 1) (.slice (some ⟨w.heap.size + 1 + 1, 0, none⟩) 1 1) := by
  refine ⟨?_, ?_, ?_⟩
  · refine Rd.quiet (w := w.alloc (.cells (stC sS (fun _ => 0)) 30)) ?_ (((((G.refl _ _).alloc _).alloc _).alloc _).alloc _)
    exact Rd.newAt (stC sS (fun _ => 0)) rfl rfl (by decide)
  · refine Rd.quiet (w := (w.alloc (.cells (stC sS (fun _ => 0)) 30)).alloc (.cells (clC (sC, eS)) 80)) ?_ ((((G.refl _ _).alloc _).alloc _).alloc _)
    exact Rd.newAt (clC (sC, eS)) (by simp) rfl (by decide)
  · refine Rd.quiet (w := ((w.alloc (.cells (stC sS (fun _ => 0)) 30)).alloc (.cells (clC (sC, eS)) 80)).alloc (.cells (clC (sV, sC)) 83)) ?_ (((G.refl _ _).alloc _).alloc _)
    exact Rd.newAt (clC (sV, sC)) (by simp) rfl (by decide)
set_option maxRecDepth 100000 in
set_option maxHeartbeats 2000000 in
theorem lots_c (w : World) (hg : Gl w) : Calls Tryd.prog 21 #[] w fun e w' => e = .returned (.bool true) ∧ G w w' none := by
  have heq : ∀ w : World, (binOp .eql 89 (.agg #[.int .i64 1, .string ⟨#[115]⟩, .int .i64 5]) (.agg #[.int .i64 1, .string ⟨#[115]⟩, .int .i64 5])).run Tryd.prog w = .ok (.bool true) w := fun _ => by kernel_rfl
  go_enter Tryd.func21, Tryd.ntmps21
  go_wp2_with fail
  refine (stateOf1_c _ _ _ _ _ (fl1_new w _ _) (Bk.newAt (by simp) _ _) (hg.quiet (((((G.refl _ _).alloc _).alloc _).alloc _).alloc _ |>.alloc _))).mono ?_; rintro e w1 ⟨rfl, hG1⟩
  have hG : G w w1 none := (((((G.refl w none).alloc _).alloc _).alloc _).alloc _ |>.alloc _).trans hG1
  clear hG1
  have hBn := Bk.new w1 89 #[.int .i64 1, .string ⟨#[115]⟩, .int .i64 5]
  have HA := Lib.hid (hBn.at_)
  go_wp2_with (refine wpList_load_at_g rfl 89 _ rfl ⟨w1.heap.size, 0, none⟩ rfl #[.int .i64 1, .string ⟨#[115]⟩, .int .i64 5] _ HA.out Tryd.underlying89 rfl (ss_info _ _ _) ?_)
  go_ret
  exact ⟨rfl, hG.alloc _⟩
end Go.Proofs.YtbddcbbjmgepnaaDoor

/- basic.Has: is a moment in a window. -/
namespace Go.Proofs.YtbddcbbjmgepnaaDoor
open Go.RowKit

def hasB (x y t : Int) : Bool := decide (x ≤ t) && decide (t < y)
set_option maxRecDepth 100000 in
theorem has_c (x y t : Int) (w : World) :
    Calls Tryd.prog 35 #[.agg #[.int .i64 x, .int .i64 y], .int .i64 t] w fun e w' => e = .returned (.bool (hasB x y t)) ∧ G w w' none := by
  obtain ⟨r, hr⟩ : ∃ r, hasB x y t = r := ⟨_, rfl⟩
  have HR := Lib.hid hr
  rw [hr]
  clear hr
  by_cases h1 : x ≤ t
  · by_cases h2 : t < y
    · have HF : Hid (r = true) := Lib.hid (by rw [← HR.out]; simp [hasB, h1, h2])
      go_enter Tryd.func35, Tryd.ntmps35
      go_wp2_with fail
      go_ret
      exact ⟨by rw [HF.out]; rfl, (G.refl _ _).alloc _⟩
    · have HF : Hid (r = false) := Lib.hid (by rw [← HR.out]; simp [hasB, h2])
      go_enter Tryd.func35, Tryd.ntmps35
      go_wp2_with fail
      go_ret
      exact ⟨by rw [HF.out]; rfl, (G.refl _ _).alloc _⟩
  · have HF : Hid (r = false) := Lib.hid (by rw [← HR.out]; simp [hasB, h1])
    go_enter Tryd.func35, Tryd.ntmps35
    go_wp2_with fail
    go_ret
    exact ⟨by rw [HF.out]; rfl, (G.refl _ _).alloc _⟩
end Go.Proofs.YtbddcbbjmgepnaaDoor

/- checkStationAt, IsOpen, NextOpen; OpenAt, NextOpenOf. -/
namespace Go.Proofs.YtbddcbbjmgepnaaDoor
open Go.RowKit

/-- The error of one station and a moment. -/
def atE (r : ByteArray) (h : Nat → Int) (t : Int) : Int := if stErr [(r, h)] = 0 then momE t else stErr [(r, h)]
theorem rd_one {w : World} {b : Nat} (r : ByteArray) (h : Nat → Int) (hb : w.heap.size = b) : Rd (w.alloc (.cells (stC r h) 30)) 15 (.slice (some ⟨b, 0, none⟩) 1 1) [(r, h)].length (stL [(r, h)]) := by
  have := Rd.newAt (w := w) (z := 15) (n := 1) (T := 30) (stC r h) hb rfl (by decide)
  rw [show stL [(r, h)] = (stC r h).toList from by simp [stL]]
  exact this
theorem staErr_le (b : ByteArray) (l : List Sta) : 0 ≤ staErr b l ∧ staErr b l ≤ 10 := by
  induction l generalizing b with
  | nil => simp [staErr]
  | cons p r ih =>
    unfold staErr
    split
    · omega
    · split
      · omega
      · split
        · omega
        · exact ih _
set_option maxRecDepth 100000 in
set_option maxHeartbeats 1000000 in
theorem checkStationAt_c (r : ByteArray) (h : Nat → Int) (t : Int) (w : World) (hr : r.size ≤ 9223372036854775807) (hb : HB h) :
    Calls Tryd.prog 34 #[.agg (stC r h), .int .i64 t] w fun e w' => e = .returned (.int .i64 (atE r h t)) ∧ G w w' none := by
  have hk : KeysOk [(r, h)] := by intro p hp; obtain rfl := List.mem_singleton.1 hp; exact ⟨hr, hb⟩
  have HB1 := Lib.hid ((Bk.new w 30 (stC r h)).at_)
  go_enter Tryd.func34, Tryd.ntmps34
  go_wp2_with (refine wpList_load_at rfl 30 _ rfl ⟨w.heap.size, 0, none⟩ rfl #[.string r, .int .i64 (h 0), .int .i64 (h 1), .int .i64 (h 2), .int .i64 (h 3), .int .i64 (h 4), .int .i64 (h 5), .int .i64 (h 6), .int .i64 (h 7), .int .i64 (h 8), .int .i64 (h 9), .int .i64 (h 10), .int .i64 (h 11), .int .i64 (h 12), .int .i64 (h 13)] _ HB1.out Tryd.underlying30 rfl (st_info _ _) ?_)
  refine (checkStations_c _ [(r, h)] _ (rd_one r h (by simp)) hk (by simp)).mono ?_; rintro e w1 ⟨rfl, hG1⟩
  have hG : G w w1 none := (((G.refl w none).alloc _).alloc _).trans hG1
  clear hG1
  by_cases h0 : stErr [(r, h)] = 0
  · have H : Hid (atE r h t = momE t) := Lib.hid (by simp [atE, h0])
    rw [h0]
    clear h0
    go_wp2_with fail
    refine (checkMoment_c _ _).mono ?_; rintro e w' ⟨rfl, rfl⟩
    go_wp2_with fail
    go_ret
    exact ⟨ret_int H.out.symm, hG⟩
  · have H : Hid (atE r h t = stErr [(r, h)]) := Lib.hid (by simp [atE, h0])
    have h1 : (stErr [(r, h)] != 0) = true := by rw [bne_iff_ne]; exact h0
    clear h0
    go_wp2_with fail
    go_ret
    exact ⟨ret_int H.out.symm, hG⟩

/-- Whether it is open at a moment. -/
def opB (h : Nat → Int) (t : Nat) : Bool := decide (dFrom h (t / 1440) ≤ (t : Int)) && decide ((t : Int) < dTo h (t / 1440))
theorem atE_mom {r : ByteArray} {h : Nat → Int} {t : Int} (h0 : atE r h t = 0) : 0 ≤ t ∧ t < 5761440 ∧ stErr [(r, h)] = 0 := by
  unfold atE at h0
  split at h0
  · rename_i hs
    unfold momE at h0
    split at h0
    · rename_i hm
      simp only [momB, Bool.and_eq_true, decide_eq_true_eq] at hm
      exact ⟨hm.1, hm.2, hs⟩
    · omega
  · exact absurd h0 (by assumption)
theorem okHrs_of {r : ByteArray} {h : Nat → Int} (h0 : stErr [(r, h)] = 0) : okHrs h = true := by
  simp only [stErr, staErr, List.length_singleton, show ¬ 50 < 1 by omega, if_false] at h0
  split at h0
  · omega
  · split at h0
    · omega
    · split at h0
      · omega
      · rename_i hx
        simpa using hx
theorem okDay_of {h : Nat → Int} (hh : okHrs h = true) (d : Nat) : 0 ≤ h (d % 7 * 2) ∧ h (d % 7 * 2) ≤ h (d % 7 * 2 + 1) ∧ h (d % 7 * 2 + 1) ≤ 1440 := by
  have := List.all_eq_true.1 hh (d % 7) (List.mem_range.2 (Nat.mod_lt _ (by omega)))
  simp only [okDay, inB, Bool.and_eq_true, decide_eq_true_eq] at this
  exact ⟨this.1.1, this.1.2, this.2⟩
def isOpenR (r : ByteArray) (h : Nat → Int) (t : Int) : Bool := if atE r h t = 0 then opB h t.toNat else false
set_option maxRecDepth 100000 in
set_option maxHeartbeats 1000000 in
theorem isOpen_c (r : ByteArray) (h : Nat → Int) (t : Int) (w : World) (hr : r.size ≤ 9223372036854775807) (hb : HB h) :
    Calls Tryd.prog 9 #[.agg (stC r h), .int .i64 t] w fun e w' => e = .returned (.tuple #[.bool (isOpenR r h t), .int .i64 (atE r h t)]) ∧ G w w' none := by
  by_cases h0 : atE r h t = 0
  · obtain ⟨t0, t1, _⟩ := atE_mom h0
    obtain ⟨t, rfl⟩ := Int.eq_ofNat_of_zero_le t0
    have H : Hid (isOpenR r h (t : Int) = opB h t) := Lib.hid (by simp [isOpenR, h0])
    have HZ := Lib.hid h0
    have HO : Hid (opB h t = (decide (dFrom h (t / 1440) ≤ (t : Int)) && decide ((t : Int) < dTo h (t / 1440)))) := Lib.hid rfl
    clear h0
    go_enter Tryd.func9, Tryd.ntmps9
    go_wp2_with (refine wpList_load_row rfl 30 _ rfl w.heap.size rfl 30 (stC r h) (0, 0) _ (Bk.new w _ _) Tryd.underlying30 rfl (st_info _ _) ?_)
    refine (checkStationAt_c r h _ _ hr hb).mono ?_; rintro e w1 ⟨rfl, hG1⟩
    rw [HZ.out]
    have hB1 := (Bk.new w 30 (stC r h)).quiet hG1
    have hG : G w w1 none := ((G.refl w none).alloc _).trans hG1
    clear hG1
    go_wp2_with (refine wpList_load_row rfl 30 _ rfl w.heap.size rfl 30 (stC r h) (0, 0) _ hB1 Tryd.underlying30 rfl (st_info _ _) ?_)
    rw [show ((t : Int) / 1440) = ((t / 1440 : Nat) : Int) by omega]
    refine (hoursOn_c r h (t / 1440) _ hb (by omega)).mono ?_; rintro e w2 ⟨rfl, hG2⟩
    have hG3 := hG.trans hG2
    clear hG hG2 hB1
    have HF : Hid (Ending.returned (.tuple #[.bool (isOpenR r h (t : Int)), .int .i64 (atE r h (t : Int))]) = .returned (.tuple #[.bool (decide (dFrom h (t / 1440) ≤ (t : Int)) && decide ((t : Int) < dTo h (t / 1440))), .int .i64 0])) := Lib.hid (by rw [H.out, HO.out, HZ.out])
    clear HO H HZ
    generalize dFrom h (t / 1440) = x at HF ⊢
    generalize dTo h (t / 1440) = z at HF ⊢
    go_wp2_with fail
    refine (has_c x z t _).mono ?_; rintro e w3 ⟨rfl, hG4⟩
    go_wp2_with fail
    go_ret2
    exact ⟨HF.out.symm, hG3.trans hG4⟩
  · have H : Hid (isOpenR r h t = false) := Lib.hid (by simp [isOpenR, h0])
    have h1 : (atE r h t != 0) = true := by rw [bne_iff_ne]; exact h0
    clear h0
    go_enter Tryd.func9, Tryd.ntmps9
    go_wp2_with (refine wpList_load_row rfl 30 _ rfl w.heap.size rfl 30 (stC r h) (0, 0) _ (Bk.new w _ _) Tryd.underlying30 rfl (st_info _ _) ?_)
    refine (checkStationAt_c r h _ _ hr hb).mono ?_; rintro e w1 ⟨rfl, hG1⟩
    go_wp2_with fail
    go_ret2
    exact ⟨by rw [H.out]; rfl, ((G.refl w none).alloc _).trans hG1⟩
end Go.Proofs.YtbddcbbjmgepnaaDoor

/- NextOpen; OpenAt, NextOpenOf. -/
namespace Go.Proofs.YtbddcbbjmgepnaaDoor
open Go.RowKit

/-- The first of so many days at which something is so. -/
def find (c : Nat → Bool) (v : Nat → Int) : Nat → Nat → Option Int
  | 0, _ => none
  | n + 1, d => if c d = true then some (v d) else find c v n (d + 1)
def cC (h : Nat → Int) (t : Nat) (d : Nat) : Bool := decide (max (t : Int) (dFrom h d) < dTo h d)
def vC (h : Nat → Int) (t : Nat) (d : Nat) : Int := max (t : Int) (dFrom h d)
def kC (t : Nat) : Nat := min 7 (4000 - t / 1440) + 1
def nextO (h : Nat → Int) (t : Nat) : Option Int := find (cC h t) (vC h t) (kC t) (t / 1440)
/-- What NextOpen returns. -/
def nextR (r : ByteArray) (h : Nat → Int) (t : Int) : Int × Int :=
  if atE r h t = 0 then (match nextO h t.toNat with | some n => (n, 0) | none => (0, 8)) else (0, atE r h t)
theorem dFrom_bd {h : Nat → Int} (hb : HB h) (d : Nat) : (d : Int) * 1440 - 1099511627776 ≤ dFrom h d ∧ dFrom h d ≤ (d : Int) * 1440 + 1099511627776 := by
  have := hb (d % 7 * 2); unfold dFrom; omega
theorem dTo_bd {h : Nat → Int} (hb : HB h) (d : Nat) : (d : Int) * 1440 - 1099511627776 ≤ dTo h d ∧ dTo h d ≤ (d : Int) * 1440 + 1099511627776 := by
  have := hb (d % 7 * 2 + 1); unfold dTo; omega
def NextRel (w : World) (r : ByteArray) (h : Nat → Int) (t d0 : Nat) (i : Value) (wr : World) : Prop :=
  ∃ k : Nat, k ≤ kC t ∧ i = .int .i64 ((d0 : Int) + (k : Int)) ∧ nextO h t = find (cC h t) (vC h t) (kC t - k) (d0 + k) ∧ G w wr none ∧ Bk wr w.heap.size 30 (stC r h)
set_option maxRecDepth 100000 in
set_option maxHeartbeats 2000000 in
theorem nextOpen_c (r : ByteArray) (h : Nat → Int) (t : Int) (w : World) (hr : r.size ≤ 9223372036854775807) (hb : HB h) :
    Calls Tryd.prog 10 #[.agg (stC r h), .int .i64 t] w fun e w' => e = .returned (.tuple #[.int .i64 (nextR r h t).1, .int .i64 (nextR r h t).2]) ∧ G w w' none := by
  by_cases h0 : atE r h t = 0
  · obtain ⟨t0, t1, _⟩ := atE_mom h0
    obtain ⟨t, rfl⟩ := Int.eq_ofNat_of_zero_le t0
    have HZ := Lib.hid h0
    have HS : Hid (∀ o, nextO h t = o → nextR r h (t : Int) = (match o with | some n => (n, 0) | none => (0, 8))) := Lib.hid (by intro o ho; subst ho; simp [nextR, h0])
    clear h0
    obtain ⟨d0, hd0⟩ : ∃ d0 : Nat, t / 1440 = d0 := ⟨_, rfl⟩
    have HD := Lib.hid hd0
    have hdq : (t : Int) / 1440 = (d0 : Int) := by omega
    have hk9 : d0 ≤ 4000 := by omega
    clear hd0 t1
    go_enter Tryd.func10, Tryd.ntmps10
    go_wp2_with (refine wpList_load_row rfl 30 _ rfl w.heap.size rfl 30 (stC r h) (0, 0) _ (Bk.new w _ _) Tryd.underlying30 rfl (st_info _ _) ?_)
    refine (checkStationAt_c r h _ _ hr hb).mono ?_; rintro e w1 ⟨rfl, hG1⟩
    rw [HZ.out]
    have hB1 := (Bk.new w 30 (stC r h)).quiet hG1
    have hG : G w w1 none := ((G.refl w none).alloc _).trans hG1
    clear hG1
    go_wp2_with fail
    go_loopw [8] (NextRel w r h t d0) (fun i _ => (4010 - (intOf i)).toNat)
    case atStart => exact ⟨0, by omega, congrArg (Value.int .i64) (by omega), by rw [← HD.out]; rfl, hG, hB1⟩
    case round =>
      obtain ⟨k, hk, rfl, heq, hG2, hB2⟩ := hrel
      have hkC : kC t = min 7 (4000 - d0) + 1 := by rw [← HD.out]; rfl
      have HE := Lib.hid heq
      clear heq hG hB1
      by_cases hlt : k < kC t
      · have hk7 : k ≤ 7 := by omega
        have hk8 : d0 + k ≤ 4000 := by omega
        have HF : Hid (nextO h t = if cC h t (d0 + k) = true then some (vC h t (d0 + k)) else find (cC h t) (vC h t) (kC t - (k + 1)) (d0 + (k + 1))) := Lib.hid (by rw [HE.out, show kC t - k = (kC t - (k + 1)) + 1 by omega]; rfl)
        have HL : Hid (k + 1 ≤ kC t) := Lib.hid (by omega)
        clear hkC hlt hk
        go_wp2_with (refine wpList_load_row rfl 30 _ rfl w.heap.size rfl 30 (stC r h) (0, 0) _ hB2 Tryd.underlying30 rfl (st_info _ _) ?_)
        rw [show (d0 : Int) + (k : Int) = ((d0 + k : Nat) : Int) by omega]
        refine (hoursOn_c r h (d0 + k) _ hb (by omega)).mono ?_; rintro e w2 ⟨rfl, hG3⟩
        have hG4 := hG2.trans hG3
        have hB4 := hB2.quiet hG3
        have hV : vC h t (d0 + k) = max (t : Int) (dFrom h (d0 + k)) := rfl
        have hC : cC h t (d0 + k) = decide (max (t : Int) (dFrom h (d0 + k)) < dTo h (d0 + k)) := rfl
        clear hG2 hG3 hB2
        by_cases hc : max (t : Int) (dFrom h (d0 + k)) < dTo h (d0 + k)
        · have HN : Hid (nextR r h (t : Int) = (max (t : Int) (dFrom h (d0 + k)), 0)) := Lib.hid (by rw [HS.out _ HF.out, hC, hV]; simp [hc])
          have HC := Lib.hid hc
          clear hV hC hc HF HS
          generalize dFrom h (d0 + k) = x at HN HC ⊢
          generalize dTo h (d0 + k) = z at HN HC ⊢
          have hc1 : max (t : Int) x < z := HC.out
          clear hc1
          have hc1 : max (t : Int) x < z := HC.out
          go_wp2_with fail
          go_ret2
          exact ⟨by rw [HN.out]; rfl, hG4.alloc _⟩
        · have HN : Hid (nextO h t = find (cC h t) (vC h t) (kC t - (k + 1)) (d0 + (k + 1))) := Lib.hid (by rw [HF.out, hC]; simp [hc])
          have hz : dTo h (d0 + k) ≤ max (t : Int) (dFrom h (d0 + k)) := by omega
          clear hV hC hc HF HS
          generalize dFrom h (d0 + k) = x at hz ⊢
          generalize dTo h (d0 + k) = z at hz ⊢
          go_wp2_with fail
          refine ⟨⟨k + 1, HL.out, congrArg (Value.int .i64) (by omega), HN.out, hG4.alloc _, hB4.alloc _⟩, ?_⟩
          simp only [intOf]
          omega
      · obtain rfl : k = kC t := by omega
        have HN : Hid (nextR r h (t : Int) = (0, 8)) := Lib.hid (by rw [HS.out none (HE.out.trans (by rw [Nat.sub_self]; rfl))])
        have hk2 : d0 + kC t = min (d0 + 7) 4000 + 1 := by omega
        have hgt : min ((d0 : Int) + 7) 4000 < (d0 : Int) + (kC t : Int) := by omega
        have hsm : (kC t : Int) ≤ 8 := by omega
        clear hkC hk hk2 hlt
        generalize kC t = q at hgt hsm ⊢
        go_wp2_with fail
        go_ret2
        exact ⟨by rw [HN.out]; rfl, hG2⟩
  · have H : Hid (nextR r h t = (0, atE r h t)) := Lib.hid (by simp [nextR, h0])
    have h1 : (atE r h t != 0) = true := by rw [bne_iff_ne]; exact h0
    clear h0
    go_enter Tryd.func10, Tryd.ntmps10
    go_wp2_with (refine wpList_load_row rfl 30 _ rfl w.heap.size rfl 30 (stC r h) (0, 0) _ (Bk.new w _ _) Tryd.underlying30 rfl (st_info _ _) ?_)
    refine (checkStationAt_c r h _ _ hr hb).mono ?_; rintro e w1 ⟨rfl, hG1⟩
    go_wp2_with fail
    go_ret2
    exact ⟨by rw [H.out]; rfl, ((G.refl w none).alloc _).trans hG1⟩

/-! ### The reference's -/
set_option maxRecDepth 100000 in
set_option maxHeartbeats 1000000 in
theorem openAt_c (r : ByteArray) (h : Nat → Int) (t : Nat) (w : World) (hb : HB h) (ht : t < 5761440) :
    Calls Tryd.prog 19 #[.agg (stC r h), .int .i64 (t : Int)] w fun e w' => e = .returned (.bool (opB h t)) ∧ G w w' none := by
  obtain ⟨d0, hd0⟩ : ∃ d0 : Nat, t / 1440 = d0 := ⟨_, rfl⟩
  obtain ⟨b11, b12⟩ := hb (d0 % 7 * 2)
  obtain ⟨b21, b22⟩ := hb (d0 % 7 * 2 + 1)
  have HO : Hid (inB ((t : Int) % 1440) (h (d0 % 7 * 2)) (h (d0 % 7 * 2 + 1) - 1) = opB h t) := Lib.hid (by
    unfold inB opB dFrom dTo
    rw [hd0]
    congr 1
    · exact decide_eq_decide.2 (by omega)
    · exact decide_eq_decide.2 (by omega))
  have HP := Lib.hid (stC_pair r h (Bk.new w 30 (stC r h)) (d0 % 7) (Nat.mod_lt _ (by omega)))
  have hdq : (t : Int) / 1440 = (d0 : Int) := by omega
  have hd4 : d0 ≤ 4000 := by omega
  clear ht hd0
  go_enter Tryd.func19, Tryd.ntmps19
  go_wp2_with (refine wpList_load_at rfl 27 _ rfl ⟨w.heap.size, 1 + d0 % 7 * 2, none⟩ rfl #[.int .i64 (h (d0 % 7 * 2)), .int .i64 (h (d0 % 7 * 2 + 1))] _ HP.out Tryd.underlying27 rfl (wn_info _ _) ?_)
  refine (in_c _ _ _ _).mono ?_; rintro e w' ⟨rfl, rfl⟩
  rw [HO.out]
  go_wp2_with fail
  go_ret
  exact ⟨rfl, ((G.refl w none).alloc _).alloc _⟩
end Go.Proofs.YtbddcbbjmgepnaaDoor

/- NextOpenOf, OpenMinutes, OpenIn. -/
namespace Go.Proofs.YtbddcbbjmgepnaaDoor
open Go.RowKit

def cR (h : Nat → Int) (t : Nat) (d : Nat) : Bool := decide ((t : Int) < dFrom h d) && decide (dFrom h d < 5761440) && decide (h (d % 7 * 2) < h (d % 7 * 2 + 1))
def refO (h : Nat → Int) (t : Nat) : Option Int := if opB h t = true then some (t : Int) else find (cR h t) (dFrom h) 8 (t / 1440)
theorem find_congr {c c' : Nat → Bool} {v v' : Nat → Int} (n : Nat) : ∀ d, (∀ i, i < n → c (d + i) = c' (d + i) ∧ (c' (d + i) = true → v (d + i) = v' (d + i))) → find c v n d = find c' v' n d := by
  induction n with
  | zero => intro d _; rfl
  | succ n ih =>
    intro d hd
    obtain ⟨h1, h2⟩ := hd 0 (by omega)
    have h3 := ih (d + 1) (fun i hi => by have := hd (i + 1) (by omega); rw [show d + 1 + i = d + (i + 1) by omega]; exact this)
    simp only [Nat.add_zero] at h1 h2
    unfold find
    rw [h1, h3]
    by_cases hc : c' d = true
    · rw [if_pos hc, if_pos hc, h2 hc]
    · rw [if_neg hc, if_neg hc]
theorem find_more {c : Nat → Bool} {v : Nat → Int} (n m : Nat) : ∀ d, (∀ i, n ≤ i → i < n + m → c (d + i) = false) → find c v (n + m) d = find c v n d := by
  induction n with
  | zero =>
    induction m with
    | zero => intro d _; rfl
    | succ m ihm =>
      intro d hd
      have h0 := hd 0 (by omega) (by omega)
      simp only [Nat.add_zero] at h0
      rw [show 0 + (m + 1) = (0 + m) + 1 by omega]
      unfold find
      rw [if_neg (by simp [h0]), ihm (d + 1) (fun i _ hi => by have := hd (i + 1) (by omega) (by omega); rw [show d + 1 + i = d + (i + 1) by omega]; exact this)]
      rfl
  | succ n ih =>
    intro d hd
    rw [show n + 1 + m = (n + m) + 1 by omega]
    unfold find
    rw [ih (d + 1) (fun i h1 h2 => by have := hd (i + 1) (by omega) (by omega); rw [show d + 1 + i = d + (i + 1) by omega]; exact this)]
theorem nextO_ref (h : Nat → Int) (t : Nat) (hh : okHrs h = true) (ht : t < 5761440) : nextO h t = refO h t := by
  have hK : kC t = min 7 (4000 - t / 1440) + 1 := rfl
  unfold nextO refO
  by_cases ho : opB h t = true
  · rw [if_pos ho]
    simp only [opB, Bool.and_eq_true, decide_eq_true_eq] at ho
    rw [hK]
    unfold find
    rw [if_pos (by unfold cC; exact decide_eq_true (by omega))]
    unfold vC
    congr 1
    omega
  · rw [if_neg ho]
    have hno : ¬ (dFrom h (t / 1440) ≤ (t : Int) ∧ (t : Int) < dTo h (t / 1440)) := by
      intro hc; apply ho; simp [opB, hc.1, hc.2]
    obtain ⟨m, hm⟩ : ∃ m, 8 = kC t + m := ⟨8 - kC t, by omega⟩
    rw [hm, find_more (kC t) m (t / 1440) (fun i h1 h2 => ?_)]
    · refine find_congr _ _ fun i hi => ?_
      have hd := okDay_of hh (t / 1440 + i)
      have hF : dFrom h (t / 1440 + i) = ((t / 1440 + i : Nat) : Int) * 1440 + h ((t / 1440 + i) % 7 * 2) := rfl
      have hT : dTo h (t / 1440 + i) = ((t / 1440 + i : Nat) : Int) * 1440 + h ((t / 1440 + i) % 7 * 2 + 1) := rfl
      have hle : t / 1440 + i ≤ 4000 := by omega
      have hno' : i = 0 → ¬ (dFrom h (t / 1440 + i) ≤ (t : Int) ∧ (t : Int) < dTo h (t / 1440 + i)) := by
        intro h0; subst h0; exact hno
      unfold cC cR vC
      generalize h ((t / 1440 + i) % 7 * 2) = x at hd hF ⊢
      generalize h ((t / 1440 + i) % 7 * 2 + 1) = y at hd hT ⊢
      generalize dFrom h (t / 1440 + i) = F at hF hno' ⊢
      generalize dTo h (t / 1440 + i) = T at hT hno' ⊢
      have hiff : (max (t : Int) F < T) ↔ ((t : Int) < F ∧ F < 5761440 ∧ x < y) := by
        rcases Nat.eq_zero_or_pos i with h0 | h0
        · have := hno' h0; omega
        · omega
      constructor
      · rw [Bool.eq_iff_iff]
        simp only [decide_eq_true_eq, Bool.and_eq_true]
        omega
      · simp only [decide_eq_true_eq, Bool.and_eq_true]
        omega
    · have hd := okDay_of hh (t / 1440 + i)
      have hF : dFrom h (t / 1440 + i) = ((t / 1440 + i : Nat) : Int) * 1440 + h ((t / 1440 + i) % 7 * 2) := rfl
      have hge : 4001 ≤ t / 1440 + i := by omega
      unfold cR
      have : ¬ dFrom h (t / 1440 + i) < 5761440 := by omega
      simp [this]
end Go.Proofs.YtbddcbbjmgepnaaDoor

/- Regions that draw their order and whose calls make memory: one walk in the order of the text, over the class of the worlds in which nothing old has turned. No program. -/
namespace Go.Proofs.YtbddcbbjmgepnaaDoor
open Go.RowKit
section
variable {P : Program} {o : Oper} {a : Act} {C : World → Prop} {K : Act → Prop}
theorem quiet_value (v : Value) (hv : ∀ w, C w → (execOp a.eval o).run P w = .ok (.value v) w) (hK : K (a.put o.dst v)) : o.quiet P a C K :=
  ⟨v, fun w hw => by unfold Oper.quietAt; rw [hv w hw]; exact ⟨rfl, rfl⟩, hK⟩
theorem quiet_call (f : FuncId) (args : Array Value) (v : Value) (hrun : ∀ w, (execOp a.eval o).run P w = .ok (.enter f args) w) (hc : ∀ w, C w → Calls P f args w fun e w' => e = .returned v ∧ C w') (hK : K (a.put o.dst v)) : o.quiet P a C K :=
  ⟨v, fun w hw => by unfold Oper.quietAt; rw [hrun w]; exact ⟨rfl, hc w hw⟩, hK⟩
theorem quiet_load_row (ty : TypeId) (x : Operand) (ho : o.op = .load ty x) (g : Nat) (hx : a.eval x = .pointer (some ⟨g, 0, none⟩)) (t : TypeId) (cs : Array Value) (d : TypeDesc) (hg : ∀ w, C w → Bk w g t cs)
    (hu : P.underlying ty = some d) (hd : (match d with | .struct _ | .array _ _ => true | _ => false) = true) (hi : (P.info? ty).map (·.size) = some cs.size) (hK : K (a.put o.dst (.agg cs))) : o.quiet P a C K :=
  quiet_value _ (fun w hw => by
    unfold execOp
    simp only [ho, hx, Instr.loadAt, Instr.sureAddr, Sem.run_bind, Sem.run_pure, Result.andThen_ok, run_loadVar_row w g t ty cs (0, 0) d (hg w hw) hu hd hi]) hK
theorem G.callNone {A w : World} {f : FuncId} {args : Array Value} {v : Value} (hG : G A w none) (h : Calls P f args w fun e w' => e = .returned v ∧ G w w' none) : Calls P f args w fun e w' => e = .returned v ∧ G A w' none :=
  h.mono fun _ _ ⟨he, hg⟩ => ⟨he, hG.trans hg⟩
theorem wpQuiet_op {ops : Array Oper} {Q : Act → Prop} {rest : List Oper} (hg : o.guard = none) (h : ∀ K : Act → Prop, (∀ a, wpQuiet P ops C Q rest a → K a) → o.quiet P a C K) : wpQuiet P ops C Q (o :: rest) a :=
  wpQuiet_step fun K hK => by
    rw [if_pos (by simp [Region.wanted, hg])]
    exact h K hK
end
end Go.Proofs.YtbddcbbjmgepnaaDoor

/- The walks of NextOpenOf, OpenIn, OpenMinutes. -/
namespace Go.Proofs.YtbddcbbjmgepnaaDoor
open Go.RowKit

/-- What the reference's NextOpenOf returns. -/
def nofV (o : Option Int) : Value := match o with | some n => .tuple #[.int .i64 n, .bool true] | none => .tuple #[.int .i64 0, .bool false]
def NofRel (w : World) (r : ByteArray) (h : Nat → Int) (t d0 : Nat) (o : Option Int) (i : Value) (wr : World) : Prop :=
  ∃ k : Nat, k ≤ 8 ∧ i = .int .i64 ((d0 : Int) + (k : Int)) ∧ o = find (cR h t) (dFrom h) (8 - k) (d0 + k) ∧ G w wr none ∧ Bk wr w.heap.size 30 (stC r h)
set_option maxRecDepth 100000 in
set_option maxHeartbeats 2000000 in
theorem nextOpenOf_c (r : ByteArray) (h : Nat → Int) (t : Nat) (w : World) (hb : HB h) (hh : okHrs h = true) (ht : t < 5761440) :
    Calls Tryd.prog 15 #[.agg (stC r h), .int .i64 (t : Int)] w fun e w' => e = .returned (nofV (nextO h t)) ∧ G w w' none := by
  rw [nextO_ref h t hh ht]
  have HO := Lib.hid (fun w => openAt_c r h t w hb ht)
  obtain ⟨d0, hd0⟩ : ∃ d0 : Nat, t / 1440 = d0 := ⟨_, rfl⟩
  have hdq : (t : Int) / 1440 = (d0 : Int) := by omega
  have hd4 : d0 ≤ 4000 := by omega
  obtain ⟨o, ho⟩ : ∃ o, refO h t = o := ⟨_, rfl⟩
  have HR : Hid (o = if opB h t = true then some (t : Int) else find (cR h t) (dFrom h) 8 d0) := Lib.hid (by rw [← hd0, ← ho]; rfl)
  rw [ho]
  clear ho
  clear ht hd0 hh
  go_enter Tryd.func15, Tryd.ntmps15
  go_wp2_with (refine wpList_load_row rfl 30 _ rfl w.heap.size rfl 30 (stC r h) (0, 0) _ (Bk.new w _ _) Tryd.underlying30 rfl (st_info _ _) ?_)
  refine (HO.out _).mono ?_; rintro e w1 ⟨rfl, hG1⟩
  have hB1 := (Bk.new w 30 (stC r h)).quiet hG1
  have hG : G w w1 none := ((G.refl w none).alloc _).trans hG1
  clear hG1 HO
  cases hop : opB h t with
  | true =>
    have HN : Hid (nofV o = .tuple #[.int .i64 (t : Int), .bool true]) := Lib.hid (by rw [HR.out, if_pos hop]; rfl)
    clear hop
    go_wp2_with fail
    go_ret2
    exact ⟨by rw [HN.out]; rfl, hG⟩
  | false =>
    have HN : Hid (o = find (cR h t) (dFrom h) 8 d0) := Lib.hid (by rw [HR.out, if_neg (by simp [hop])])
    clear hop HR
    go_wp2_with fail
    go_loopw [6] (NofRel w r h t d0 o) (fun i _ => (4010 - (intOf i)).toNat)
    case atStart => exact ⟨0, by omega, congrArg (Value.int .i64) (by omega), HN.out, hG, hB1⟩
    case round =>
      obtain ⟨k, hk, rfl, heq, hG2, hB2⟩ := hrel
      have HE := Lib.hid heq
      clear heq hG hB1 HN
      by_cases hlt : k < 8
      · have HF : Hid (o = if cR h t (d0 + k) = true then some (dFrom h (d0 + k)) else find (cR h t) (dFrom h) (8 - (k + 1)) (d0 + (k + 1))) := Lib.hid (by rw [HE.out, show 8 - k = (8 - (k + 1)) + 1 by omega]; rfl)
        have HC : Hid (cR h t (d0 + k) = (decide ((t : Int) < dFrom h (d0 + k)) && decide (dFrom h (d0 + k) < 5761440) && decide (h ((d0 + k) % 7 * 2) < h ((d0 + k) % 7 * 2 + 1)))) := Lib.hid rfl
        have HV : Hid (dFrom h (d0 + k) = ((d0 : Int) + (k : Int)) * 1440 + h ((d0 + k) % 7 * 2)) := Lib.hid (by unfold dFrom; omega)
        obtain ⟨b11, b12⟩ := hb ((d0 + k) % 7 * 2)
        have hm7 : (d0 + k) % 7 < 7 := Nat.mod_lt _ (by omega)
        have HP := Lib.hid (stC_pair r h hB2 ((d0 + k) % 7) hm7)
        have hmq : ((d0 : Int) + (k : Int)) % 7 = (((d0 + k) % 7 : Nat) : Int) := by omega
        obtain ⟨m, hm⟩ : ∃ m, (d0 + k) % 7 = m := ⟨_, rfl⟩
        rw [hm] at HC HV b11 b12 hm7 HP hmq
        clear hm
        go_wp2_with (refine wpList_load_at rfl 27 _ rfl ⟨w.heap.size, 1 + m * 2, none⟩ rfl #[.int .i64 (h (m * 2)), .int .i64 (h (m * 2 + 1))] _ HP.out Tryd.underlying27 rfl (wn_info _ _) ?_)
        focus
          have hc : cR h t (d0 + k) = true := by rw [HC.out, HV.out]; simp only [Bool.and_eq_true, decide_eq_true_eq]; omega
          have HN2 : Hid (nofV o = .tuple #[.int .i64 (((d0 : Int) + (k : Int)) * 1440 + h (m * 2)), .bool true]) := Lib.hid (by rw [HF.out, if_pos hc, HV.out]; rfl)
          go_ret2
          exact ⟨by rw [HN2.out]; rfl, hG2.alloc _⟩
        all_goals
          have hc : cR h t (d0 + k) = false := by rw [HC.out, HV.out]; simp only [Bool.and_eq_false_iff, decide_eq_false_iff_not]; omega
          refine ⟨⟨k + 1, by omega, congrArg (Value.int .i64) (by omega), by rw [HF.out, if_neg (by simp [hc])], hG2.alloc _, hB2.alloc _⟩, ?_⟩
          simp only [intOf]
          omega
      · obtain rfl : k = 8 := by omega
        have HN2 : Hid (nofV o = .tuple #[.int .i64 0, .bool false]) := Lib.hid (by rw [HE.out]; rfl)
        go_wp2_with fail
        go_ret2
        exact ⟨by rw [HN2.out]; rfl, hG2⟩

/-! ### The minutes of a window -/
/-- How many moments it is open in the first so many days of a window. -/
def accD (h : Nat → Int) (a b : Int) (d0 : Nat) : Nat → Int
  | 0 => 0
  | k + 1 => accD h a b d0 k + ovl (dFrom h (d0 + k)) (dTo h (d0 + k)) a b
def nD (a b : Nat) : Nat := (b + 1439) / 1440 - a / 1440
def openIn (h : Nat → Int) (a b : Nat) : Int := accD h a b (a / 1440) (nD a b)
theorem accD_bd (h : Nat → Int) (a b : Nat) (d0 k : Nat) (hab : a ≤ b) : 0 ≤ accD h a b d0 k ∧ accD h a b d0 k ≤ (k : Int) * ((b : Int) - (a : Int)) := by
  induction k with
  | zero => simp [accD]
  | succ k ih =>
    have h1 : 0 ≤ ovl (dFrom h (d0 + k)) (dTo h (d0 + k)) a b ∧ ovl (dFrom h (d0 + k)) (dTo h (d0 + k)) a b ≤ (b : Int) - (a : Int) := by unfold ovl; omega
    unfold accD
    have h2 : ((k + 1 : Nat) : Int) * ((b : Int) - (a : Int)) = (k : Int) * ((b : Int) - (a : Int)) + ((b : Int) - (a : Int)) := by
      rw [Int.natCast_add, Int.add_mul]; simp
    omega
theorem accD_le (h : Nat → Int) (a b : Nat) (d0 k : Nat) (hab : a ≤ b) (hb : b ≤ 5761440) (hk : k ≤ 4010) : 0 ≤ accD h a b d0 k ∧ accD h a b d0 k ≤ 100000000000 := by
  have h1 := accD_bd h a b d0 k hab
  have h2 : (k : Int) * ((b : Int) - (a : Int)) ≤ 4010 * 5761440 := by
    have h3 : (k : Int) * ((b : Int) - (a : Int)) ≤ 4010 * ((b : Int) - (a : Int)) := Int.mul_le_mul_of_nonneg_right (by omega) (by omega)
    omega
  omega
theorem nD_lt {a b : Nat} (k : Nat) : k < nD a b ↔ (a / 1440 + k) * 1440 < b := by unfold nD; omega
theorem nD_le {a b : Nat} (hb : b ≤ 5761440) : nD a b ≤ 4001 := by unfold nD; omega
def MinRel (w : World) (r : ByteArray) (h : Nat → Int) (a b d0 : Nat) (v i : Value) (wr : World) : Prop :=
  ∃ k : Nat, k ≤ nD a b ∧ i = .int .i64 ((d0 : Int) + (k : Int)) ∧ v = .int .i64 (accD h a b d0 k) ∧ G w wr none ∧ Bk wr w.heap.size 30 (stC r h) ∧ Bk wr (w.heap.size + 1) 27 #[.int .i64 (a : Int), .int .i64 (b : Int)]
set_option maxRecDepth 100000 in
set_option maxHeartbeats 2000000 in
theorem openIn_c (r : ByteArray) (h : Nat → Int) (a b : Nat) (w : World) (hb : HB h) (hab : a ≤ b) (hbe : b ≤ 5761440) :
    Calls Tryd.prog 20 #[.agg (stC r h), .agg #[.int .i64 (a : Int), .int .i64 (b : Int)]] w fun e w' => e = .returned (.int .i64 (openIn h a b)) ∧ G w w' none := by
  have HLT := Lib.hid (fun k => nD_lt (a := a) (b := b) k)
  have HAC := Lib.hid (fun d0 k hk => accD_le h a b d0 k hab hbe hk)
  have HN4 := Lib.hid (nD_le (a := a) hbe)
  obtain ⟨d0, hd0⟩ : ∃ d0 : Nat, a / 1440 = d0 := ⟨_, rfl⟩
  have HD := Lib.hid hd0
  have hdq : (a : Int) / 1440 = (d0 : Int) := by omega
  have hd4 : d0 ≤ 4001 := by omega
  have ha9 : (a : Int) ≤ 10000000 := by omega
  have hb9 : (b : Int) ≤ 10000000 := by omega
  clear hbe hd0
  go_enter Tryd.func20, Tryd.ntmps20
  go_wp2_with fail
  go_loopw [5, 6] (MinRel w r h a b d0) (fun _ i _ => (20000 - (intOf i)).toNat)
  case atStart => exact ⟨0, by omega, congrArg (Value.int .i64) (by omega), rfl, ((G.refl w none).alloc _).alloc _, (Bk.new w _ _).alloc _, Bk.newAt (by simp) _ _⟩
  case round =>
    obtain ⟨k, hk, rfl, rfl, hG2, hB2, hW2⟩ := hrel
    have hlt := HLT.out k
    have hac := HAC.out d0 k (by have := HN4.out; omega)
    rw [HD.out] at hlt
    have hc0 : wr.cell? ⟨w.heap.size + 1, 0, none⟩ = some (.int .i64 (a : Int)) := hW2.cell 0
    have hc1 : wr.cell? ⟨w.heap.size + 1, 1, none⟩ = some (.int .i64 (b : Int)) := hW2.cell 1
    have hwl := hW2.lt
    obtain ⟨ac0, ac1⟩ := hac
    by_cases hl : k < nD a b
    · have hlt2 : ((d0 : Int) + (k : Int)) * 1440 < (b : Int) := by have := hlt.1 hl; omega
      have HK : Hid (k + 1 ≤ nD a b) := Lib.hid (by omega)
      have HA : Hid (accD h a b d0 (k + 1) = accD h a b d0 k + ovl (dFrom h (d0 + k)) (dTo h (d0 + k)) a b) := Lib.hid rfl
      have hkk : (k : Int) ≤ 4010 := by have := HN4.out; omega
      obtain ⟨b11, b12⟩ := hb ((d0 + k) % 7 * 2)
      obtain ⟨b21, b22⟩ := hb ((d0 + k) % 7 * 2 + 1)
      have hm7 : (d0 + k) % 7 < 7 := Nat.mod_lt _ (by omega)
      have HP := Lib.hid (stC_pair r h hB2 ((d0 + k) % 7) hm7)
      have hmq : ((d0 : Int) + (k : Int)) % 7 = (((d0 + k) % 7 : Nat) : Int) := by omega
      have HV : Hid (dFrom h (d0 + k) = ((d0 : Int) + (k : Int)) * 1440 + h ((d0 + k) % 7 * 2) ∧ dTo h (d0 + k) = ((d0 : Int) + (k : Int)) * 1440 + h ((d0 + k) % 7 * 2 + 1)) := Lib.hid (by unfold dFrom dTo; omega)
      obtain ⟨m, hm⟩ : ∃ m, (d0 + k) % 7 = m := ⟨_, rfl⟩
      rw [hm] at HV b11 b12 b21 b22 hm7 HP hmq
      clear hm hlt hk hl
      generalize accD h a b d0 k = acc at ac0 ac1 HA ⊢
      go_wp2_with (refine wpList_load_at rfl 27 _ rfl ⟨w.heap.size, 1 + m * 2, none⟩ rfl #[.int .i64 (h (m * 2)), .int .i64 (h (m * 2 + 1))] _ HP.out Tryd.underlying27 rfl (wn_info _ _) ?_)
      have h9 := HA.out
      rw [HV.out.1, HV.out.2] at h9
      unfold ovl at h9
      have H9 := Lib.hid h9
      clear h9
      refine ⟨⟨k + 1, HK.out, congrArg (Value.int .i64) (by omega), congrArg (Value.int .i64) (by have := H9.out; omega), hG2.alloc _, hB2.alloc _, hW2.alloc _⟩, ?_⟩
      simp only [intOf]
      omega
    · obtain rfl : k = nD a b := by omega
      have hge : (b : Int) ≤ ((d0 : Int) + (nD a b : Int)) * 1440 := by have h8 : ¬ (d0 + nD a b) * 1440 < b := fun hn => hl (hlt.2 hn); omega
      have HF : Hid (openIn h a b = accD h a b d0 (nD a b)) := Lib.hid (by rw [← HD.out]; rfl)
      have hn9 : (nD a b : Int) ≤ 4010 := by have := HN4.out; omega
      clear hlt hl hk
      generalize accD h a b d0 (nD a b) = acc at ac0 ac1 HF ⊢
      generalize nD a b = n at hge hn9 ⊢
      go_wp2_with fail
      go_ret
      exact ⟨ret_int HF.out.symm, hG2⟩
def minE (r : ByteArray) (h : Nat → Int) (a b : Int) : Int := if stErr [(r, h)] = 0 then winE a b else stErr [(r, h)]
def minR (r : ByteArray) (h : Nat → Int) (a b : Int) : Int := if minE r h a b = 0 then openIn h a.toNat b.toNat else 0
set_option maxRecDepth 100000 in
set_option maxHeartbeats 2000000 in
theorem openMinutes_c (r : ByteArray) (h : Nat → Int) (a b : Int) (w : World) (hr : r.size ≤ 9223372036854775807) (hb : HB h) :
    Calls Tryd.prog 11 #[.agg (stC r h), .agg #[.int .i64 a, .int .i64 b]] w fun e w' => e = .returned (.tuple #[.int .i64 (minR r h a b), .int .i64 (minE r h a b)]) ∧ G w w' none := by
  have hk : KeysOk [(r, h)] := by intro p hp; obtain rfl := List.mem_singleton.1 hp; exact ⟨hr, hb⟩
  have HB1 := Lib.hid ((((Bk.new w 30 (stC r h)).alloc (.cells #[.int .i64 a, .int .i64 b] 27))).at_)
  have hB0 := (((Bk.new w 30 (stC r h)).alloc (.cells #[.int .i64 a, .int .i64 b] 27))).alloc (.cells (stC r h) 30)
  have hW0 := (Bk.newAt (w := w.alloc (.cells (stC r h) 30)) (b := w.heap.size + 1) (by simp) 27 #[.int .i64 a, .int .i64 b]).alloc (.cells (stC r h) 30)
  by_cases h0 : stErr [(r, h)] = 0
  · by_cases hw : winB a b = true
    · simp only [winB, Bool.and_eq_true, decide_eq_true_eq] at hw
      obtain ⟨⟨a0, ab⟩, be⟩ := hw
      obtain ⟨a, rfl⟩ := Int.eq_ofNat_of_zero_le a0
      obtain ⟨b, rfl⟩ := Int.eq_ofNat_of_zero_le (show 0 ≤ b by omega)
      have hwt : winB (a : Int) (b : Int) = true := by simp [winB]; omega
      have H : Hid (minR r h (a : Int) (b : Int) = openIn h a b ∧ minE r h (a : Int) (b : Int) = 0) := Lib.hid (by simp [minR, minE, winE, h0, hwt])
      have HW := Lib.hid hwt
      have HLT := Lib.hid (fun k => nD_lt (a := a) (b := b) k)
      have HAC := Lib.hid (fun d0 k hk => accD_le h a b d0 k (by omega) (by omega) hk)
      have HN4 := Lib.hid (nD_le (a := a) (b := b) (by omega))
      obtain ⟨d0, hd0⟩ : ∃ d0 : Nat, a / 1440 = d0 := ⟨_, rfl⟩
      have HD := Lib.hid hd0
      have hdq : (a : Int) / 1440 = (d0 : Int) := by omega
      have hd4 : d0 ≤ 4001 := by omega
      have ha9 : (a : Int) ≤ 10000000 := by omega
      have hb9 : (b : Int) ≤ 10000000 := by omega
      clear be hd0 hwt ab
      go_enter Tryd.func11, Tryd.ntmps11
      go_wp2_with (refine wpList_load_at rfl 30 _ rfl ⟨w.heap.size, 0, none⟩ rfl #[.string r, .int .i64 (h 0), .int .i64 (h 1), .int .i64 (h 2), .int .i64 (h 3), .int .i64 (h 4), .int .i64 (h 5), .int .i64 (h 6), .int .i64 (h 7), .int .i64 (h 8), .int .i64 (h 9), .int .i64 (h 10), .int .i64 (h 11), .int .i64 (h 12), .int .i64 (h 13)] _ HB1.out Tryd.underlying30 rfl (st_info _ _) ?_)
      refine (checkStations_c _ [(r, h)] _ (rd_one r h (by simp)) hk (by simp)).mono ?_; rintro e w1 ⟨rfl, hG1⟩
      have hB1 := hB0.quiet hG1
      have hW1 := hW0.quiet hG1
      have hG : G w w1 none := ((((G.refl w none).alloc _).alloc _).alloc _).trans hG1
      rw [h0]
      clear hG1 h0 hB0 hW0 HB1
      have hwl := hW1.lt
      have hc0 : w1.cell? ⟨w.heap.size + 1, 0, none⟩ = some (.int .i64 (a : Int)) := hW1.cell 0
      have hc1 : w1.cell? ⟨w.heap.size + 1, 1, none⟩ = some (.int .i64 (b : Int)) := hW1.cell 1
      go_wp2_with fail
      refine (isWindow_c _ _ _).mono ?_; rintro e w2 ⟨rfl, hG2⟩
      rw [HW.out]
      have hB2 := hB1.quiet hG2
      have hW2 := hW1.quiet hG2
      have hG02 := hG.trans hG2
      clear hG hG2 hB1 hW1 hc0 hc1 hwl
      have hwl := hW2.lt
      have hc0 : w2.cell? ⟨w.heap.size + 1, 0, none⟩ = some (.int .i64 (a : Int)) := hW2.cell 0
      have hc1 : w2.cell? ⟨w.heap.size + 1, 1, none⟩ = some (.int .i64 (b : Int)) := hW2.cell 1
      go_wp2_with fail
      clear hc0 hc1 hwl
      go_loopw [7, 8] (MinRel w r h a b d0) (fun _ i _ => (20000 - (intOf i)).toNat)
      case atStart => exact ⟨0, by omega, congrArg (Value.int .i64) (by omega), rfl, hG02, hB2, hW2⟩
      case round =>
        clear hG02 hB2 hW2
        obtain ⟨k, hk, rfl, rfl, hG2, hB2, hW2⟩ := hrel
        have hlt := HLT.out k
        have hac := HAC.out d0 k (by have := HN4.out; omega)
        rw [HD.out] at hlt
        have hc0 : wr.cell? ⟨w.heap.size + 1, 0, none⟩ = some (.int .i64 (a : Int)) := hW2.cell 0
        have hc1 : wr.cell? ⟨w.heap.size + 1, 1, none⟩ = some (.int .i64 (b : Int)) := hW2.cell 1
        have hwl := hW2.lt
        obtain ⟨ac0, ac1⟩ := hac
        by_cases hl : k < nD a b
        · have hlt2 : ((d0 : Int) + (k : Int)) * 1440 < (b : Int) := by have := hlt.1 hl; omega
          have HK : Hid (k + 1 ≤ nD a b) := Lib.hid (by omega)
          have HA : Hid (accD h a b d0 (k + 1) = accD h a b d0 k + ovl (dFrom h (d0 + k)) (dTo h (d0 + k)) a b) := Lib.hid rfl
          have hkk : (k : Int) ≤ 4010 := by have := HN4.out; omega
          clear hlt hk hl
          generalize accD h a b d0 k = acc at ac0 ac1 HA ⊢
          go_wp2_with fail
          clear hc0 hc1 hwl
          refine wp_region_quiet (C := fun w' => G wr w' none) (by kernel_rfl) (by kernel_rfl) ((G.refl _ _).drew) ?_
          refine wpQuiet_op rfl (fun K hK => ?_); refine quiet_value _ (fun _ _ => rfl) (hK _ ?_); clear hK K
          refine wpQuiet_op rfl (fun K hK => ?_); refine quiet_load_row 30 _ rfl w.heap.size rfl 30 (stC r h) _ (fun w' hw' => hB2.quiet hw') Tryd.underlying30 rfl (st_info _ _) (hK _ ?_); clear hK K
          refine wpQuiet_op rfl (fun K hK => ?_); refine quiet_value _ (fun _ _ => rfl) (hK _ ?_); clear hK K
          have hdf := dFrom_bd hb (d0 + k)
          have hdt := dTo_bd hb (d0 + k)
          have hk7 : (d0 : Int) + (k : Int) ≤ 7000 := by omega
          have ho := HA.out
          have hoB : 0 ≤ ovl (dFrom h (d0 + k)) (dTo h (d0 + k)) a b ∧ ovl (dFrom h (d0 + k)) (dTo h (d0 + k)) a b ≤ 10000000 := by unfold ovl; omega
          have HOV := Lib.hid (fun w => overlap_c (dFrom h (d0 + k)) (dTo h (d0 + k)) (a : Int) (b : Int) w (by unfold small; omega) (by unfold small; omega) (by unfold small; omega) (by unfold small; omega))
          have HHO := Lib.hid (fun w => hoursOn_c r h (d0 + k) w hb (by omega))
          clear hdf hdt ho hb
          generalize ovl (dFrom h (d0 + k)) (dTo h (d0 + k)) a b = O at HA hoB HOV
          generalize dFrom h (d0 + k) = x at HOV HHO
          generalize dTo h (d0 + k) = z at HOV HHO
          obtain ⟨o0, o1⟩ := hoB
          refine wpQuiet_op rfl (fun K hK => ?_); refine quiet_call 36 #[.agg (stC r h), .int .i64 ((d0 : Int) + (k : Int))] (.agg #[.int .i64 x, .int .i64 z]) (fun _ => by go_simp) (fun w' hw' => by rw [show (d0 : Int) + (k : Int) = ((d0 + k : Nat) : Int) by omega]; exact G.callNone hw' (HHO.out w')) (hK _ ?_); clear hK K
          refine wpQuiet_op rfl (fun K hK => ?_); refine quiet_load_row 27 _ rfl (w.heap.size + 1) rfl 27 #[.int .i64 (a : Int), .int .i64 (b : Int)] _ (fun w' hw' => hW2.quiet hw') Tryd.underlying27 rfl (wn_info _ _) (hK _ ?_); clear hK K
          refine wpQuiet_op rfl (fun K hK => ?_); refine quiet_call 38 #[.agg #[.int .i64 x, .int .i64 z], .agg #[.int .i64 (a : Int), .int .i64 (b : Int)]] (.int .i64 O) (fun _ => by go_simp) (fun w' hw' => G.callNone hw' (HOV.out w')) (hK _ ?_); clear hK K
          refine wpQuiet_op rfl (fun K hK => ?_); refine quiet_value (.int .i64 (acc + O)) (fun _ _ => by go_simp; exact IntWalk.i64_in _ (by omega)) (hK _ ?_); clear hK K
          refine wpQuiet_op rfl (fun K hK => ?_); refine quiet_value _ (fun _ _ => rfl) (hK _ ?_); clear hK K
          refine wpQuiet_nil ?_
          intro w5 hG5
          go_simp
          go_wp2_with fail
          refine ⟨⟨k + 1, HK.out, congrArg (Value.int .i64) (by omega), congrArg (Value.int .i64) HA.out.symm, hG2.trans hG5, hB2.quiet hG5, hW2.quiet hG5⟩, ?_⟩
          simp only [intOf]
          omega
        · obtain rfl : k = nD a b := by omega
          have hge : (b : Int) ≤ ((d0 : Int) + (nD a b : Int)) * 1440 := by have h8 : ¬ (d0 + nD a b) * 1440 < b := fun hn => hl (hlt.2 hn); omega
          have HF : Hid (openIn h a b = accD h a b d0 (nD a b)) := Lib.hid (by rw [← HD.out]; rfl)
          have hn9 : (nD a b : Int) ≤ 4010 := by have := HN4.out; omega
          clear hlt hl hk
          generalize accD h a b d0 (nD a b) = acc at ac0 ac1 HF ⊢
          generalize nD a b = n at hge hn9 ⊢
          go_wp2_with fail
          go_ret2
          exact ⟨by rw [H.out.1, H.out.2, HF.out]; rfl, hG2⟩
    · have H : Hid (minR r h a b = 0 ∧ minE r h a b = 1) := Lib.hid (by simp [minR, minE, winE, h0, hw])
      have HW : Hid (winB a b = false) := Lib.hid (by simpa using hw)
      clear hw
      go_enter Tryd.func11, Tryd.ntmps11
      go_wp2_with (refine wpList_load_at rfl 30 _ rfl ⟨w.heap.size, 0, none⟩ rfl #[.string r, .int .i64 (h 0), .int .i64 (h 1), .int .i64 (h 2), .int .i64 (h 3), .int .i64 (h 4), .int .i64 (h 5), .int .i64 (h 6), .int .i64 (h 7), .int .i64 (h 8), .int .i64 (h 9), .int .i64 (h 10), .int .i64 (h 11), .int .i64 (h 12), .int .i64 (h 13)] _ HB1.out Tryd.underlying30 rfl (st_info _ _) ?_)
      refine (checkStations_c _ [(r, h)] _ (rd_one r h (by simp)) hk (by simp)).mono ?_; rintro e w1 ⟨rfl, hG1⟩
      have hW1 := hW0.quiet hG1
      have hG : G w w1 none := ((((G.refl w none).alloc _).alloc _).alloc _).trans hG1
      rw [h0]
      clear hG1 h0 hB0 hW0 HB1
      have hwl := hW1.lt
      have hc0 : w1.cell? ⟨w.heap.size + 1, 0, none⟩ = some (.int .i64 a) := hW1.cell 0
      have hc1 : w1.cell? ⟨w.heap.size + 1, 1, none⟩ = some (.int .i64 b) := hW1.cell 1
      go_wp2_with fail
      refine (isWindow_c _ _ _).mono ?_; rintro e w2 ⟨rfl, hG2⟩
      rw [HW.out]
      go_wp2_with fail
      go_ret2
      exact ⟨by rw [H.out.1, H.out.2]; rfl, hG.trans hG2⟩
  · have H : Hid (minR r h a b = 0 ∧ minE r h a b = stErr [(r, h)]) := Lib.hid (by simp [minR, minE, h0])
    have h1 : (stErr [(r, h)] != 0) = true := by rw [bne_iff_ne]; exact h0
    clear h0
    go_enter Tryd.func11, Tryd.ntmps11
    go_wp2_with (refine wpList_load_at rfl 30 _ rfl ⟨w.heap.size, 0, none⟩ rfl #[.string r, .int .i64 (h 0), .int .i64 (h 1), .int .i64 (h 2), .int .i64 (h 3), .int .i64 (h 4), .int .i64 (h 5), .int .i64 (h 6), .int .i64 (h 7), .int .i64 (h 8), .int .i64 (h 9), .int .i64 (h 10), .int .i64 (h 11), .int .i64 (h 12), .int .i64 (h 13)] _ HB1.out Tryd.underlying30 rfl (st_info _ _) ?_)
    refine (checkStations_c _ [(r, h)] _ (rd_one r h (by simp)) hk (by simp)).mono ?_; rintro e w1 ⟨rfl, hG1⟩
    go_wp2_with fail
    go_ret2
    exact ⟨by rw [H.out.1, H.out.2]; rfl, ((((G.refl w none).alloc _).alloc _).alloc _).trans hG1⟩
end Go.Proofs.YtbddcbbjmgepnaaDoor

/- The law's own 'errs'. -/
namespace Go.Proofs.YtbddcbbjmgepnaaDoor
open Go.RowKit

/-- The first error of some. -/
def errsOf : List Int → Int
  | [] => 0
  | e :: r => if e = 0 then errsOf r else e
def ErrsRel (es : List Int) (i : Value) : Prop := ∃ k : Nat, k ≤ es.length ∧ i = .int .i64 k ∧ errsOf es = errsOf (es.drop k)
set_option maxRecDepth 100000 in
set_option maxHeartbeats 1000000 in
theorem errs_c (es : List Int) (v : Value) (w : World) (hr : Rd w 1 v es.length (es.map (Value.int .i64))) (hn : es.length ≤ 1000) :
    Calls Tryd.prog 13 #[v] w fun e w' => e = .returned (.int .i64 (errsOf es)) ∧ w = w' := by
  obtain ⟨a, cap, rfl, hcap, hm, hlen, hnil, hcell⟩ := hr
  go_enter Tryd.func13, Tryd.ntmps13
  go_wp2_with fail
  go_loop [7] (ErrsRel es) (fun i => es.length - (intOf i).toNat)
  case atStart => exact ⟨0, by omega, rfl, rfl⟩
  case round =>
    obtain ⟨k, hk, rfl, heq⟩ := hrel
    have HE := Lib.hid heq
    clear heq
    by_cases hlt : k < es.length
    · obtain ⟨x, hx⟩ : ∃ x, es[k]? = some x := ⟨_, List.getElem?_eq_getElem hlt⟩
      have HD : Hid (errsOf es = if x = 0 then errsOf (es.drop (k + 1)) else x) := Lib.hid (by
        rw [HE.out, List.drop_eq_getElem_cons hlt, (List.getElem?_eq_some_iff.1 hx).2]; rfl)
      cases a with
      | none => have := (hnil rfl).1; omega
      | some ad =>
        obtain ⟨bb, bo, bs⟩ := ad
        obtain ⟨e1, e2, e3⟩ := hcell _ rfl
        dsimp only at e1 e2 e3
        subst e1
        have hc := e3 k (.int .i64 x) (by rw [List.getElem?_map, hx]; rfl)
        clear hcell e3 hnil hx
        by_cases h0 : x = 0
        · subst h0
          have HF : Hid (errsOf es = errsOf (es.drop (k + 1))) := Lib.hid (by rw [HD.out, if_pos rfl])
          go_wp2_with fail
          go_round
          case rel => exact ⟨k + 1, by omega, by go_num, HF.out⟩
          case measure => simp [intOf]; omega
        · have HF : Hid (errsOf es = x) := Lib.hid (by rw [HD.out, if_neg h0])
          have h1 : (x != 0) = true := by rw [bne_iff_ne]; exact h0
          clear h0
          go_wp2_with fail
          go_ret
          exact ⟨ret_int HF.out.symm, rfl⟩
    · obtain rfl : k = es.length := by omega
      have HF : Hid (errsOf es = 0) := Lib.hid (by rw [HE.out, List.drop_length]; rfl)
      go_wp2_with fail
      go_ret
      exact ⟨ret_int HF.out.symm, rfl⟩
theorem errs_at (r : ByteArray) (h : Nat → Int) (t : Int) : errsOf [stErr [(r, h)], momE t] = atE r h t := by
  unfold atE
  show (if stErr [(r, h)] = 0 then (if momE t = 0 then 0 else momE t) else stErr [(r, h)]) = _
  by_cases h1 : stErr [(r, h)] = 0
  · rw [if_pos h1, if_pos h1]
    split
    · omega
    · rfl
  · rw [if_neg h1, if_neg h1]
theorem errs_min (r : ByteArray) (h : Nat → Int) (x y : Int) : errsOf [stErr [(r, h)], winE x y] = minE r h x y := by
  unfold minE
  show (if stErr [(r, h)] = 0 then (if winE x y = 0 then 0 else winE x y) else stErr [(r, h)]) = _
  by_cases h1 : stErr [(r, h)] = 0
  · rw [if_pos h1, if_pos h1]
    split
    · omega
    · rfl
  · rw [if_neg h1, if_neg h1]
end Go.Proofs.YtbddcbbjmgepnaaDoor

/- Steps of a region that draws its order, by hand. No program. -/
namespace Go.Proofs.YtbddcbbjmgepnaaDoor
open Go.RowKit
section
variable {P : Program} {ops : Array Oper} {o : Oper} {a : Act} {w : World} {K : Act → World → Prop} {Q : Exit → Act → World → Prop} {E : Prop}
theorem st_val (hg : o.guard = none) {v : Value} {w' : World} (hr : (execOp a.eval o).run P w = .ok (.value v) w') (hK : K (a.put o.dst v) w') : if Region.wanted o (yielded ops a.tmps) = true then Oper.wp P o a w K Q else E := by
  rw [if_pos (by simp [Region.wanted, hg])]
  unfold Oper.wp
  rw [hr]
  exact hK
theorem st_wp (hg : o.guard = none) (h : Oper.wp P o a w K Q) : if Region.wanted o (yielded ops a.tmps) = true then Oper.wp P o a w K Q else E := by
  rw [if_pos (by simp [Region.wanted, hg])]
  exact h
theorem st_call (hg : o.guard = none) {f : FuncId} {args : Array Value} {w1 : World} (hr : (execOp a.eval o).run P w = .ok (.enter f args) w1) (hc : Calls P f args w1 fun e w' => ∃ v, e = .returned v ∧ K (a.put o.dst v) w') : if Region.wanted o (yielded ops a.tmps) = true then Oper.wp P o a w K Q else E := by
  rw [if_pos (by simp [Region.wanted, hg])]
  unfold Oper.wp
  rw [hr]
  refine hc.mono ?_
  rintro e w' ⟨v, rfl, hK⟩
  exact hK
theorem run_load_row {ty : TypeId} {x : Operand} (ho : o.op = .load ty x) (g : Nat) (hx : a.eval x = .pointer (some ⟨g, 0, none⟩)) (t : TypeId) (cs : Array Value) (d : TypeDesc) (hg : Bk w g t cs)
    (hu : P.underlying ty = some d) (hd : (match d with | .struct _ | .array _ _ => true | _ => false) = true) (hi : (P.info? ty).map (·.size) = some cs.size) : (execOp a.eval o).run P w = .ok (.value (.agg cs)) w := by
  unfold execOp
  simp only [ho, hx, Instr.loadAt, Instr.sureAddr, Sem.run_bind, Sem.run_pure, Result.andThen_ok, run_loadVar_row w g t ty cs (0, 0) d hg hu hd hi]
/-- One that may come up, and it alone. -/
theorem ready_one {md : Region.Mode} {fuel : Nat} {listed : Array Bool} {i : Nat} (hr : Region.ready md ops listed = [i]) (ho : ops[i]? = some o)
    (h : ∀ K' : Act → World → Prop, (∀ a w, wpAny P md ops Q fuel (listed.setIfInBounds i true) a w → K' a w) → if Region.wanted o (yielded ops a.tmps) = true then Oper.wp P o a w K' Q else K' (a.put o.dst undef) w) : wpAny P md ops Q (fuel + 1) listed a w :=
  wpAny_ready hr (by simp) (AllReady.cons ho h AllReady.nil)
theorem ready_two {md : Region.Mode} {fuel : Nat} {listed : Array Bool} {i j : Nat} {o2 : Oper} (hr : Region.ready md ops listed = [i, j]) (ho : ops[i]? = some o) (ho2 : ops[j]? = some o2)
    (h : ∀ K' : Act → World → Prop, (∀ a w, wpAny P md ops Q fuel (listed.setIfInBounds i true) a w → K' a w) → if Region.wanted o (yielded ops a.tmps) = true then Oper.wp P o a w K' Q else K' (a.put o.dst undef) w)
    (h2 : ∀ K' : Act → World → Prop, (∀ a w, wpAny P md ops Q fuel (listed.setIfInBounds j true) a w → K' a w) → if Region.wanted o2 (yielded ops a.tmps) = true then Oper.wp P o2 a w K' Q else K' (a.put o2.dst undef) w) : wpAny P md ops Q (fuel + 1) listed a w :=
  wpAny_ready hr (by simp) (AllReady.cons ho h (AllReady.cons ho2 h2 AllReady.nil))
end
end Go.Proofs.YtbddcbbjmgepnaaDoor

/- The law StationHours, its first statements. -/
namespace Go.Proofs.YtbddcbbjmgepnaaDoor
open Go.RowKit

/-- What stands throughout: nothing old has turned; the station; the window; the table. -/
def HInv (W : World) (b4 b6 : Nat) (r : ByteArray) (h : Nat → Int) (x y : Int) (w : World) : Prop :=
  G W w none ∧ Bk w b4 30 (stC r h) ∧ Bk w b6 27 #[.int .i64 x, .int .i64 y] ∧ Gl w ∧ W.heap.size ≤ b4 ∧ W.heap.size ≤ b6 ∧ 0 < W.heap.size
theorem HInv.grown {W w w' : World} {b4 b6 : Nat} {r : ByteArray} {h : Nat → Int} {x y : Int} {s : Option Nat} (hI : HInv W b4 b6 r h x y w) (hg : G w w' s) (h4 : s ≠ some b4) (h6 : s ≠ some b6) (hs : ∀ k, s = some k → W.heap.size ≤ k) : HInv W b4 b6 r h x y w' := by
  obtain ⟨i1, i2, i3, i4, i5, i6, i7⟩ := hI
  exact ⟨i1.other hg (fun j e => .inl (hs j e)), i2.grown hg (fun e => h4 e.symm), i3.grown hg (fun e => h6 e.symm), i4.grown hg (fun e => by have := hs _ e; omega), i5, i6, i7⟩
theorem HInv.quiet {W w w' : World} {b4 b6 : Nat} {r : ByteArray} {h : Nat → Int} {x y : Int} (hI : HInv W b4 b6 r h x y w) (hg : G w w' none) : HInv W b4 b6 r h x y w' :=
  hI.grown hg (by simp) (by simp) (fun k e => by cases e)
/-- One station more. -/
theorem app_fin {W w : World} {b4 b6 : Nat} {r : ByteArray} {h : Nat → Int} {x y : Int} {o : Oper} {a : Act} {K : Act → World → Prop} {Q : Exit → Act → World → Prop} (sx xx : Operand)
    (ho : o.op = .call { callee := .builtin .append, args := #[sx, xx], argTypes := #[34, 34] }) (base : Nat) (v : Value) (l : List Sta) (hs : a.eval sx = v) (hown : OwnSts w base v l) (g : Nat) (hb : Bk w g 30 (stC r h))
    (hx : a.eval xx = .slice (some ⟨g, 0, none⟩) 1 1) (hl : l.length ≤ 1000) (hbase : base ≤ w.heap.size) (hI : HInv W b4 b6 r h x y w) (h4 : b4 < base) (h6 : b6 < base) (hW : W.heap.size ≤ base)
    (hK : ∀ v' w', Rd w' 15 v' (l ++ [(r, h)]).length (stL (l ++ [(r, h)])) → HInv W b4 b6 r h x y w' → K (a.put o.dst v') w') : o.wp Tryd.prog a w K Q := by
  obtain ⟨i0, hi, hz0, hz1, hz2⟩ := info_parts st_row
  refine wp_append_own w sx xx 34 ho base 30 i0 _ 15 128 Tryd.underlying34 hi hz0 hz1 hz2 rfl (by decide) v l.length (stL l) hs hown ⟨g, 0, none⟩ 1 1 (stC r h).toList hx rfl hb.at_ (stC_one r h) (by unfold maxLen; omega) (by omega) hbase ?_
  intro v' w' h1 h2 _
  have hob := fun r e => (World.ownsRow.lt hown r e).1
  refine hK v' w' ?_ (hI.grown h2 (fun e => by have := hob _ e; omega) (fun e => by have := hob _ e; omega) (fun k e => by have := hob _ e; omega))
  have hr := Rd.of_owns h1
  rw [List.length_append, stL_snoc]
  exact hr
theorem OwnSts.low {w : World} {base b' : Nat} {v : Value} {l : List Sta} (h : OwnSts w base v l) (hb : b' ≤ base) : OwnSts w b' v l := by
  obtain ⟨h1, h2⟩ := h
  rcases h2 with ⟨rfl, h3⟩ | ⟨g, cap, cur, rfl, h3, h4, h5, h6, h7, h8⟩
  · exact ⟨h1, .inl ⟨rfl, h3⟩⟩
  · exact ⟨h1, .inr ⟨g, cap, cur, rfl, Nat.le_trans hb h3, h4, h5, h6, h7, h8⟩⟩
theorem minE_win {r : ByteArray} {h : Nat → Int} {x y : Int} (h0 : minE r h x y = 0) : 0 ≤ x ∧ 0 ≤ y ∧ (x ≤ y ∧ y ≤ 5761440) ∧ minR r h x y = openIn h x.toNat y.toNat := by
  have hm : minR r h x y = openIn h x.toNat y.toNat := by simp [minR, h0]
  unfold minE at h0
  split at h0
  · unfold winE at h0
    split at h0
    · rename_i hw
      simp only [winB, Bool.and_eq_true, decide_eq_true_eq] at hw
      exact ⟨hw.1.1, by omega, ⟨hw.1.2, hw.2⟩, hm⟩
    · omega
  · contradiction
def StRes (W : World) (b4 b6 : Nat) (r : ByteArray) (h : Nat → Int) (x y : Int) (v : Value) (w : World) : Prop :=
  ∃ l : List Sta, Rd w 15 v l.length (stL l) ∧ KeysOk l ∧ l.length ≤ 4 ∧ HInv W b4 b6 r h x y w
theorem stkeys_small {k : ByteArray} (h : k ∈ StationKeys) : k.size ≤ 9223372036854775807 := by
  have : k.size ≤ 10 := by
    unfold StationKeys at h
    simp only [List.mem_cons, List.mem_nil_iff, or_false] at h
    rcases h with rfl | rfl | rfl | rfl | rfl | rfl <;> decide
  omega
theorem stskeys_small {k : ByteArray} (h : k ∈ StsKeys) : k.size ≤ 9223372036854775807 := by
  have : k.size ≤ 10 := by
    unfold StsKeys at h
    simp only [List.mem_cons, List.mem_nil_iff, or_false] at h
    rcases h with rfl | rfl | rfl <;> decide
  omega
set_option maxRecDepth 100000 in
set_option maxHeartbeats 4000000 in
theorem stationHours_c (a : Option Addr) (n c : Nat) (zs : List Int) (W : World) (hr : Rd W 1 (.slice a n c) n (zs.map (Value.int .i64))) (hz : ∀ z ∈ zs, -9223372036854775808 ≤ z ∧ z ≤ 9223372036854775807) (hg : Gl W) :
    Calls Tryd.prog 3 #[.slice a n c] W fun e w' => e = .returned (.bool true) ∧ G W w' none := by
  have hSB : SB (W.alloc (.cells #[.slice a n c, .int .i64 0] 25)) W.heap.size 0 := by
    have hB := Bk.new W 25 #[.slice a n c, .int .i64 0]
    refine ⟨0, a, n, c, zs, Nat.le_refl _, hr.quiet ((G.refl _ _).alloc _), fun b e => ?_, hz, hB.cell 0, hB.cell 1, hB.free 1, hB.lt⟩
    obtain ⟨a', c', e', r1, r2, r3, r4, r5⟩ := hr
    cases e'
    exact (r5 b e).2.1
  have hG0 : G W (W.alloc (.cells #[.slice a n c, .int .i64 0] 25)) (some W.heap.size) := (G.refl _ _).alloc _
  have hg0 : Gl (W.alloc (.cells #[.slice a n c, .int .i64 0] 25)) := hg.quiet ((G.refl _ _).alloc _)
  have hgW := hg.2.2
  clear hr hz
  go_enter Tryd.func3, Tryd.ntmps3
  go_wp2_with fail
  refine (station_c _ W.heap.size 0 hSB (by omega)).mono ?_; rintro e w1 ⟨r, h, rfl, hr, hHB, hSB1, hG1⟩
  have hg1 := hg0.grown hG1 (fun e => by have := Option.some.inj e; omega)
  have hG01 := hG0.trans hG1
  clear hSB hG0 hG1 hg0 hg
  go_wp2_with fail
  refine (moment_c _ W.heap.size _ hSB1 (by omega)).mono ?_; rintro e w2 ⟨t, rfl, ht0, ht1, hSB2, hG2⟩
  have hg2 := hg1.grown hG2 (fun e => by have := Option.some.inj e; omega)
  have hG02 := hG01.trans hG2
  clear hSB1 hG01 hG2 hg1
  go_wp2_with fail
  refine (window_c _ W.heap.size _ hSB2 (by omega)).mono ?_; rintro e w3 ⟨x, y, rfl, x0, x1, y0, y1, hSB3, hG3⟩
  have hg3 := hg2.grown hG3 (fun e => by have := Option.some.inj e; omega)
  have hG03 := hG02.trans hG3
  clear hSB2 hG02 hG3 hg2
  have hz3 := hSB3.lt
  have hB0 := (Bk.new w3 30 (stC ⟨#[]⟩ (fun _ => 0))).alloc (.cells #[.int .i64 0, .int .i64 0] 27)
  have hB6 := (Bk.newAt (w := w3.alloc (.cells (stC ⟨#[]⟩ (fun _ => 0)) 30)) (b := w3.heap.size + 1) (by simp) 27 #[.int .i64 0, .int .i64 0]).farRow (k := w3.heap.size) (by omega) (stC r h)
  have hI : HInv W w3.heap.size (w3.heap.size + 1) r h x y ((((w3.alloc (.cells (stC ⟨#[]⟩ (fun _ => 0)) 30)).alloc (.cells #[.int .i64 0, .int .i64 0] 27)).setRow w3.heap.size (stC r h)).setRow (w3.heap.size + 1) #[.int .i64 x, .int .i64 y]) := by
    refine ⟨?_, (hB0.setRow _).farRow (by omega) _, hB6.setRow _, ?_, by omega, by omega, hgW⟩
    · exact G.own (((((hG03.alloc _).alloc _).setRow (.inl (by omega)) _).setRow (.inl (by omega)) _)) (Nat.le_refl _)
    · exact (((hg3.quiet (((G.refl _ _).alloc _).alloc _)).grown (grownBy_setRow _ _ _) (fun e => by have := Option.some.inj e; omega))).grown (grownBy_setRow _ _ _) (fun e => by have := Option.some.inj e; omega)
  have hSB4 : SB ((((w3.alloc (.cells (stC ⟨#[]⟩ (fun _ => 0)) 30)).alloc (.cells #[.int .i64 0, .int .i64 0] 27)).setRow w3.heap.size (stC r h)).setRow (w3.heap.size + 1) #[.int .i64 x, .int .i64 y]) W.heap.size (0 + 40 + 1 + 8) := (((hSB3.alloc _).alloc _).setRow hz3 _).setRow (by omega) _
  have hsz : w3.heap.size + 2 ≤ ((((w3.alloc (.cells (stC ⟨#[]⟩ (fun _ => 0)) 30)).alloc (.cells #[.int .i64 0, .int .i64 0] 27)).setRow w3.heap.size (stC r h)).setRow (w3.heap.size + 1) #[.int .i64 x, .int .i64 y]).heap.size := by simp
  clear hSB3 hG03 hg3
  go_wp2_with (first | (refine wpList_store_row rfl 30 _ _ rfl w3.heap.size (stC r h) rfl rfl 30 _ hB0 (st_info _ _) rfl (st_one _ _) ?_) | (refine wpList_store_row rfl 27 _ _ rfl (w3.heap.size + 1) #[.int .i64 x, .int .i64 y] rfl rfl 27 _ hB6 (wn_info _ _) rfl (wn_one _ _) ?_))
  clear hB0 hB6
  generalize w3.heap.size = b4 at hI hSB4 hz3 hsz ⊢
  go_frame
  generalize hW4 : ((((w3.alloc (.cells (stC ⟨#[]⟩ (fun _ => 0)) 30)).alloc (.cells #[.int .i64 0, .int .i64 0] 27)).setRow b4 (stC r h)).setRow (b4 + 1) #[.int .i64 x, .int .i64 y]) = w4 at hI hSB4 hsz
  have hW5 : ((((w3.alloc (.cells #[.string ⟨#[]⟩, .int .i64 0, .int .i64 0, .int .i64 0, .int .i64 0, .int .i64 0, .int .i64 0, .int .i64 0, .int .i64 0, .int .i64 0, .int .i64 0, .int .i64 0, .int .i64 0, .int .i64 0, .int .i64 0] 30)).alloc (.cells #[.int .i64 0, .int .i64 0] 27)).setRow b4 (stC r h)).setRow (b4 + 1) #[.int .i64 x, .int .i64 y]) = w4 := hW4
  rw [hW5]
  clear hW4 hW5
  go_cut [7] (fun s7 wx => StRes W b4 (b4 + 1) r h x y s7 wx)
  case first =>
    refine wp_region_any (by kernel_rfl) ?_
    change wpAny _ _ _ _ _ _ _ (World.drew _)
    have hI0 := hI.quiet ((G.refl w4 none).drew)
    have hSB0 := hSB4.quiet ((G.refl w4 none).drew)
    have hsz0 : b4 + 2 ≤ w4.drew.heap.size := hsz
    clear hI hSB4 hsz
    generalize w4.drew = w5 at hI0 hSB0 hsz0 ⊢
    refine wpAny_take (i := 0) (v := .pointer (some ⟨W.heap.size, 0, none⟩)) rfl (by kernel_rfl) (by kernel_rfl) (by kernel_rfl) (fun _ _ _ h => h) (Or.inl ⟨by rfl, ?_⟩) ?_
    · intro w; go_simp
    refine ready_two (i := 1) (j := 2) (by kernel_rfl) rfl rfl (fun K hK => ?_) (fun K hK => ?_)
    · refine st_call rfl (f := 8) (args := #[.pointer (some ⟨W.heap.size, 0, none⟩)]) (w1 := w5) (by go_simp) ?_
      refine (stations_c w5 W.heap.size _ hSB0 (by omega)).mono ?_; rintro e w6 ⟨v, l, rfl, hl3, hown, hkeys, hSB6, hG6⟩
      refine ⟨v, rfl, hK _ _ ?_⟩
      clear hK K
      have hI6 := hI0.grown hG6 (fun e => by have := Option.some.inj e; omega) (fun e => by have := Option.some.inj e; omega) (fun k e => by have := Option.some.inj e; omega)
      have hsz6 := hG6.size
      have hown := OwnSts.low hown (Nat.le_succ _)
      refine ready_one (i := 2) (by kernel_rfl) rfl fun K hK => ?_
      refine st_val rfl (v := .agg #[.string r, .int .i64 (h 0), .int .i64 (h 1), .int .i64 (h 2), .int .i64 (h 3), .int .i64 (h 4), .int .i64 (h 5), .int .i64 (h 6), .int .i64 (h 7), .int .i64 (h 8), .int .i64 (h 9), .int .i64 (h 10), .int .i64 (h 11), .int .i64 (h 12), .int .i64 (h 13)]) (w' := w6) (run_load_row rfl b4 rfl 30 _ _ hI6.2.1 Tryd.underlying30 rfl (st_info r h)) ?_
      refine hK _ _ ?_
      clear hK K
      refine ready_one (i := 3) (by kernel_rfl) rfl fun K hK => ?_
      refine st_val rfl (v := .slice (some ⟨w6.heap.size, 0, none⟩) 1 1) (w' := w6.alloc (.cells (stC r h) 30)) (by go_simp; rfl) ?_
      refine hK _ _ ?_
      clear hK K
      refine ready_one (i := 4) (by kernel_rfl) rfl fun K hK => ?_
      refine st_wp rfl (app_fin _ _ rfl w5.heap.size v l rfl (hown.alloc _) w6.heap.size (Bk.new w6 _ _) rfl (by omega) (by simp; omega) (hI6.quiet ((G.refl _ _).alloc _)) (by omega) (by omega) (by have := hI6.2.2.2.2.1; omega) fun v' w9 hrd hI9 => ?_)
      refine hK _ _ ?_
      clear hK K
      refine ready_one (i := 5) (by kernel_rfl) rfl fun K hK => ?_
      refine st_val rfl (v := v') (w' := w9) (by go_simp) ?_
      refine hK _ _ ?_
      clear hK K
      refine wpAny_done (by kernel_rfl) ?_ _
      go_wp2_with fail
      go_meet
      refine ⟨l ++ [(r, h)], hrd, ?_, by simp; omega, hI9⟩
      intro p hp
      rcases List.mem_append.1 hp with hp | hp
      · exact ⟨stskeys_small (hkeys p hp).1, (hkeys p hp).2⟩
      · obtain rfl := List.mem_singleton.1 hp
        exact ⟨stkeys_small hr, hHB⟩
    · refine st_val rfl (v := .agg #[.string r, .int .i64 (h 0), .int .i64 (h 1), .int .i64 (h 2), .int .i64 (h 3), .int .i64 (h 4), .int .i64 (h 5), .int .i64 (h 6), .int .i64 (h 7), .int .i64 (h 8), .int .i64 (h 9), .int .i64 (h 10), .int .i64 (h 11), .int .i64 (h 12), .int .i64 (h 13)]) (w' := w5) (run_load_row rfl b4 rfl 30 _ _ hI0.2.1 Tryd.underlying30 rfl (st_info r h)) ?_
      refine hK _ _ ?_
      clear hK K
      refine ready_two (i := 1) (j := 3) (by kernel_rfl) rfl rfl (fun K hK => ?_) (fun K hK => ?_)
      · refine st_call rfl (f := 8) (args := #[.pointer (some ⟨W.heap.size, 0, none⟩)]) (w1 := w5) (by go_simp) ?_
        refine (stations_c w5 W.heap.size _ hSB0 (by omega)).mono ?_; rintro e w6 ⟨v, l, rfl, hl3, hown, hkeys, hSB6, hG6⟩
        refine ⟨v, rfl, hK _ _ ?_⟩
        clear hK K
        have hI6 := hI0.grown hG6 (fun e => by have := Option.some.inj e; omega) (fun e => by have := Option.some.inj e; omega) (fun k e => by have := Option.some.inj e; omega)
        have hsz6 := hG6.size
        have hown := OwnSts.low hown (Nat.le_succ _)
        refine ready_one (i := 3) (by kernel_rfl) rfl fun K hK => ?_
        refine st_val rfl (v := .slice (some ⟨w6.heap.size, 0, none⟩) 1 1) (w' := w6.alloc (.cells (stC r h) 30)) (by go_simp; rfl) ?_
        refine hK _ _ ?_
        clear hK K
        refine ready_one (i := 4) (by kernel_rfl) rfl fun K hK => ?_
        refine st_wp rfl (app_fin _ _ rfl w5.heap.size v l rfl (hown.alloc _) w6.heap.size (Bk.new w6 _ _) rfl (by omega) (by simp; omega) (hI6.quiet ((G.refl _ _).alloc _)) (by omega) (by omega) (by have := hI6.2.2.2.2.1; omega) fun v' w9 hrd hI9 => ?_)
        refine hK _ _ ?_
        clear hK K
        refine ready_one (i := 5) (by kernel_rfl) rfl fun K hK => ?_
        refine st_val rfl (v := v') (w' := w9) (by go_simp) ?_
        refine hK _ _ ?_
        clear hK K
        refine wpAny_done (by kernel_rfl) ?_ _
        go_wp2_with fail
        go_meet
        refine ⟨l ++ [(r, h)], hrd, ?_, by simp; omega, hI9⟩
        intro p hp
        rcases List.mem_append.1 hp with hp | hp
        · exact ⟨stskeys_small (hkeys p hp).1, (hkeys p hp).2⟩
        · obtain rfl := List.mem_singleton.1 hp
          exact ⟨stkeys_small hr, hHB⟩
      · refine st_val rfl (v := .slice (some ⟨w5.heap.size, 0, none⟩) 1 1) (w' := w5.alloc (.cells (stC r h) 30)) (by go_simp; rfl) ?_
        refine hK _ _ ?_
        clear hK K
        have hB7 := Bk.new w5 30 (stC r h)
        have hI7 := hI0.quiet ((G.refl w5 none).alloc (.cells (stC r h) 30))
        have hSB7 := hSB0.alloc (.cells (stC r h) 30)
        have hz7 : (w5.alloc (.cells (stC r h) 30)).heap.size = w5.heap.size + 1 := by simp
        generalize w5.alloc (.cells (stC r h) 30) = w7 at hB7 hI7 hSB7 hz7 ⊢
        refine ready_one (i := 1) (by kernel_rfl) rfl fun K hK => ?_
        refine st_call rfl (f := 8) (args := #[.pointer (some ⟨W.heap.size, 0, none⟩)]) (w1 := w7) (by go_simp) ?_
        refine (stations_c w7 W.heap.size _ hSB7 (by omega)).mono ?_; rintro e w6 ⟨v, l, rfl, hl3, hown, hkeys, hSB6, hG6⟩
        refine ⟨v, rfl, hK _ _ ?_⟩
        clear hK K
        have hI6 := hI7.grown hG6 (fun e => by have := Option.some.inj e; omega) (fun e => by have := Option.some.inj e; omega) (fun k e => by have := Option.some.inj e; omega)
        have hsz6 := hG6.size
        have hown := OwnSts.low hown (Nat.le_succ _)
        refine ready_one (i := 4) (by kernel_rfl) rfl fun K hK => ?_
        refine st_wp rfl (app_fin _ _ rfl w7.heap.size v l rfl hown w5.heap.size (hB7.grown hG6 (fun e => by have := Option.some.inj e; omega)) rfl (by omega) (by omega) hI6 (by omega) (by omega) (by have := hI6.2.2.2.2.1; omega) fun v' w9 hrd hI9 => ?_)
        refine hK _ _ ?_
        clear hK K
        refine ready_one (i := 5) (by kernel_rfl) rfl fun K hK => ?_
        refine st_val rfl (v := v') (w' := w9) (by go_simp) ?_
        refine hK _ _ ?_
        clear hK K
        refine wpAny_done (by kernel_rfl) ?_ _
        go_wp2_with fail
        go_meet
        refine ⟨l ++ [(r, h)], hrd, ?_, by simp; omega, hI9⟩
        intro p hp
        rcases List.mem_append.1 hp with hp | hp
        · exact ⟨stskeys_small (hkeys p hp).1, (hkeys p hp).2⟩
        · obtain rfl := List.mem_singleton.1 hp
          exact ⟨stkeys_small hr, hHB⟩
  case rest =>
    obtain ⟨l, hrd, hkeys, hl4, hI⟩ := hcut
    have hrs := stkeys_small hr
    have HE := Lib.hid (errs_at r h t)
    have HM := Lib.hid (errs_min r h x y)
    have HB := Lib.hid hHB
    have hB4 := hI.2.1
    clear hr hHB hz3
    go_wp2_with (refine wpList_load_row rfl 30 _ rfl b4 rfl 30 (stC r h) (0, 0) _ hB4 Tryd.underlying30 rfl (st_info _ _) ?_)
    refine (isOpen_c r h t _ hrs HB.out).mono ?_; rintro e w1 ⟨rfl, hG1⟩
    have hI1 := hI.quiet hG1
    have hrd1 := hrd.quiet hG1
    clear hI hrd hB4 hG1
    have hB4 := hI1.2.1
    go_wp2_with (refine wpList_load_row rfl 30 _ rfl b4 rfl 30 (stC r h) (0, 0) _ hB4 Tryd.underlying30 rfl (st_info _ _) ?_)
    refine (nextOpen_c r h t _ hrs HB.out).mono ?_; rintro e w2 ⟨rfl, hG2⟩
    have hI2 := hI1.quiet hG2
    have hrd2 := hrd1.quiet hG2
    clear hI1 hrd1 hB4 hG2
    have hB4 := hI2.2.1
    have hB6 := hI2.2.2.1
    go_wp2_with (first | (refine wpList_load_row rfl 30 _ rfl b4 rfl 30 (stC r h) (0, 0) _ hB4 Tryd.underlying30 rfl (st_info _ _) ?_) | (refine wpList_load_row rfl 27 _ rfl (b4 + 1) rfl 27 #[.int .i64 x, .int .i64 y] (0, 0) _ hB6 Tryd.underlying27 rfl (wn_info _ _) ?_))
    refine (openMinutes_c r h x y _ hrs HB.out).mono ?_; rintro e w3 ⟨rfl, hG3⟩
    have hI3 := hI2.quiet hG3
    have hrd3 := hrd2.quiet hG3
    clear hI2 hrd2 hB4 hB6 hG3
    have HA := Lib.hid (hI3.2.1.at_)
    go_wp2_with (refine wpList_load_at rfl 30 _ rfl ⟨b4, 0, none⟩ rfl #[.string r, .int .i64 (h 0), .int .i64 (h 1), .int .i64 (h 2), .int .i64 (h 3), .int .i64 (h 4), .int .i64 (h 5), .int .i64 (h 6), .int .i64 (h 7), .int .i64 (h 8), .int .i64 (h 9), .int .i64 (h 10), .int .i64 (h 11), .int .i64 (h 12), .int .i64 (h 13)] _ HA.out Tryd.underlying30 rfl (st_info _ _) ?_)
    refine (stationsFault_c _ [(r, h)] _ (rd_one r h rfl) ?_ (by simp)).mono ?_
    · intro p hp
      obtain rfl := List.mem_singleton.1 hp
      exact ⟨hrs, HB.out⟩
    rintro e w4 ⟨rfl, hG4⟩
    have hG4' := ((G.refl w3 none).alloc (.cells (stC r h) 30)).trans hG4
    have hI4 := hI3.quiet hG4'
    have hrd4 := hrd3.quiet hG4'
    clear hI3 hrd3 hG4 hG4' HA
    go_wp2_with fail
    refine (momentFault_c t _).mono ?_; rintro e w' ⟨rfl, rfl⟩
    go_wp2_with fail
    refine (errs_c [stErr [(r, h)], momE t] _ _ (Rd.new #[.int .i64 (stErr [(r, h)]), .int .i64 (momE t)] rfl (by show 2 ≤ maxLen; decide)) (by simp)).mono ?_; rintro e w' ⟨rfl, rfl⟩
    rw [HE.out]
    have hI5 := hI4.quiet ((G.refl w4 none).alloc (.cells #[.int .i64 (stErr [(r, h)]), .int .i64 (momE t)] 36))
    have hrd5 := hrd4.quiet ((G.refl w4 none).alloc (.cells #[.int .i64 (stErr [(r, h)]), .int .i64 (momE t)] 36))
    clear hI4 hrd4
    generalize w4.alloc (.cells #[.int .i64 (stErr [(r, h)]), .int .i64 (momE t)] 36) = w5 at hI5 hrd5 ⊢
    by_cases h0 : atE r h t = 0
    · obtain ⟨t0, t2, hst⟩ := atE_mom h0
      obtain ⟨t, rfl⟩ := Int.eq_ofNat_of_zero_le t0
      have HOK := Lib.hid (okHrs_of hst)
      have HIO : Hid (isOpenR r h (t : Int) = opB h t) := Lib.hid (by simp [isOpenR, h0])
      have htn : t < 5761440 := by omega
      clear HE ht0 ht1 t0 t2
      rw [HIO.out, h0]
      cases hno : nextO h t with
      | some m =>
        have HNR : Hid (nextR r h (t : Int) = (m, 0)) := Lib.hid (by simp [nextR, h0, hno])
        have HNO := Lib.hid hno
        clear hno h0 hst
        rw [HNR.out]
        have hB4 := hI5.2.1
        go_wp2_with (refine wpList_load_row rfl 30 _ rfl b4 rfl 30 (stC r h) (0, 0) _ hB4 Tryd.underlying30 rfl (st_info _ _) ?_)
        refine (nextOpenOf_c r h t _ HB.out HOK.out htn).mono ?_; rintro e w6 ⟨rfl, hG6⟩
        rw [HNO.out]
        have hI6 := hI5.quiet hG6
        have hrd6 := hrd5.quiet hG6
        clear hI5 hrd5 hG6 hB4
        have hB6 := hI6.2.2.1
        unfold nofV
        go_wp2_with fail
        refine (when_c _ _ _).mono ?_; rintro e w' ⟨rfl, rfl⟩
        simp only [Bool.false_eq_true, if_false]
        go_wp2_with (refine wpList_load_row rfl 27 _ rfl (b4 + 1) rfl 27 #[.int .i64 x, .int .i64 y] (0, 0) _ hB6 Tryd.underlying27 rfl (wn_info _ _) ?_)
        refine (windowFault_c x y _).mono ?_; rintro e w7 ⟨rfl, hG7⟩
        have hI7 := hI6.quiet hG7
        have hrd7 := hrd6.quiet hG7
        clear hI6 hrd6 hG7 hB6
        go_wp2_with fail
        refine (errs_c [stErr [(r, h)], winE x y] _ _ (Rd.new #[.int .i64 (stErr [(r, h)]), .int .i64 (winE x y)] rfl (by show 2 ≤ maxLen; decide)) (by simp)).mono ?_; rintro e w' ⟨rfl, rfl⟩
        rw [HM.out]
        have hI8 := hI7.quiet ((G.refl w7 none).alloc (.cells #[.int .i64 (stErr [(r, h)]), .int .i64 (winE x y)] 36))
        have hrd8 := hrd7.quiet ((G.refl w7 none).alloc (.cells #[.int .i64 (stErr [(r, h)]), .int .i64 (winE x y)] 36))
        clear hI7 hrd7
        generalize w7.alloc (.cells #[.int .i64 (stErr [(r, h)]), .int .i64 (winE x y)] 36) = w8 at hI8 hrd8 ⊢
        go_wp2_with fail
        refine (checkStations_c u7 l _ hrd8 hkeys (by omega)).mono ?_; rintro e w9 ⟨rfl, hG9⟩
        have hI9 := hI8.quiet hG9
        have hrd9 := hrd8.quiet hG9
        clear hI8 hrd8 hG9
        go_wp2_with fail
        refine (stationsFault_c u7 l _ hrd9 hkeys (by omega)).mono ?_; rintro e w10 ⟨rfl, hG10⟩
        have hI10 := hI9.quiet hG10
        clear hI9 hrd9 hG10
        have HA := Lib.hid (hI10.2.1.at_)
        go_wp2_with (refine wpList_load_at_g rfl 30 _ rfl ⟨b4, 0, none⟩ rfl (stC r h) _ HA.out Tryd.underlying30 rfl (st_info r h) ?_)
        refine (openAt_c r h t _ HB.out htn).mono ?_; rintro e w11 ⟨rfl, hG11⟩
        have hI11 := hI10.quiet hG11
        clear hI10 hG11 HA
        by_cases h3 : minE r h x y = 0
        · obtain ⟨x2, y2, hxy, hmr⟩ := minE_win h3
          obtain ⟨x, rfl⟩ := Int.eq_ofNat_of_zero_le x2
          obtain ⟨y, rfl⟩ := Int.eq_ofNat_of_zero_le (show 0 ≤ y by omega)
          have hxy' : x ≤ y := by omega
          have hy' : y ≤ 5761440 := by omega
          rw [h3, hmr]
          simp only [Int.toNat_natCast]
          clear h3 hmr x0 x1 y0 y1 x2 y2 hxy HM
          have HA := Lib.hid (hI11.2.1.at_)
          have HW := Lib.hid (hI11.2.2.1.at_)
          go_wp2_with (first | (refine wpList_load_at_g rfl 30 _ rfl ⟨b4, 0, none⟩ rfl (stC r h) _ HA.out Tryd.underlying30 rfl (st_info r h) ?_) | (refine wpList_load_at_g rfl 27 _ rfl ⟨b4 + 1, 0, none⟩ rfl #[.int .i64 (x : Int), .int .i64 (y : Int)] _ HW.out Tryd.underlying27 rfl (wn_info _ _) ?_))
          refine (openIn_c r h x y _ HB.out hxy' hy').mono ?_; rintro e w12 ⟨rfl, hG12⟩
          have hI12 := hI11.quiet hG12
          clear hI11 hG12
          go_wp2_with fail
          refine (lots_c _ hI12.2.2.2.1).mono ?_; rintro e w13 ⟨rfl, hG13⟩
          go_wp2_with fail
          go_ret
          exact ⟨rfl, hI12.1.trans hG13⟩
        · have hmr : minR r h x y = 0 := by simp [minR, h3]
          rw [hmr]
          clear hmr
          have h4 : (minE r h x y == 0) = false := by simpa using h3
          have h5 : (minE r h x y != 0) = true := by simpa using h3
          clear h3 HM
          generalize minE r h x y = E3 at h4 h5 ⊢
          go_wp2_with fail
          refine (lots_c _ hI11.2.2.2.1).mono ?_; rintro e w13 ⟨rfl, hG13⟩
          go_wp2_with fail
          go_ret
          exact ⟨rfl, hI11.1.trans hG13⟩
      | none =>
        have HNR : Hid (nextR r h (t : Int) = (0, 8)) := Lib.hid (by simp [nextR, h0, hno])
        have HNO := Lib.hid hno
        clear hno h0 hst
        rw [HNR.out]
        have hB4 := hI5.2.1
        go_wp2_with (refine wpList_load_row rfl 30 _ rfl b4 rfl 30 (stC r h) (0, 0) _ hB4 Tryd.underlying30 rfl (st_info _ _) ?_)
        refine (nextOpenOf_c r h t _ HB.out HOK.out htn).mono ?_; rintro e w6 ⟨rfl, hG6⟩
        rw [HNO.out]
        have hI6 := hI5.quiet hG6
        have hrd6 := hrd5.quiet hG6
        clear hI5 hrd5 hG6 hB4
        have hB6 := hI6.2.2.1
        unfold nofV
        go_wp2_with fail
        refine (when_c _ _ _).mono ?_; rintro e w' ⟨rfl, rfl⟩
        simp only [if_true]
        go_wp2_with (refine wpList_load_row rfl 27 _ rfl (b4 + 1) rfl 27 #[.int .i64 x, .int .i64 y] (0, 0) _ hB6 Tryd.underlying27 rfl (wn_info _ _) ?_)
        refine (windowFault_c x y _).mono ?_; rintro e w7 ⟨rfl, hG7⟩
        have hI7 := hI6.quiet hG7
        have hrd7 := hrd6.quiet hG7
        clear hI6 hrd6 hG7 hB6
        go_wp2_with fail
        refine (errs_c [stErr [(r, h)], winE x y] _ _ (Rd.new #[.int .i64 (stErr [(r, h)]), .int .i64 (winE x y)] rfl (by show 2 ≤ maxLen; decide)) (by simp)).mono ?_; rintro e w' ⟨rfl, rfl⟩
        rw [HM.out]
        have hI8 := hI7.quiet ((G.refl w7 none).alloc (.cells #[.int .i64 (stErr [(r, h)]), .int .i64 (winE x y)] 36))
        have hrd8 := hrd7.quiet ((G.refl w7 none).alloc (.cells #[.int .i64 (stErr [(r, h)]), .int .i64 (winE x y)] 36))
        clear hI7 hrd7
        generalize w7.alloc (.cells #[.int .i64 (stErr [(r, h)]), .int .i64 (winE x y)] 36) = w8 at hI8 hrd8 ⊢
        go_wp2_with fail
        refine (checkStations_c u7 l _ hrd8 hkeys (by omega)).mono ?_; rintro e w9 ⟨rfl, hG9⟩
        have hI9 := hI8.quiet hG9
        have hrd9 := hrd8.quiet hG9
        clear hI8 hrd8 hG9
        go_wp2_with fail
        refine (stationsFault_c u7 l _ hrd9 hkeys (by omega)).mono ?_; rintro e w10 ⟨rfl, hG10⟩
        have hI10 := hI9.quiet hG10
        clear hI9 hrd9 hG10
        have HA := Lib.hid (hI10.2.1.at_)
        go_wp2_with (refine wpList_load_at_g rfl 30 _ rfl ⟨b4, 0, none⟩ rfl (stC r h) _ HA.out Tryd.underlying30 rfl (st_info r h) ?_)
        refine (openAt_c r h t _ HB.out htn).mono ?_; rintro e w11 ⟨rfl, hG11⟩
        have hI11 := hI10.quiet hG11
        clear hI10 hG11 HA
        by_cases h3 : minE r h x y = 0
        · obtain ⟨x2, y2, hxy, hmr⟩ := minE_win h3
          obtain ⟨x, rfl⟩ := Int.eq_ofNat_of_zero_le x2
          obtain ⟨y, rfl⟩ := Int.eq_ofNat_of_zero_le (show 0 ≤ y by omega)
          have hxy' : x ≤ y := by omega
          have hy' : y ≤ 5761440 := by omega
          rw [h3, hmr]
          simp only [Int.toNat_natCast]
          clear h3 hmr x0 x1 y0 y1 x2 y2 hxy HM
          have HA := Lib.hid (hI11.2.1.at_)
          have HW := Lib.hid (hI11.2.2.1.at_)
          go_wp2_with (first | (refine wpList_load_at_g rfl 30 _ rfl ⟨b4, 0, none⟩ rfl (stC r h) _ HA.out Tryd.underlying30 rfl (st_info r h) ?_) | (refine wpList_load_at_g rfl 27 _ rfl ⟨b4 + 1, 0, none⟩ rfl #[.int .i64 (x : Int), .int .i64 (y : Int)] _ HW.out Tryd.underlying27 rfl (wn_info _ _) ?_))
          refine (openIn_c r h x y _ HB.out hxy' hy').mono ?_; rintro e w12 ⟨rfl, hG12⟩
          have hI12 := hI11.quiet hG12
          clear hI11 hG12
          go_wp2_with fail
          refine (lots_c _ hI12.2.2.2.1).mono ?_; rintro e w13 ⟨rfl, hG13⟩
          go_wp2_with fail
          go_ret
          exact ⟨rfl, hI12.1.trans hG13⟩
        · have hmr : minR r h x y = 0 := by simp [minR, h3]
          rw [hmr]
          clear hmr
          have h4 : (minE r h x y == 0) = false := by simpa using h3
          have h5 : (minE r h x y != 0) = true := by simpa using h3
          clear h3 HM
          generalize minE r h x y = E3 at h4 h5 ⊢
          go_wp2_with fail
          refine (lots_c _ hI11.2.2.2.1).mono ?_; rintro e w13 ⟨rfl, hG13⟩
          go_wp2_with fail
          go_ret
          exact ⟨rfl, hI11.1.trans hG13⟩
    · have hn : nextR r h t = (0, atE r h t) := by simp [nextR, h0]
      have hi : isOpenR r h t = false := by simp [isOpenR, h0]
      rw [hn, hi]
      clear hn hi HE
      have h1 : (atE r h t == 0) = false := by simpa using h0
      have h2 : (atE r h t != 0) = true := by simpa using h0
      clear h0
      generalize atE r h t = E at h1 h2 ⊢
      have hI6 := hI5
      have hrd6 := hrd5
      clear hI5 hrd5
      have hB6 := hI6.2.2.1
      go_wp2_with (refine wpList_load_row rfl 27 _ rfl (b4 + 1) rfl 27 #[.int .i64 x, .int .i64 y] (0, 0) _ hB6 Tryd.underlying27 rfl (wn_info _ _) ?_)
      refine (windowFault_c x y _).mono ?_; rintro e w7 ⟨rfl, hG7⟩
      have hI7 := hI6.quiet hG7
      have hrd7 := hrd6.quiet hG7
      clear hI6 hrd6 hG7 hB6
      go_wp2_with fail
      refine (errs_c [stErr [(r, h)], winE x y] _ _ (Rd.new #[.int .i64 (stErr [(r, h)]), .int .i64 (winE x y)] rfl (by show 2 ≤ maxLen; decide)) (by simp)).mono ?_; rintro e w' ⟨rfl, rfl⟩
      rw [HM.out]
      have hI8 := hI7.quiet ((G.refl w7 none).alloc (.cells #[.int .i64 (stErr [(r, h)]), .int .i64 (winE x y)] 36))
      have hrd8 := hrd7.quiet ((G.refl w7 none).alloc (.cells #[.int .i64 (stErr [(r, h)]), .int .i64 (winE x y)] 36))
      clear hI7 hrd7
      generalize w7.alloc (.cells #[.int .i64 (stErr [(r, h)]), .int .i64 (winE x y)] 36) = w8 at hI8 hrd8 ⊢
      go_wp2_with fail
      refine (checkStations_c u7 l _ hrd8 hkeys (by omega)).mono ?_; rintro e w9 ⟨rfl, hG9⟩
      have hI9 := hI8.quiet hG9
      have hrd9 := hrd8.quiet hG9
      clear hI8 hrd8 hG9
      go_wp2_with fail
      refine (stationsFault_c u7 l _ hrd9 hkeys (by omega)).mono ?_; rintro e w10 ⟨rfl, hG10⟩
      have hI10 := hI9.quiet hG10
      clear hI9 hrd9 hG10
      have hI11 := hI10
      clear hI10
      by_cases h3 : minE r h x y = 0
      · obtain ⟨x2, y2, hxy, hmr⟩ := minE_win h3
        obtain ⟨x, rfl⟩ := Int.eq_ofNat_of_zero_le x2
        obtain ⟨y, rfl⟩ := Int.eq_ofNat_of_zero_le (show 0 ≤ y by omega)
        have hxy' : x ≤ y := by omega
        have hy' : y ≤ 5761440 := by omega
        rw [h3, hmr]
        simp only [Int.toNat_natCast]
        clear h3 hmr x0 x1 y0 y1 x2 y2 hxy HM
        have HA := Lib.hid (hI11.2.1.at_)
        have HW := Lib.hid (hI11.2.2.1.at_)
        go_wp2_with (first | (refine wpList_load_at_g rfl 30 _ rfl ⟨b4, 0, none⟩ rfl (stC r h) _ HA.out Tryd.underlying30 rfl (st_info r h) ?_) | (refine wpList_load_at_g rfl 27 _ rfl ⟨b4 + 1, 0, none⟩ rfl #[.int .i64 (x : Int), .int .i64 (y : Int)] _ HW.out Tryd.underlying27 rfl (wn_info _ _) ?_))
        refine (openIn_c r h x y _ HB.out hxy' hy').mono ?_; rintro e w12 ⟨rfl, hG12⟩
        have hI12 := hI11.quiet hG12
        clear hI11 hG12
        go_wp2_with fail
        refine (lots_c _ hI12.2.2.2.1).mono ?_; rintro e w13 ⟨rfl, hG13⟩
        go_wp2_with fail
        go_ret
        exact ⟨rfl, hI12.1.trans hG13⟩
      · have hmr : minR r h x y = 0 := by simp [minR, h3]
        rw [hmr]
        clear hmr
        have h4 : (minE r h x y == 0) = false := by simpa using h3
        have h5 : (minE r h x y != 0) = true := by simpa using h3
        clear h3 HM
        generalize minE r h x y = E3 at h4 h5 ⊢
        go_wp2_with fail
        refine (lots_c _ hI11.2.2.2.1).mono ?_; rintro e w13 ⟨rfl, hG13⟩
        go_wp2_with fail
        go_ret
        exact ⟨rfl, hI11.1.trans hG13⟩
end Go.Proofs.YtbddcbbjmgepnaaDoor
