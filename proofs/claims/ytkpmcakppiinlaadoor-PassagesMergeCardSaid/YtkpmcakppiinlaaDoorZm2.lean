/- Soi, Rat, Spc, Spd, Tlr, Pas, Sop, Cle, Cmf. -/
import Derived.Test.YtkpmcakppiinlaaDoorZm1
import Derived.StillTailTactics
import Derived.Deep.MidRow
import Derived.Laws.IdiomCopy
import Derived.Laws.OwnMore
/- slices.SortStableFunc at ints, fewer than 20: insertion. Written by gensoi.py. -/
namespace Go.Proofs.YtkpmcakppiinlaaDoor
open Go.RowKit

def inC (n : Int) : Array Value := #[.int .i64 n]
theorem inC_sz (n : Int) : (inC n).size = 1 := rfl
theorem in_rowL (l : List Int) : rowL inC l = l.map (Value.int .i64) := by
  induction l with
  | nil => rfl
  | cons s l ih => rw [rowL_cons, ih]; rfl
theorem in_rowOk : RowOk Tryd.prog 3 22 1 8 (.int .i64 0) inC := ⟨by kernel_rfl, Tryd.underlying22, fun r u hu => by simp [inC] at hu; subst hu; rfl, inC_sz, rfl, by omega, by omega⟩
abbrev OwnIn (w : World) (base : Nat) (v : Value) (l : List Int) : Prop := OwnX 3 1 inC w base v l
theorem OwnX.form0 {α : Type} {T : TypeId} {z : Nat} {c : α → Array Value} {w : World} {base : Nat} {v : Value} {l : List α} (h : OwnX T z c w base v l) (h0 : 0 < l.length) : ∃ g cap cur, v = .slice (some ⟨g, 0, none⟩) l.length cap ∧ Bk w g T cur := by
  rcases h.2 with ⟨rfl, h3⟩ | ⟨g, cap, cur, rfl, hb, hg, _⟩
  · omega
  · exact ⟨g, cap, cur, rfl, hg⟩
/-- One number moves down as far as it is less than the one before it. -/
def insJ {α : Type} (c : α → α → Bool) : Nat → List α → List α
  | 0, l => l
  | j + 1, l => match l[j + 1]?, l[j]? with
    | some x, some y => if c x y = true then insJ c j ((l.set (j + 1) y).set j x) else l
    | _, _ => l
/-- The numbers from a place on move down, one after the other. -/
def isF {α : Type} (c : α → α → Bool) : Nat → Nat → List α → List α
  | 0, _, l => l
  | n + 1, i, l => isF c n (i + 1) (insJ c i l)
def isrt {α : Type} (c : α → α → Bool) (l : List α) : List α := isF c (l.length - 1) 1 l
theorem insJ_len {α : Type} (c : α → α → Bool) : ∀ (j : Nat) (l : List α), (insJ c j l).length = l.length
  | 0, _ => rfl
  | j + 1, l => by
    unfold insJ
    split
    · split
      · rw [insJ_len c j]; simp
      · rfl
    · rfl
theorem isF_len {α : Type} (c : α → α → Bool) : ∀ (n i : Nat) (l : List α), (isF c n i l).length = l.length
  | 0, _, _ => rfl
  | n + 1, i, l => by rw [isF, isF_len c n, insJ_len]
theorem soi_set {w : World} {base g n cap : Nat} {l : List Int} (h : OwnIn w base (.slice (some ⟨g, 0, none⟩) n cap) l) (hl : l.length = n) {j : Nat} {x : Int} (hx : l[j]? = some x) (y : Int) : OwnIn (w.setCell ⟨g, j, none⟩ (.int .i64 y)) base (.slice (some ⟨g, 0, none⟩) n cap) (l.set j y) := by
  subst hl
  have h2 := OwnX.set (c := inC) inC_sz h hx 0 (.int .i64 y) (by omega) (q := y) rfl
  unfold OwnIn OwnX
  rw [List.length_set]
  simpa using h2
theorem soi_free {w : World} {base g n cap : Nat} {l : List Int} (h : OwnIn w base (.slice (some ⟨g, 0, none⟩) n cap) l) (hl : l.length = n) (j : Nat) : w.frozen? ⟨g, j, none⟩ = false := by
  subst hl
  exact ownsRow_free h j
/-- What may be written: the list's own block. -/
def S1 (v : Value) (k : Nat) : Prop := v.ownBlock = some k
def SoRel (w : World) (base : Nat) (v : Value) (c : Int → Int → Bool) (l0 : List Int) (s8 : Value) (wr : World) : Prop :=
  ∃ (i : Nat) (l : List Int), 1 ≤ i ∧ i ≤ max l0.length 1 ∧ s8 = .int .i64 i ∧ isrt c l0 = isF c (l0.length - i) i l ∧ l.length = l0.length ∧ (∀ z ∈ l, z ∈ l0) ∧ OwnIn wr base v l ∧ GS (S1 v) w wr
def SiRel (w : World) (base : Nat) (v : Value) (c : Int → Int → Bool) (l0 : List Int) (i : Nat) (li : List Int) (s9 : Value) (wr : World) : Prop :=
  ∃ (j : Nat) (l : List Int), j ≤ i ∧ s9 = .int .i64 j ∧ insJ c i li = insJ c j l ∧ l.length = l0.length ∧ (∀ z ∈ l, z ∈ l0) ∧ OwnIn wr base v l ∧ GS (S1 v) w wr
end Go.Proofs.YtkpmcakppiinlaaDoor

/- Rates: compareRates, checkRate. -/
namespace Go.Proofs.YtkpmcakppiinlaaDoor
open Go.RowKit

/-- A rate: class, from, to, hour, day, weekend, week. -/
abbrev Ra := ByteArray × Int × Int × Int × Int × Int × Int
def raC (x : Ra) : Array Value := #[.string x.1, .int .i64 x.2.1, .int .i64 x.2.2.1, .int .i64 x.2.2.2.1, .int .i64 x.2.2.2.2.1, .int .i64 x.2.2.2.2.2.1, .int .i64 x.2.2.2.2.2.2]
theorem raC_sz (x : Ra) : (raC x).size = 7 := rfl
def raB (x : Ra) : Prop := Small x.1 ∧ bnd x.2.1 ∧ bnd x.2.2.1 ∧ bnd x.2.2.2.1 ∧ bnd x.2.2.2.2.1 ∧ bnd x.2.2.2.2.2.1 ∧ bnd x.2.2.2.2.2.2
def RaOk (l : List Ra) : Prop := ∀ x ∈ l, raB x
def cmpS (x y : Int) : Int := if x < y then -1 else if y < x then 1 else 0
def cmpR (x y : Ra) : Int := orI (cmpI x.1 y.1) (cmpS x.2.1 y.2.1)
set_option maxRecDepth 100000 in
theorem isNaN_c (x : Int) (w : World) : Calls Tryd.prog 65 #[.int .i64 x] w fun e w' => e = .returned (.bool false) ∧ w = w' := by
  go_enter Tryd.func65, Tryd.ntmps65
  go_wp2_with fail
  go_ret
  exact ⟨ret_bool (by simp), rfl⟩
set_option maxRecDepth 100000 in
theorem cmpInt_c (x y : Int) (w : World) : Calls Tryd.prog 50 #[.int .i64 x, .int .i64 y] w fun e w' => e = .returned (.int .i64 (cmpS x y)) ∧ w = w' := by
  rcases (show x < y ∨ y < x ∨ x = y by omega) with h | h | h
  · have HF : Hid (cmpS x y = -1) := Lib.hid (by simp [cmpS, h])
    go_enter Tryd.func50, Tryd.ntmps50
    go_wp2_with fail
    refine (isNaN_c _ _).mono ?_; rintro e w' ⟨rfl, rfl⟩
    go_wp2_with fail
    refine (isNaN_c _ _).mono ?_; rintro e w' ⟨rfl, rfl⟩
    go_wp2_with fail
    go_ret
    exact ⟨by rw [HF.out]; rfl, rfl⟩
  · have HF : Hid (cmpS x y = 1) := Lib.hid (by rw [cmpS, if_neg (by omega), if_pos h])
    go_enter Tryd.func50, Tryd.ntmps50
    go_wp2_with fail
    refine (isNaN_c _ _).mono ?_; rintro e w' ⟨rfl, rfl⟩
    go_wp2_with fail
    refine (isNaN_c _ _).mono ?_; rintro e w' ⟨rfl, rfl⟩
    go_wp2_with fail
    go_ret
    exact ⟨by rw [HF.out]; rfl, rfl⟩
  · have HF : Hid (cmpS x y = 0) := Lib.hid (by rw [cmpS, if_neg (by omega), if_neg (by omega)])
    go_enter Tryd.func50, Tryd.ntmps50
    go_wp2_with fail
    refine (isNaN_c _ _).mono ?_; rintro e w' ⟨rfl, rfl⟩
    go_wp2_with fail
    refine (isNaN_c _ _).mono ?_; rintro e w' ⟨rfl, rfl⟩
    go_wp2_with fail
    go_ret
    exact ⟨by rw [HF.out]; rfl, rfl⟩
def spanB (a z : Int) : Bool := decide (0 ≤ a) && (decide (a < z) && decide (z ≤ 4001))
def priceB (h d e v : Int) : Bool := inB h (-1) 1000000 && (inB d (-1) 1000000 && (inB e (-1) 1000000 && inB v (-1) 1000000))
def chE (x : Ra) : Int := if keyB x.1 = false then 5 else if spanB x.2.1 x.2.2.1 = false then 1 else if priceB x.2.2.2.1 x.2.2.2.2.1 x.2.2.2.2.2.1 x.2.2.2.2.2.2 = false then 1 else 0
end Go.Proofs.YtkpmcakppiinlaaDoor

/- Cents that are divided: mark.checkSplit, rentref2.SplitFault, cmp.Compare of ints. -/
namespace Go.Proofs.YtkpmcakppiinlaaDoor
open Go.RowKit

def spA (ws : List Int) : Bool := ws.all fun n => inB n 0 5761440
def spE (c : Int) (ws : List Int) : Int := if inB c 0 1000000000 = false then 1 else if 50 < ws.length then 2 else if spA ws = false then 1 else if ws.sum = 0 then 8 else 0
def spS (c : Int) (ws : List Int) : Int := if spE c ws = 0 then ws.sum else 0
abbrev RdI (w : World) (v : Value) (l : List Int) : Prop := RdR w 1 inC v l
theorem sum_take_succ (l : List Int) (k : Nat) (p : Int) (hp : l[k]? = some p) : (l.take (k + 1)).sum = (l.take k).sum + p := by
  rw [List.take_add_one, hp, List.sum_append]; simp
theorem spA_bnd {l : List Int} (h : ∀ n ∈ l, inB n 0 5761440 = true) : 0 ≤ l.sum ∧ l.sum ≤ 5761440 * (l.length : Int) := by
  induction l with
  | nil => simp
  | cons a r ih =>
    have h1 := h a List.mem_cons_self
    have h2 := ih (fun n hn => h n (List.mem_cons_of_mem _ hn))
    unfold inB at h1
    simp at h1
    simp only [List.sum_cons, List.length_cons]
    push_cast
    omega
theorem spA_false {l : List Int} {k : Nat} {p : Int} (hp : l[k]? = some p) (h : inB p 0 5761440 = false) : spA l = false := by
  unfold spA
  rw [Bool.eq_false_iff]
  intro q
  have := List.all_eq_true.1 q p (List.mem_of_getElem? hp)
  rw [h] at this
  cases this
def CspRel (w : World) (ws : List Int) (s6 i : Value) (wr : World) : Prop :=
  ∃ k : Nat, k ≤ ws.length ∧ i = .int .i64 k ∧ s6 = .int .i64 (ws.take k).sum ∧ (∀ n ∈ ws.take k, inB n 0 5761440 = true) ∧ G w wr none
theorem take_mem {l : List Int} {k : Nat} {p : Int} (hp : l[k]? = some p) (h : ∀ n ∈ l.take k, inB n 0 5761440 = true) (hb : inB p 0 5761440 = true) : ∀ n ∈ l.take (k + 1), inB n 0 5761440 = true := fun n hn => by
  rw [List.take_add_one, hp] at hn
  rcases List.mem_append.1 hn with hn | hn
  · exact h n hn
  · simp at hn; rw [hn]; exact hb
/-- What cmp.Compare returns. -/
def cpI (a b : Int) : Int := if a < b then -1 else if b < a then 1 else 0
set_option maxRecDepth 100000 in
set_option maxHeartbeats 2000000 in
theorem isNaNi_c (n : Int) (w : World) : Calls Tryd.prog 65 #[.int .i64 n] w fun e w' => e = .returned (.bool false) ∧ w = w' := by
  have h : (n != n) = false := by simp
  go_enter Tryd.func65, Tryd.ntmps65
  go_wp2_with fail
  go_ret
  exact ⟨rfl, rfl⟩
set_option maxRecDepth 100000 in
set_option maxHeartbeats 2000000 in
theorem compareI_c (a b : Int) (w : World) : Calls Tryd.prog 50 #[.int .i64 a, .int .i64 b] w fun e w' => e = .returned (.int .i64 (cpI a b)) ∧ w = w' := by
  obtain ⟨R, hR⟩ : ∃ R, cpI a b = R := ⟨_, rfl⟩
  have HR : Hid (R = if a < b then -1 else if b < a then 1 else 0) := Lib.hid (by rw [← hR]; rfl)
  rw [hR]
  clear hR
  go_enter Tryd.func50, Tryd.ntmps50
  go_wp2_with fail
  refine (isNaNi_c _ _).mono ?_; rintro e w' ⟨rfl, rfl⟩
  go_wp2_with fail
  refine (isNaNi_c _ _).mono ?_; rintro e w' ⟨rfl, rfl⟩
  by_cases h1 : a < b
  · obtain rfl : R = -1 := by rw [HR.out, if_pos h1]
    clear HR
    go_wp2_with fail
    go_ret
    exact ⟨rfl, rfl⟩
  · by_cases h2 : b < a
    · obtain rfl : R = 1 := by rw [HR.out, if_neg h1, if_pos h2]
      clear HR
      go_wp2_with fail
      go_ret
      exact ⟨rfl, rfl⟩
    · obtain rfl : R = 0 := by rw [HR.out, if_neg h1, if_neg h2]
      clear HR
      go_wp2_with fail
      go_ret
      exact ⟨rfl, rfl⟩
end Go.Proofs.YtkpmcakppiinlaaDoor

/- Cents that are divided: the reference's check; the functions that Split hands on. Written by genspd.py. -/
namespace Go.Proofs.YtkpmcakppiinlaaDoor
open Go.RowKit

set_option maxRecDepth 100000 in
theorem in2_c (a lo hi : Int) (w : World) : Calls Tryd.prog 37 #[.int .i64 a, .int .i64 lo, .int .i64 hi] w fun e w' => e = .returned (.bool (inB a lo hi)) ∧ w = w' := by
  by_cases h1 : lo ≤ a
  · by_cases h2 : a ≤ hi
    · have HF : Hid (inB a lo hi = true) := Lib.hid (by simp [inB, h1, h2])
      go_enter Tryd.func37, Tryd.ntmps37
      go_wp2_with fail
      go_ret
      exact ⟨by rw [HF.out]; rfl, rfl⟩
    · have HF : Hid (inB a lo hi = false) := Lib.hid (by simp [inB, h2])
      go_enter Tryd.func37, Tryd.ntmps37
      go_wp2_with fail
      go_ret
      exact ⟨by rw [HF.out]; rfl, rfl⟩
  · have HF : Hid (inB a lo hi = false) := Lib.hid (by simp [inB, h1])
    go_enter Tryd.func37, Tryd.ntmps37
    go_wp2_with fail
    go_ret
    exact ⟨by rw [HF.out]; rfl, rfl⟩
theorem spE_ok {c : Int} {ws : List Int} (h : spE c ws = 0) : (0 ≤ c ∧ c ≤ 1000000000) ∧ ws.length ≤ 50 ∧ (∀ n ∈ ws, inB n 0 5761440 = true) ∧ ws.sum ≠ 0 := by
  unfold spE at h
  split at h
  · cases h
  · next h1 =>
    split at h
    · cases h
    · next h2 =>
      split at h
      · cases h
      · next h3 =>
        split at h
        · cases h
        · next h4 =>
          refine ⟨by have : inB c 0 1000000000 = true := by simpa using h1
                     unfold inB at this; simpa using this, by omega, ?_, h4⟩
          have h5 : spA ws = true := by simpa using h3
          exact List.all_eq_true.1 h5
/-- What is left over of a part. -/
def restI (c : Int) (ws : List Int) (i : Nat) : Int := c * (ws.getD i 0) % ws.sum
def ArgsI (w : World) (gC gW gS : Nat) (c s : Int) (v : Value) : Prop := Bk w gC 3 #[.int .i64 c] ∧ Bk w gW 22 #[v] ∧ Bk w gS 3 #[.int .i64 s]
end Go.Proofs.YtkpmcakppiinlaaDoor

/- The rules of tolls: their checks. Written by gentlr.py. -/
namespace Go.Proofs.YtkpmcakppiinlaaDoor
open Go.RowKit

/-- The rules of tolls: double, cap, fee. -/
abbrev Tr := Int × Int × Int
def trC (x : Tr) : Array Value := #[.int .i64 x.1, .int .i64 x.2.1, .int .i64 x.2.2]
def trE (x : Tr) : Int := if inB x.1 0 1440 = false then 1 else if inB x.2.1 (-1) 1000000 = false then 1 else if inB x.2.2 0 1000000 = false then 1 else 0
theorem isRate_c (n : Int) (w : World) : Calls Tryd.prog 58 #[.int .i64 n] w fun e w' => e = .returned (.bool (inB n 0 1000000)) ∧ w = w' := by
  go_enter Tryd.func58, Tryd.ntmps58
  go_wp2_with fail
  refine (within_c n 0 1000000 _).mono ?_; rintro e w' ⟨rfl, rfl⟩
  go_wp2_with fail
  go_ret
  exact ⟨rfl, rfl⟩
def kn (s : ByteArray) : Bool := decide (s = ⟨#[]⟩) || keyB s
set_option maxRecDepth 100000 in
set_option maxHeartbeats 2000000 in
theorem tollRules_c (x : Tr) (w : World) : Calls Tryd.prog 68 #[.agg (trC x)] w fun e w' => e = .returned (.int .i64 (trE x)) ∧ G w w' none := by
  obtain ⟨d, c, f⟩ := x
  have HE := Lib.hid (show trE (d, c, f) = if inB d 0 1440 = false then 1 else if inB c (-1) 1000000 = false then 1 else if inB f 0 1000000 = false then 1 else 0 from rfl)
  generalize trE (d, c, f) = E at HE ⊢
  have hB : Bk (w.alloc (.cells #[.int .i64 d, .int .i64 c, .int .i64 f] 73)) w.heap.size 73 #[.int .i64 d, .int .i64 c, .int .i64 f] := Bk.new _ _ _
  have hG := (G.refl w none).alloc (.cells #[.int .i64 d, .int .i64 c, .int .i64 f] 73)
  show Calls Tryd.prog 68 #[.agg #[.int .i64 d, .int .i64 c, .int .i64 f]] w _
  go_enter Tryd.func68, Tryd.ntmps68
  go_upto_region 1 with fail
  generalize w.alloc (.cells #[.int .i64 d, .int .i64 c, .int .i64 f] 73) = w1 at hB hG ⊢
  generalize w.heap.size = g at hB ⊢
  have c0 : w1.cell? ⟨g, 0, none⟩ = some (.int .i64 d) := hB.cell 0
  have c1 : w1.cell? ⟨g, 1, none⟩ = some (.int .i64 c) := hB.cell 1
  have c2 : w1.cell? ⟨g, 2, none⟩ = some (.int .i64 f) := hB.cell 2
  go_wp2_with fail
  refine (within_c d 0 1440 _).mono ?_; rintro e w' ⟨rfl, rfl⟩
  cases k0 : inB d 0 1440 with
  | false =>
    obtain rfl : E = 1 := by rw [HE.out, if_pos k0]
    go_wp2_with fail
    go_ret
    exact ⟨rfl, hG⟩
  | true =>
    have K0 := Lib.hid k0
    clear k0
    go_wp2_with fail
    refine (within_c c (-1) 1000000 _).mono ?_; rintro e w' ⟨rfl, rfl⟩
    cases k1 : inB c (-1) 1000000 with
    | false =>
      obtain rfl : E = 1 := by rw [HE.out, if_neg (by simp [K0.out]), if_pos k1]
      go_wp2_with fail
      go_ret
      exact ⟨rfl, hG⟩
    | true =>
      have K1 := Lib.hid k1
      clear k1
      go_wp2_with fail
      refine (isRate_c f _).mono ?_; rintro e w' ⟨rfl, rfl⟩
      cases k2 : inB f 0 1000000 with
      | false =>
        obtain rfl : E = 1 := by rw [HE.out, if_neg (by simp [K0.out]), if_neg (by simp [K1.out]), if_pos k2]
        go_wp2_with fail
        go_ret
        exact ⟨rfl, hG⟩
      | true =>
        have K2 := Lib.hid k2
        clear k2
        obtain rfl : E = 0 := by rw [HE.out, if_neg (by simp [K0.out]), if_neg (by simp [K1.out]), if_neg (by simp [K2.out])]
        go_wp2_with fail
        go_ret
        exact ⟨rfl, hG⟩
end Go.Proofs.YtkpmcakppiinlaaDoor

/- Passages: basic.IsPlate, toll.comparePassages, toll.checkForm. Written by genpas.py. -/
namespace Go.Proofs.YtkpmcakppiinlaaDoor
open Go.RowKit

/-! ### Plates -/
def plC (c : Int) : Bool := dg c || (decide (65 ≤ c) && decide (c ≤ 90))
def plB (s : ByteArray) : Bool := decide (2 ≤ s.size) && (decide (s.size ≤ 10) && s.data.toList.all fun c => plC c.toNat)
theorem plB_of {s : ByteArray} (h : 2 ≤ s.size) (h2 : s.size ≤ 10) : plB s = s.data.toList.all fun c => plC c.toNat := by simp [plB, h, h2]
theorem plB_no {s : ByteArray} (h : s.size < 2 ∨ 10 < s.size) : plB s = false := by
  unfold plB
  rcases h with h | h
  · rw [decide_eq_false (by omega)]; rfl
  · rw [decide_eq_false (show ¬ s.size ≤ 10 by omega)]; simp
theorem pl_no (s : ByteArray) (k : Nat) (hk : k < s.size) (h : plC (s[k].toNat : Int) = false) : (s.data.toList.all fun c => plC c.toNat) = false := by
  rw [List.all_eq_false]
  refine ⟨s[k], ?_, by simp [h]⟩
  exact List.mem_of_getElem? (get_data s k hk)
set_option maxHeartbeats 2000000 in
theorem isPlate_c (s : ByteArray) (w : World) (hs : s.size ≤ 9223372036854775807) : Calls Tryd.prog 57 #[.string s] w fun e w' => e = .returned (.bool (plB s)) ∧ w = w' := by
  obtain ⟨B, hB⟩ : ∃ B, plB s = B := ⟨_, rfl⟩
  have H0 := Lib.hid hB
  rw [hB]
  clear hB
  by_cases h1 : s.size < 2
  · obtain rfl : B = false := by rw [← H0.out, plB_no (.inl h1)]
    go_enter Tryd.func57, Tryd.ntmps57
    go_wp2_with fail
    go_ret
    exact ⟨rfl, rfl⟩
  by_cases h2 : 10 < s.size
  · obtain rfl : B = false := by rw [← H0.out, plB_no (.inr h2)]
    go_enter Tryd.func57, Tryd.ntmps57
    go_wp2_with fail
    go_ret
    exact ⟨rfl, rfl⟩
  have H := Lib.hid (H0.out.symm.trans (plB_of (by omega) (by omega)))
  go_enter Tryd.func57, Tryd.ntmps57
  go_wp2_with fail
  go_loop [15] (fun i => ∃ k : Nat, k ≤ s.size ∧ i = .int .i64 k ∧ (s.data.toList.take k).all (fun c => plC c.toNat) = true) (fun i => s.size - (intOf i).toNat)
  case atStart => exact ⟨0, Nat.zero_le _, rfl, by simp⟩
  case round =>
    obtain ⟨k, hk, rfl, hall⟩ := hrel
    have HA := Lib.hid hall
    clear hall
    by_cases hlt : k < s.size
    · have HN : Hid (plC (s[k].toNat : Int) = true → (s.data.toList.take (k + 1)).all (fun c => plC c.toNat) = true) := Lib.hid (fun hkc => by rw [take_snoc s k hlt, List.all_append, HA.out, Bool.true_and, List.all_cons, hkc, List.all_nil]; rfl)
      have HF : Hid (plC (s[k].toNat : Int) = false → B = false) := Lib.hid (fun hkc => by rw [H.out, pl_no s k hlt hkc])
      have HD : Hid (plC (s[k].toNat : Int) = (dg (s[k].toNat : Int) || (decide (65 ≤ (s[k].toNat : Int)) && decide ((s[k].toNat : Int) ≤ 90)))) := Lib.hid rfl
      go_wp2_with fail
      refine (digit_c _ _).mono ?_; rintro e w' ⟨rfl, rfl⟩
      cases hdg : dg (s[k].toNat : Int) with
      | true =>
        have HP : Hid ((s.data.toList.take (k + 1)).all (fun c => plC c.toNat) = true) := Lib.hid (HN.out (by rw [HD.out, hdg]; rfl))
        clear hdg
        go_wp2_with fail
        go_round
        case rel => exact ⟨k + 1, by omega, by go_num, HP.out⟩
        case measure => simp [intOf]; omega
      | false =>
        by_cases h65 : 65 ≤ (s[k].toNat : Int)
        · by_cases h90 : (s[k].toNat : Int) ≤ 90
          · have HP : Hid ((s.data.toList.take (k + 1)).all (fun c => plC c.toNat) = true) := Lib.hid (HN.out (by rw [HD.out, hdg, decide_eq_true h65, decide_eq_true h90]; rfl))
            have h3 : ¬ (s[k].toNat : Int) < 65 := by omega
            have h4 : ¬ 90 < (s[k].toNat : Int) := by omega
            clear hdg
            go_wp2_with fail
            go_round
            case rel => exact ⟨k + 1, by omega, by go_num, HP.out⟩
            case measure => simp [intOf]; omega
          · obtain rfl : B = false := HF.out (by rw [HD.out, hdg, decide_eq_false h90]; simp)
            have h3 : ¬ (s[k].toNat : Int) < 65 := by omega
            have h4 : 90 < (s[k].toNat : Int) := by omega
            clear hdg
            go_wp2_with fail
            go_ret
            exact ⟨rfl, rfl⟩
        · obtain rfl : B = false := HF.out (by rw [HD.out, hdg, decide_eq_false h65]; simp)
          have h3 : (s[k].toNat : Int) < 65 := by omega
          clear hdg
          go_wp2_with fail
          go_ret
          exact ⟨rfl, rfl⟩
    · obtain rfl : B = true := by rw [H.out, ← HA.out, List.take_of_length_le (by rw [len_data]; omega)]
      go_wp2_with fail
      go_ret
      exact ⟨rfl, rfl⟩
/-! ### Passages -/
/-- A passage: at, gate, plate, cents. -/
abbrev Pa := Int × ByteArray × ByteArray × Int
def paC (x : Pa) : Array Value := #[.int .i64 x.1, .string x.2.1, .string x.2.2.1, .int .i64 x.2.2.2]
theorem paC_sz (x : Pa) : (paC x).size = 4 := rfl
theorem pa_info (x : Pa) : (Tryd.prog.info? 34).map (·.size) = some (paC x).size := (by kernel_rfl : (Tryd.prog.info? 34).map (·.size) = some 4)
def PaOk (l : List Pa) : Prop := ∀ x ∈ l, Small x.2.1 ∧ Small x.2.2.1
def cmpP (x y : Pa) : Int := orI (cmpS x.1 y.1) (orI (cmpI x.2.1 y.2.1) (cmpI x.2.2.1 y.2.2.1))
set_option maxRecDepth 100000 in
set_option maxHeartbeats 2000000 in
theorem or3_c (x y z : Int) (g : Nat) (w : World) (hB : Bk w g 3 #[.int .i64 x, .int .i64 y, .int .i64 z]) :
    Calls Tryd.prog 49 #[.slice (some ⟨g, 0, none⟩) 3 3] w fun e w' => e = .returned (.int .i64 (orI x (orI y z))) ∧ w = w' := by
  have hc0 : w.cell? ⟨g, 0, none⟩ = some (.int .i64 x) := hB.cell 0
  have hc1 : w.cell? ⟨g, 1, none⟩ = some (.int .i64 y) := hB.cell 1
  have hc2 : w.cell? ⟨g, 2, none⟩ = some (.int .i64 z) := hB.cell 2
  clear hB
  obtain ⟨R, hR⟩ : ∃ R, orI x (orI y z) = R := ⟨_, rfl⟩
  have HR := Lib.hid hR
  rw [hR]
  clear hR
  by_cases hx : x = 0
  · subst hx
    by_cases hy : y = 0
    · subst hy
      by_cases hz : z = 0
      · subst hz
        obtain rfl : R = 0 := by rw [← HR.out]; rfl
        go_enter Tryd.func49, Tryd.ntmps49
        go_wp2_with fail
        refine wp_loop_rounds 4 ?_
        rw [rounds_succ]
        go_wp2_with fail
        rw [rounds_succ]
        go_wp2_with fail
        rw [rounds_succ]
        go_wp2_with fail
        rw [rounds_succ]
        go_wp2_with fail
        go_ret
        exact ⟨rfl, rfl⟩
      · obtain rfl : R = z := by rw [← HR.out]; rfl
        have hz' : (R != 0) = true := by rw [bne_iff_ne]; exact hz
        clear hz HR
        go_enter Tryd.func49, Tryd.ntmps49
        go_wp2_with fail
        refine wp_loop_rounds 4 ?_
        rw [rounds_succ]
        go_wp2_with fail
        rw [rounds_succ]
        go_wp2_with fail
        rw [rounds_succ]
        go_wp2_with fail
        go_ret
        exact ⟨rfl, rfl⟩
    · obtain rfl : R = y := by rw [← HR.out]; simp [orI, hy]
      have hy' : (R != 0) = true := by rw [bne_iff_ne]; exact hy
      clear hy HR
      go_enter Tryd.func49, Tryd.ntmps49
      go_wp2_with fail
      refine wp_loop_rounds 4 ?_
      rw [rounds_succ]
      go_wp2_with fail
      rw [rounds_succ]
      go_wp2_with fail
      go_ret
      exact ⟨rfl, rfl⟩
  · obtain rfl : R = x := by rw [← HR.out]; simp [orI, hx]
    have hx' : (R != 0) = true := by rw [bne_iff_ne]; exact hx
    clear hx HR
    go_enter Tryd.func49, Tryd.ntmps49
    go_wp2_with fail
    refine wp_loop_rounds 4 ?_
    rw [rounds_succ]
    go_wp2_with fail
    go_ret
    exact ⟨rfl, rfl⟩
set_option maxRecDepth 100000 in
set_option maxHeartbeats 4000000 in
theorem comparePassages_c (x y : Pa) (w : World) :
    Calls Tryd.prog 30 #[.agg (paC x), .agg (paC y)] w fun e w' => e = .returned (.int .i64 (cmpP x y)) ∧ G w w' none := by
  have hBx := (Bk.new w 34 (paC x)).alloc (.cells (paC y) 34)
  have hBy := Bk.newAt (w := w.alloc (.cells (paC x) 34)) (b := w.heap.size + 1) (by simp) 34 (paC y)
  have hG := ((G.refl w none).alloc (.cells (paC x) 34)).alloc (.cells (paC y) 34)
  have HF : Hid (orI (cmpS x.1 y.1) (orI (cmpI x.2.1 y.2.1) (cmpI x.2.2.1 y.2.2.1)) = cmpP x y) := Lib.hid rfl
  go_enter Tryd.func30, Tryd.ntmps30
  go_wp2_with fail
  generalize ((w.alloc (.cells (paC x) 34)).alloc (.cells (paC y) 34)) = w3 at hBx hBy hG ⊢
  have c0 : w3.cell? ⟨w.heap.size, 0, none⟩ = some (.int .i64 x.1) := hBx.cell 0
  have c1 : w3.cell? ⟨w.heap.size, 1, none⟩ = some (.string x.2.1) := hBx.cell 1
  have c2 : w3.cell? ⟨w.heap.size, 2, none⟩ = some (.string x.2.2.1) := hBx.cell 2
  have d0 : w3.cell? ⟨w.heap.size + 1, 0, none⟩ = some (.int .i64 y.1) := hBy.cell 0
  have d1 : w3.cell? ⟨w.heap.size + 1, 1, none⟩ = some (.string y.2.1) := hBy.cell 1
  have d2 : w3.cell? ⟨w.heap.size + 1, 2, none⟩ = some (.string y.2.2.1) := hBy.cell 2
  have hGd := hG.drew
  clear hBx hBy hG
  go_region_held3 (fun w' => w'.cell? ⟨w.heap.size, 0, none⟩ = some (.int .i64 x.1) ∧ w'.cell? ⟨w.heap.size, 1, none⟩ = some (.string x.2.1) ∧ w'.cell? ⟨w.heap.size, 2, none⟩ = some (.string x.2.2.1) ∧ w'.cell? ⟨w.heap.size + 1, 0, none⟩ = some (.int .i64 y.1) ∧ w'.cell? ⟨w.heap.size + 1, 1, none⟩ = some (.string y.2.1) ∧ w'.cell? ⟨w.heap.size + 1, 2, none⟩ = some (.string y.2.2.1)) (first | exact ⟨c0, c1, c2, d0, d1, d2⟩ | go_keep) (first | (go_at_call 51; refine (compare_c _ _ _).mono ?_; rintro e w' ⟨rfl, rfl⟩) | (go_at_call 50; refine (cmpInt_c _ _ _).mono ?_; rintro e w' ⟨rfl, rfl⟩) | (go_at_call 49; refine (or3_c _ _ _ _ _ ((Bk.new w3 _ _).quiet ((G.refl _ none).drew))).mono ?_; rintro e w' ⟨rfl, rfl⟩))
  go_wp2_with fail
  go_ret
  exact ⟨ret_int HF.out, hGd.alloc _⟩
def paAfter (b : Option Pa) (x : Pa) : Bool := match b with | none => false | some y => decide (0 ≤ cmpP y x)
def paErr : Option Pa → List Pa → Int
  | _, [] => 0
  | b, x :: r => if momB x.1 = false then 1 else if keyB x.2.1 = false then 5 else if plB x.2.2.1 = false then 3 else if inB x.2.2.2 0 1000000 = false then 1 else if paAfter b x = true then 7 else paErr (some x) r
def paE (l : List Pa) : Int := if 1000 < l.length then 2 else paErr none l
theorem paRow {W w : World} {bb bo n cap : Nat} {l : List Pa} (h : RdR W 4 paC (.slice (some ⟨bb, bo, none⟩) n cap) l) (hG : G W w none) {k : Nat} {p : Pa} (hp : l[k]? = some p) :
    ∀ j v, (paC p).toList[j]? = some v → w.cell? ((⟨bb, bo + k * 4, none⟩ : Addr).add j) = some v := fun j v hv => by
  rw [add_at]
  exact RdR.cell paC_sz h hG hp j v hv
def PaRel (w : World) (l : List Pa) (i : Value) (wr : World) : Prop :=
  ∃ k : Nat, k ≤ l.length ∧ i = .int .i64 k ∧ paErr none l = paErr (prevAt l k) (l.drop k) ∧ G w wr none
set_option maxRecDepth 100000 in
set_option maxHeartbeats 8000000 in
theorem paForm_c (v : Value) (l : List Pa) (w : World) (hr : RdR w 4 paC v l) (hl : PaOk l) (hn : l.length ≤ 1000000) :
    Calls Tryd.prog 38 #[v] w fun e w' => e = .returned (.int .i64 (paE l)) ∧ G w w' none := by
  have HR := Lib.hid hr
  obtain ⟨a, cap, rfl, hcap, hm⟩ := RdR.form hr
  clear hr
  obtain ⟨E, hE⟩ : ∃ E, paE l = E := ⟨_, rfl⟩
  have HEE := Lib.hid hE
  rw [hE]
  clear hE
  by_cases h30 : 1000 < l.length
  · obtain rfl : E = 2 := by rw [← HEE.out]; simp [paE, h30]
    go_enter Tryd.func38, Tryd.ntmps38
    go_wp2_with fail
    go_ret
    exact ⟨rfl, G.refl _ _⟩
  · have H := Lib.hid (show E = paErr none l by rw [← HEE.out]; simp [paE, h30])
    go_enter Tryd.func38, Tryd.ntmps38
    go_wp2_with fail
    go_loopw [10] (PaRel w l) (fun i _ => l.length - (intOf i).toNat)
    case atStart => exact ⟨0, by omega, rfl, rfl, G.refl _ _⟩
    case round =>
      obtain ⟨k, hkl, rfl, heq, hG⟩ := hrel
      have HE := Lib.hid heq
      clear heq
      by_cases hk : k < l.length
      · obtain ⟨⟨t, g, y, c⟩, hp⟩ : ∃ p, l[k]? = some p := ⟨_, List.getElem?_eq_getElem hk⟩
        have hdrop : l.drop k = (t, g, y, c) :: l.drop (k + 1) := by rw [List.drop_eq_getElem_cons hk, ← (List.getElem?_eq_some_iff.1 hp).2]
        have hs1 := hl _ (List.mem_of_getElem? hp)
        obtain ⟨hs1, hs2⟩ := hs1
        dsimp only at hs1 hs2
        unfold Small at hs1 hs2
        obtain ⟨bb, bo, rfl, hbb, _⟩ := RdR.elem paC_sz HR.out hG hp
        have HW := Lib.hid (paRow HR.out hG hp)
        have HP := Lib.hid hp
        have HS : Hid (paErr (prevAt l k) (l.drop k) = if momB t = false then 1 else if keyB g = false then 5 else if plB y = false then 3 else if inB c 0 1000000 = false then 1 else if paAfter (prevAt l k) (t, g, y, c) = true then 7 else paErr (some (t, g, y, c)) (l.drop (k + 1))) := Lib.hid (by rw [hdrop]; rfl)
        have hB5 : Bk (wr.alloc (.cells #[.int .i64 t, .string g, .string y, .int .i64 c] 34)) wr.heap.size 34 #[.int .i64 t, .string g, .string y, .int .i64 c] := Bk.new wr 34 _
        have hG5 : G w (wr.alloc (.cells #[.int .i64 t, .string g, .string y, .int .i64 c] 34)) none := hG.alloc (.cells (paC (t, g, y, c)) 34)
        clear hdrop hp hG
        go_upto_region 6 with (refine wpList_load_at rfl 34 _ rfl ⟨bb, bo + k * 4, none⟩ rfl #[.int .i64 t, .string g, .string y, .int .i64 c] _ HW.out Tryd.underlying34 rfl (pa_info (t, g, y, c)) ?_)
        clear HW
        generalize wr.alloc (.cells #[.int .i64 t, .string g, .string y, .int .i64 c] 34) = w5 at hB5 hG5 ⊢
        generalize wr.heap.size = g5 at hB5 ⊢
        have c0 : w5.cell? ⟨g5, 0, none⟩ = some (.int .i64 t) := hB5.cell 0
        have c1 : w5.cell? ⟨g5, 1, none⟩ = some (.string g) := hB5.cell 1
        have c2 : w5.cell? ⟨g5, 2, none⟩ = some (.string y) := hB5.cell 2
        have c3 : w5.cell? ⟨g5, 3, none⟩ = some (.int .i64 c) := hB5.cell 3
        go_wp2_with fail
        refine (isMoment_c t _).mono ?_; rintro e w' ⟨rfl, rfl⟩
        cases k0 : momB t with
        | false =>
          obtain rfl : E = 1 := by rw [H.out, HE.out, HS.out, if_pos k0]
          clear k0
          go_wp2_with fail
          go_ret
          exact ⟨rfl, hG5⟩
        | true =>
          have K0 := Lib.hid k0
          clear k0
          go_wp2_with fail
          refine (isKey_c _ _ hs1).mono ?_; rintro e w' ⟨rfl, rfl⟩
          cases k1 : keyB g with
          | false =>
            obtain rfl : E = 5 := by rw [H.out, HE.out, HS.out, if_neg (by simp [K0.out]), if_pos k1]
            clear k1
            go_wp2_with fail
            go_ret
            exact ⟨rfl, hG5⟩
          | true =>
            have K1 := Lib.hid k1
            clear k1
            go_wp2_with fail
            refine (isPlate_c _ _ hs2).mono ?_; rintro e w' ⟨rfl, rfl⟩
            cases k2 : plB y with
            | false =>
              obtain rfl : E = 3 := by rw [H.out, HE.out, HS.out, if_neg (by simp [K0.out]), if_neg (by simp [K1.out]), if_pos k2]
              clear k2
              go_wp2_with fail
              go_ret
              exact ⟨rfl, hG5⟩
            | true =>
              have K2 := Lib.hid k2
              clear k2
              go_wp2_with fail
              refine (isRate_c c _).mono ?_; rintro e w' ⟨rfl, rfl⟩
              cases k3 : inB c 0 1000000 with
              | false =>
                obtain rfl : E = 1 := by rw [H.out, HE.out, HS.out, if_neg (by simp [K0.out]), if_neg (by simp [K1.out]), if_neg (by simp [K2.out]), if_pos k3]
                clear k3
                go_wp2_with fail
                go_ret
                exact ⟨rfl, hG5⟩
              | true =>
                have K3 := Lib.hid k3
                clear k3
                have hg5 := hB5.lt
                cases k with
                | zero =>
                  have HF : Hid (paErr none l = paErr (prevAt l (0 + 1)) (l.drop (0 + 1))) := Lib.hid (by rw [HE.out, HS.out, if_neg (by simp [K0.out]), if_neg (by simp [K1.out]), if_neg (by simp [K2.out]), if_neg (by simp [K3.out]), if_neg (by simp [prevAt, paAfter]), prevAt_succ l 0 (t, g, y, c) HP.out])
                  go_wp2_with fail
                  go_quiet (fail)
                  have hGq := hG5.drewN nq
                  go_wp2_with fail
                  go_roundw
                  case rel => exact ⟨0 + 1, by omega, by go_num, HF.out, hGq⟩
                  case measure => simp [intOf]; omega
                | succ m =>
                  obtain ⟨⟨t2, g2, y2, c2q⟩, hq2⟩ : ∃ q, l[m]? = some q := ⟨_, List.getElem?_eq_getElem (by omega)⟩
                  have HA1 : Hid (paAfter (prevAt l (m + 1)) (t, g, y, c) = decide (0 ≤ cmpP (t2, g2, y2, c2q) (t, g, y, c))) := Lib.hid (by rw [prevAt_succ l m _ hq2]; rfl)
                  have hsub : IntKind.i64.wrap (((m + 1 : Nat) : Int) - 1) = (m : Int) := by rw [show ((m + 1 : Nat) : Int) - 1 = (m : Int) by omega]; rw [IntKind.wrap_i64]; omega
                  have d0 := RdR.cell paC_sz HR.out hG5 hq2 0 (.int .i64 t2) rfl
                  have d1 := RdR.cell paC_sz HR.out hG5 hq2 1 (.string g2) rfl
                  have d2 := RdR.cell paC_sz HR.out hG5 hq2 2 (.string y2) rfl
                  have d3 := RdR.cell paC_sz HR.out hG5 hq2 3 (.int .i64 c2q) rfl
                  have hsub2 : IntKind.i64.wrap (m : Int) = (m : Int) := by rw [IntKind.wrap_i64]; omega
                  have hsub3 : IntKind.i64.wrap ((m : Int) + 1 - 1) = (m : Int) := by rw [IntKind.wrap_i64]; omega
                  have hm0 : (0 : Int) ≤ (m : Int) := Int.natCast_nonneg m
                  have hml : (m : Int) < (l.length : Int) := by omega
                  have hcf : cmpP (t2, g2, y2, c2q) (t, g, y, c) < 0 ∨ 0 ≤ cmpP (t2, g2, y2, c2q) (t, g, y, c) := by omega
                  simp only [Nat.add_zero] at d0
                  clear hq2
                  rcases hcf with hcf | hcf
                  · have HF : Hid (paErr none l = paErr (prevAt l ((m + 1) + 1)) (l.drop ((m + 1) + 1))) := Lib.hid (by rw [HE.out, HS.out, if_neg (by simp [K0.out]), if_neg (by simp [K1.out]), if_neg (by simp [K2.out]), if_neg (by simp [K3.out]), if_neg (by rw [HA1.out, decide_eq_false (by omega)]; simp), prevAt_succ l (m + 1) _ HP.out])
                    go_wp2_with fail
                    go_region_held3 (fun w' => w'.cell? ⟨bb, bo + m * 4, none⟩ = some (.int .i64 t2) ∧ w'.cell? ⟨bb, bo + m * 4 + 1, none⟩ = some (.string g2) ∧ w'.cell? ⟨bb, bo + m * 4 + 2, none⟩ = some (.string y2) ∧ w'.cell? ⟨bb, bo + m * 4 + 3, none⟩ = some (.int .i64 c2q) ∧ w'.cell? ⟨g5, 0, none⟩ = some (.int .i64 t) ∧ w'.cell? ⟨g5, 1, none⟩ = some (.string g) ∧ w'.cell? ⟨g5, 2, none⟩ = some (.string y) ∧ w'.cell? ⟨g5, 3, none⟩ = some (.int .i64 c)) (first | exact ⟨d0, d1, d2, d3, c0, c1, c2, c3⟩ | exact hS6 | go_keep) (first | (go_at_call 30; refine (comparePassages_c (t2, g2, y2, c2q) (t, g, y, c) _).mono ?_; rintro e w6 ⟨rfl, hG6⟩; have hG06 := hG5.drew.trans hG6; have hbw := hG5.size; have hS6 : w6.cell? ⟨bb, bo + m * 4, none⟩ = some (.int .i64 t2) ∧ w6.cell? ⟨bb, bo + m * 4 + 1, none⟩ = some (.string g2) ∧ w6.cell? ⟨bb, bo + m * 4 + 2, none⟩ = some (.string y2) ∧ w6.cell? ⟨bb, bo + m * 4 + 3, none⟩ = some (.int .i64 c2q) ∧ w6.cell? ⟨g5, 0, none⟩ = some (.int .i64 t) ∧ w6.cell? ⟨g5, 1, none⟩ = some (.string g) ∧ w6.cell? ⟨g5, 2, none⟩ = some (.string y) ∧ w6.cell? ⟨g5, 3, none⟩ = some (.int .i64 c) := ⟨((gcell hG6).1 bb _ (Nat.lt_of_lt_of_le hbb hbw)).trans d0, ((gcell hG6).1 bb _ (Nat.lt_of_lt_of_le hbb hbw)).trans d1, ((gcell hG6).1 bb _ (Nat.lt_of_lt_of_le hbb hbw)).trans d2, ((gcell hG6).1 bb _ (Nat.lt_of_lt_of_le hbb hbw)).trans d3, ((gcell hG6).1 g5 _ hg5).trans c0, ((gcell hG6).1 g5 _ hg5).trans c1, ((gcell hG6).1 g5 _ hg5).trans c2, ((gcell hG6).1 g5 _ hg5).trans c3⟩))
                    go_wp2_with fail
                    go_roundw
                    case rel => exact ⟨(m + 1) + 1, by omega, by go_num, HF.out, hG06⟩
                    case measure => simp [intOf]; omega
                  · obtain rfl : E = 7 := by rw [H.out, HE.out, HS.out, if_neg (by simp [K0.out]), if_neg (by simp [K1.out]), if_neg (by simp [K2.out]), if_neg (by simp [K3.out]), if_pos (by rw [HA1.out]; exact decide_eq_true hcf)]
                    go_wp2_with fail
                    go_region_held3 (fun w' => w'.cell? ⟨bb, bo + m * 4, none⟩ = some (.int .i64 t2) ∧ w'.cell? ⟨bb, bo + m * 4 + 1, none⟩ = some (.string g2) ∧ w'.cell? ⟨bb, bo + m * 4 + 2, none⟩ = some (.string y2) ∧ w'.cell? ⟨bb, bo + m * 4 + 3, none⟩ = some (.int .i64 c2q) ∧ w'.cell? ⟨g5, 0, none⟩ = some (.int .i64 t) ∧ w'.cell? ⟨g5, 1, none⟩ = some (.string g) ∧ w'.cell? ⟨g5, 2, none⟩ = some (.string y) ∧ w'.cell? ⟨g5, 3, none⟩ = some (.int .i64 c)) (first | exact ⟨d0, d1, d2, d3, c0, c1, c2, c3⟩ | exact hS6 | go_keep) (first | (go_at_call 30; refine (comparePassages_c (t2, g2, y2, c2q) (t, g, y, c) _).mono ?_; rintro e w6 ⟨rfl, hG6⟩; have hG06 := hG5.drew.trans hG6; have hbw := hG5.size; have hS6 : w6.cell? ⟨bb, bo + m * 4, none⟩ = some (.int .i64 t2) ∧ w6.cell? ⟨bb, bo + m * 4 + 1, none⟩ = some (.string g2) ∧ w6.cell? ⟨bb, bo + m * 4 + 2, none⟩ = some (.string y2) ∧ w6.cell? ⟨bb, bo + m * 4 + 3, none⟩ = some (.int .i64 c2q) ∧ w6.cell? ⟨g5, 0, none⟩ = some (.int .i64 t) ∧ w6.cell? ⟨g5, 1, none⟩ = some (.string g) ∧ w6.cell? ⟨g5, 2, none⟩ = some (.string y) ∧ w6.cell? ⟨g5, 3, none⟩ = some (.int .i64 c) := ⟨((gcell hG6).1 bb _ (Nat.lt_of_lt_of_le hbb hbw)).trans d0, ((gcell hG6).1 bb _ (Nat.lt_of_lt_of_le hbb hbw)).trans d1, ((gcell hG6).1 bb _ (Nat.lt_of_lt_of_le hbb hbw)).trans d2, ((gcell hG6).1 bb _ (Nat.lt_of_lt_of_le hbb hbw)).trans d3, ((gcell hG6).1 g5 _ hg5).trans c0, ((gcell hG6).1 g5 _ hg5).trans c1, ((gcell hG6).1 g5 _ hg5).trans c2, ((gcell hG6).1 g5 _ hg5).trans c3⟩))
                    go_wp2_with fail
                    go_ret
                    exact ⟨rfl, hG06⟩
      · obtain rfl : k = l.length := by omega
        obtain rfl : E = 0 := by rw [H.out, HE.out, List.drop_length]; rfl
        go_wp2_with fail
        go_ret
        exact ⟨rfl, hG⟩
end Go.Proofs.YtkpmcakppiinlaaDoor

/- slices.SortStableFunc at passages, fewer than 20: insertion. Written by gensop.py. -/
namespace Go.Proofs.YtkpmcakppiinlaaDoor
open Go.RowKit

theorem pa_oneL (r : Pa) : ∀ u ∈ (paC r).toList, u.oneCell' = true := by
  intro u hu
  simp [paC] at hu
  rcases hu with rfl | rfl | rfl | rfl <;> rfl
theorem pa_one (x : Pa) : (paC x).all (·.oneCell') = true := by simp [paC, Value.oneCell']
theorem pa_rowOk : RowOk Tryd.prog 34 28 4 48 (.agg #[.int .i64 0, .string ⟨#[]⟩, .string ⟨#[]⟩, .int .i64 0]) paC := ⟨by kernel_rfl, Tryd.underlying28, pa_oneL, paC_sz, rfl, by omega, by omega⟩
abbrev OwnPa (w : World) (base : Nat) (v : Value) (l : List Pa) : Prop := OwnX 34 4 paC w base v l
theorem pa_there {w : World} {base g n cap : Nat} {l : List Pa} {j : Nat} {t : Int} {a b : ByteArray} {c : Int} (h : OwnPa w base (.slice (some ⟨g, 0, none⟩) n cap) l) (hl : l.length = n) (hj : j < n) : w.there g (j * 4) (#[.int .i64 t, .string a, .string b, .int .i64 c] : Array Value).size := fun i hi => by
  subst hl
  have hi4 : i < 4 := hi
  have h1 := World.ownsRow.cellAt h (j * 4 + i) (by omega)
  have hr : (rowL paC l).length = l.length * 4 := h.1
  rw [List.getElem?_eq_getElem (by rw [hr]; omega)] at h1
  exact ⟨by rw [h1]; rfl, World.ownsRow.frozenAt h _⟩
theorem pa_set {w : World} {base g n cap : Nat} {l : List Pa} (h : OwnPa w base (.slice (some ⟨g, 0, none⟩) n cap) l) (hl : l.length = n) {j : Nat} {p : Pa} (hp : l[j]? = some p) (q : Pa) :
    OwnPa (w.setCells g (j * 4) [.int .i64 q.1, .string q.2.1, .string q.2.2.1, .int .i64 q.2.2.2]) base (.slice (some ⟨g, 0, none⟩) n cap) (l.set j q) := by
  subst hl
  obtain ⟨t, a, b, c⟩ := q
  have jl := (List.getElem?_eq_some_iff.1 hp).1
  have o1 := OwnX.set paC_sz h hp (q := (t, p.2)) 0 (.int .i64 t) (by omega) rfl
  have o2 := OwnX.set paC_sz o1 (show (l.set j (t, p.2))[j]? = some (t, p.2) by rw [List.getElem?_set_self jl]) (q := (t, a, p.2.2)) 1 (.string a) (by omega) rfl
  rw [List.set_set] at o2
  have o3 := OwnX.set paC_sz o2 (show (l.set j (t, a, p.2.2))[j]? = some (t, a, p.2.2) by rw [List.getElem?_set_self jl]) (q := (t, a, b, p.2.2.2)) 2 (.string b) (by omega) rfl
  rw [List.set_set] at o3
  have o4 := OwnX.set paC_sz o3 (show (l.set j (t, a, b, p.2.2.2))[j]? = some (t, a, b, p.2.2.2) by rw [List.getElem?_set_self jl]) (q := (t, a, b, c)) 3 (.int .i64 c) (by omega) rfl
  rw [List.set_set] at o4
  unfold OwnPa OwnX
  rw [List.length_set]
  exact o4
theorem pa_grow (w : World) (g o : Nat) (q : Pa) : G w (w.setCells g o [.int .i64 q.1, .string q.2.1, .string q.2.2.1, .int .i64 q.2.2.2]) (some g) :=
  ((((G.refl w (some g)).setCell (p := ⟨g, o, none⟩) (.inr rfl) (.int .i64 q.1)).setCell (p := ⟨g, o + 1, none⟩) (.inr rfl) (.string q.2.1)).setCell (p := ⟨g, o + 1 + 1, none⟩) (.inr rfl) (.string q.2.2.1)).setCell (p := ⟨g, o + 1 + 1 + 1, none⟩) (.inr rfl) (.int .i64 q.2.2.2)
def SoP (w : World) (base : Nat) (v : Value) (c : Pa → Pa → Bool) (l0 : List Pa) (s8 : Value) (wr : World) : Prop :=
  ∃ (i : Nat) (l : List Pa), 1 ≤ i ∧ i ≤ max l0.length 1 ∧ s8 = .int .i64 i ∧ isrt c l0 = isF c (l0.length - i) i l ∧ l.length = l0.length ∧ (∀ z ∈ l, z ∈ l0) ∧ OwnPa wr base v l ∧ GS (S1 v) w wr
def SiP (w : World) (base : Nat) (v : Value) (c : Pa → Pa → Bool) (l0 : List Pa) (i : Nat) (li : List Pa) (s9 : Value) (wr : World) : Prop :=
  ∃ (j : Nat) (l : List Pa), j ≤ i ∧ s9 = .int .i64 j ∧ insJ c i li = insJ c j l ∧ l.length = l0.length ∧ (∀ z ∈ l, z ∈ l0) ∧ OwnPa wr base v l ∧ GS (S1 v) w wr
theorem insP_mem {α : Type} (c : α → α → Bool) : ∀ (j : Nat) (l : List α) (z : α), z ∈ insJ c j l → z ∈ l
  | 0, _, _, h => h
  | j + 1, l, z, h => by
    unfold insJ at h
    split at h
    · rename_i x y hx hy
      split at h
      · have := insP_mem c j _ z h
        rcases List.mem_or_eq_of_mem_set this with h1 | rfl
        · rcases List.mem_or_eq_of_mem_set h1 with h1 | rfl
          · exact h1
          · exact List.mem_of_getElem? hy
        · exact List.mem_of_getElem? hx
      · exact h
    · exact h
theorem isFP_mem {α : Type} (c : α → α → Bool) : ∀ (n i : Nat) (l : List α) (z : α), z ∈ isF c n i l → z ∈ l
  | 0, _, _, _, h => h
  | n + 1, i, l, z, h => insP_mem c i l z (isFP_mem c n (i + 1) _ z h)
theorem isrtP_mem {α : Type} (c : α → α → Bool) (l : List α) (z : α) (h : z ∈ isrt c l) : z ∈ l := isFP_mem c _ _ l z h
theorem isrtP_len {α : Type} (c : α → α → Bool) (l : List α) : (isrt c l).length = l.length := isF_len c _ _ l
set_option maxRecDepth 100000 in
set_option maxHeartbeats 8000000 in
theorem insSortP_c (F : FuncId) (caps : Array Value) (cf : Pa → Pa → Int) (v : Value) (l0 : List Pa) (base : Nat) (w : World) (hcf : ∀ (args : Array Value) (w : World), (callFunc F args).run Tryd.prog w = .ok (.enter F args) w)
    (hal : ∀ (x y : Pa) (w' : World), x ∈ l0 → y ∈ l0 → GS (S1 v) w w' → Calls Tryd.prog F (#[.agg (paC x), .agg (paC y)] ++ caps) w' fun e w'' => e = .returned (.int .i64 (cf x y)) ∧ G w' w'' none)
    (hown : OwnPa w base v l0) (hn : l0.length ≤ 1000) :
    Calls Tryd.prog 62 #[v, .int .i64 0, .int .i64 l0.length, .func (.func F) #[] caps] w fun e w' => e = .returned (.tuple #[]) ∧ OwnPa w' base v (isrt (fun x y => decide (cf x y < 0)) l0) ∧ GS (S1 v) w w' := by
  have HAL := Lib.hid hal
  obtain ⟨a, cap, rfl, hcap, hm⟩ := RdR.form (c := paC) (Rd.of_owns hown)
  clear hal
  go_enter Tryd.func62, Tryd.ntmps62
  go_wp2_with fail
  go_loopw [8] (SoP w base (.slice a l0.length cap) (fun x y => decide (cf x y < 0)) l0) (fun i _ => l0.length - (intOf i).toNat)
  case atStart => exact ⟨1, l0, by omega, by omega, rfl, rfl, rfl, fun z hz => hz, hown, GS.refl _ _⟩
  case round =>
    obtain ⟨i, l, hi1, hil, rfl, heq, hll, hsub, hownr, hGr⟩ := hrel
    have HSUB := Lib.hid hsub
    clear hsub
    have HE := Lib.hid heq
    clear heq hown
    by_cases hlt : i < l0.length
    · have HD : Hid (isrt (fun x y => decide (cf x y < 0)) l0 = isF (fun x y => decide (cf x y < 0)) (l0.length - (i + 1)) (i + 1) (insJ (fun x y => decide (cf x y < 0)) i l)) := Lib.hid (by
        rw [HE.out, show l0.length - i = (l0.length - (i + 1)) + 1 by omega, isF])
      have HI := Lib.hid hlt
      go_wp2_with fail
      go_loopw [9] (SiP w base (.slice a l0.length cap) (fun x y => decide (cf x y < 0)) l0 i l) (fun j _ => (intOf j).toNat)
      case atStart => exact ⟨i, l, by omega, rfl, rfl, hll, HSUB.out, hownr, hGr⟩
      case round =>
        clear hownr hGr
        obtain ⟨j, l', hji, rfl, heq, hl', hsub2, hown2, hG2⟩ := hrel
        have HSUB2 := Lib.hid hsub2
        clear hsub2
        have HQ := Lib.hid heq
        clear heq
        match j, hji, HQ with
        | 0, hji, HQ =>
          have HF : Hid (insJ (fun x y => decide (cf x y < 0)) i l = l') := Lib.hid (by rw [HQ.out, insJ])
          have h0 : ¬ ((0 : Int) > 0) := by omega
          go_upto_region 4 with fail
          refine wp_region_held_drew (S := (fun _ : World => True)) (by kernel_rfl) ?_ (fun hHeld => ?_)
          · exact trivial
          refine wpAnyH_take (i := 0) (oi := { dst := some 18, op := Op.move (Operand.tmp 9), type := 3, pos := _, after := #[], guard := none }) (v := ?_) rfl (by kernel_rfl) (by kernel_rfl) (by kernel_rfl) (fun _ _ _ h => h) (Or.inl ⟨by rfl, ?_⟩) (by assumption) ?_
          rotate_left
          · (intro w hSw; clear hSw; (go_simp <;> with_reducible rfl))
          try simp only [Act.put, List.setIfInBounds_toArray, List.set_cons_zero, List.set_cons_succ]
          refine wpAnyH_take (i := 1) (oi := { dst := some 19, op := Op.move (Operand.tmp 1), type := 3, pos := _, after := #[], guard := none }) (v := ?_) rfl (by kernel_rfl) (by kernel_rfl) (by kernel_rfl) (fun _ _ _ h => h) (Or.inl ⟨by rfl, ?_⟩) (by assumption) ?_
          rotate_left
          · (intro w hSw; clear hSw; (go_simp <;> with_reducible rfl))
          try simp only [Act.put, List.setIfInBounds_toArray, List.set_cons_zero, List.set_cons_succ]
          refine wpAnyH_take (i := 2) (oi := { dst := some 20, op := Op.binOp BinOp.gtr 3 (Operand.tmp 18) (Operand.tmp 19) 3, type := 4, pos := _, after := #[{ on := 0, ground := Ground.data }, { on := 1, ground := Ground.data }], guard := none }) (v := ?_) rfl (by kernel_rfl) (by kernel_rfl) (by kernel_rfl) (fun _ _ _ h => h) (Or.inl ⟨by rfl, ?_⟩) (by assumption) ?_
          rotate_left
          · (intro w hSw; clear hSw; (go_simp <;> with_reducible rfl))
          try simp only [Act.put, List.setIfInBounds_toArray, List.set_cons_zero, List.set_cons_succ]
          refine wpAnyH_take (i := 3) (oi := { dst := some 21, op := Op.move (Operand.tmp 20), type := 4, pos := _, after := #[{ on := 2, ground := Ground.data }], guard := none }) (v := ?_) rfl (by kernel_rfl) (by kernel_rfl) (by kernel_rfl) (fun _ _ _ h => h) (Or.inl ⟨by rfl, ?_⟩) (by assumption) ?_
          rotate_left
          · (intro w hSw; clear hSw; (go_simp <;> with_reducible rfl))
          try simp only [Act.put, List.setIfInBounds_toArray, List.set_cons_zero, List.set_cons_succ]
          refine wpAnyH_take (i := 4) (oi := { dst := some 22, op := Op.move (Operand.tmp 3), type := 54, pos := _, after := #[{ on := 3, ground := Ground.guard }], guard := some (3, true) }) (v := undef) rfl (by kernel_rfl) (by kernel_rfl) (by kernel_rfl) (fun _ _ _ h => h) (Or.inr ⟨by rfl, rfl⟩) (by assumption) ?_
          try simp only [Act.put, List.setIfInBounds_toArray, List.set_cons_zero, List.set_cons_succ]
          refine wpAnyH_take (i := 5) (oi := { dst := some 23, op := Op.move (Operand.tmp 0), type := 28, pos := _, after := #[{ on := 3, ground := Ground.guard }], guard := some (3, true) }) (v := undef) rfl (by kernel_rfl) (by kernel_rfl) (by kernel_rfl) (fun _ _ _ h => h) (Or.inr ⟨by rfl, rfl⟩) (by assumption) ?_
          try simp only [Act.put, List.setIfInBounds_toArray, List.set_cons_zero, List.set_cons_succ]
          refine wpAnyH_take (i := 6) (oi := { dst := some 24, op := Op.move (Operand.tmp 9), type := 3, pos := _, after := #[{ on := 3, ground := Ground.guard }], guard := some (3, true) }) (v := undef) rfl (by kernel_rfl) (by kernel_rfl) (by kernel_rfl) (fun _ _ _ h => h) (Or.inr ⟨by rfl, rfl⟩) (by assumption) ?_
          try simp only [Act.put, List.setIfInBounds_toArray, List.set_cons_zero, List.set_cons_succ]
          refine wpAnyH_take (i := 7) (oi := { dst := some 25, op := Op.indexAddr 28 (Operand.tmp 23) (Operand.tmp 24), type := 0, pos := _, after := #[{ on := 5, ground := Ground.data }, { on := 6, ground := Ground.data }, { on := 3, ground := Ground.guard }], guard := some (3, true) }) (v := undef) rfl (by kernel_rfl) (by kernel_rfl) (by kernel_rfl) (fun _ _ _ h => h) (Or.inr ⟨by rfl, rfl⟩) (by assumption) ?_
          try simp only [Act.put, List.setIfInBounds_toArray, List.set_cons_zero, List.set_cons_succ]
          refine wpAnyH_take (i := 8) (oi := { dst := some 26, op := Op.load 34 (Operand.tmp 25), type := 34, pos := _, after := #[{ on := 7, ground := Ground.data }, { on := 3, ground := Ground.guard }], guard := some (3, true) }) (v := undef) rfl (by kernel_rfl) (by kernel_rfl) (by kernel_rfl) (fun _ _ _ h => h) (Or.inr ⟨by rfl, rfl⟩) (by assumption) ?_
          try simp only [Act.put, List.setIfInBounds_toArray, List.set_cons_zero, List.set_cons_succ]
          refine wpAnyH_take (i := 9) (oi := { dst := some 27, op := Op.move (Operand.tmp 0), type := 28, pos := _, after := #[{ on := 3, ground := Ground.guard }], guard := some (3, true) }) (v := undef) rfl (by kernel_rfl) (by kernel_rfl) (by kernel_rfl) (fun _ _ _ h => h) (Or.inr ⟨by rfl, rfl⟩) (by assumption) ?_
          try simp only [Act.put, List.setIfInBounds_toArray, List.set_cons_zero, List.set_cons_succ]
          refine wpAnyH_take (i := 10) (oi := { dst := some 28, op := Op.move (Operand.tmp 9), type := 3, pos := _, after := #[{ on := 3, ground := Ground.guard }], guard := some (3, true) }) (v := undef) rfl (by kernel_rfl) (by kernel_rfl) (by kernel_rfl) (fun _ _ _ h => h) (Or.inr ⟨by rfl, rfl⟩) (by assumption) ?_
          try simp only [Act.put, List.setIfInBounds_toArray, List.set_cons_zero, List.set_cons_succ]
          refine wpAnyH_take (i := 11) (oi := { dst := some 29, op := Op.binOp BinOp.sub 3 (Operand.tmp 28) (Operand.const (Value.int IntKind.i64 1)) 3, type := 3, pos := _, after := #[{ on := 10, ground := Ground.data }, { on := 3, ground := Ground.guard }], guard := some (3, true) }) (v := undef) rfl (by kernel_rfl) (by kernel_rfl) (by kernel_rfl) (fun _ _ _ h => h) (Or.inr ⟨by rfl, rfl⟩) (by assumption) ?_
          try simp only [Act.put, List.setIfInBounds_toArray, List.set_cons_zero, List.set_cons_succ]
          refine wpAnyH_take (i := 12) (oi := { dst := some 30, op := Op.indexAddr 28 (Operand.tmp 27) (Operand.tmp 29), type := 0, pos := _, after := #[{ on := 9, ground := Ground.data }, { on := 11, ground := Ground.data }, { on := 3, ground := Ground.guard }], guard := some (3, true) }) (v := undef) rfl (by kernel_rfl) (by kernel_rfl) (by kernel_rfl) (fun _ _ _ h => h) (Or.inr ⟨by rfl, rfl⟩) (by assumption) ?_
          try simp only [Act.put, List.setIfInBounds_toArray, List.set_cons_zero, List.set_cons_succ]
          refine wpAnyH_take (i := 13) (oi := { dst := some 31, op := Op.load 34 (Operand.tmp 30), type := 34, pos := _, after := #[{ on := 12, ground := Ground.data }, { on := 3, ground := Ground.guard }], guard := some (3, true) }) (v := undef) rfl (by kernel_rfl) (by kernel_rfl) (by kernel_rfl) (fun _ _ _ h => h) (Or.inr ⟨by rfl, rfl⟩) (by assumption) ?_
          try simp only [Act.put, List.setIfInBounds_toArray, List.set_cons_zero, List.set_cons_succ]
          refine wpAnyH_take (i := 14) (oi := { dst := some 32, op := Op.call { callee := Callee.value (Operand.tmp 22), args := #[Operand.tmp 26, Operand.tmp 31], argTypes := #[34, 34] }, type := 3, pos := _, after := #[{ on := 4, ground := Ground.data }, { on := 8, ground := Ground.data }, { on := 13, ground := Ground.data }, { on := 3, ground := Ground.chain }, { on := 3, ground := Ground.guard }], guard := some (3, true) }) (v := undef) rfl (by kernel_rfl) (by kernel_rfl) (by kernel_rfl) (fun _ _ _ h => h) (Or.inr ⟨by rfl, rfl⟩) (by assumption) ?_
          try simp only [Act.put, List.setIfInBounds_toArray, List.set_cons_zero, List.set_cons_succ]
          refine wpAnyH_take (i := 15) (oi := { dst := some 33, op := Op.binOp BinOp.lss 3 (Operand.tmp 32) (Operand.const (Value.int IntKind.i64 0)) 3, type := 4, pos := _, after := #[{ on := 14, ground := Ground.data }, { on := 3, ground := Ground.guard }], guard := some (3, true) }) (v := undef) rfl (by kernel_rfl) (by kernel_rfl) (by kernel_rfl) (fun _ _ _ h => h) (Or.inr ⟨by rfl, rfl⟩) (by assumption) ?_
          try simp only [Act.put, List.setIfInBounds_toArray, List.set_cons_zero, List.set_cons_succ]
          refine wpAnyH_take (i := 16) (oi := { dst := some 34, op := Op.pick (Operand.tmp 21) (Operand.tmp 33) (Operand.const (Value.bool false)), type := 4, pos := _, after := #[{ on := 3, ground := Ground.data }, { on := 15, ground := Ground.data }], guard := none }) (v := ?_) rfl (by kernel_rfl) (by kernel_rfl) (by kernel_rfl) (fun _ _ _ h => h) (Or.inl ⟨by rfl, ?_⟩) (by assumption) ?_
          rotate_left
          · (intro w hSw; clear hSw; (go_simp <;> with_reducible rfl))
          try simp only [Act.put, List.setIfInBounds_toArray, List.set_cons_zero, List.set_cons_succ]
          refine wpAnyH_done (by kernel_rfl) ?_ _
          generalize hwd : wr.drew = wd at hHeld ⊢
          have hown3 : OwnPa wd base (.slice a l0.length cap) l' := by rw [← hwd]; exact OwnX.drew hown2
          have hG3 : GS (S1 (.slice a l0.length cap)) w wd := by rw [← hwd]; exact hG2.trans (GS.of_G (G.refl wr none).drew)
          clear hwd hHeld
          go_wp2_with fail
          go_roundw
          case rel => exact ⟨i + 1, l', by omega, by omega, by go_num, by rw [HD.out, HF.out], hl', HSUB2.out, hown3, hG3⟩
          case measure => have := HI.out; simp [intOf]; omega
        | j + 1, hji, HQ =>
          obtain ⟨⟨x1, x2, x3, x4⟩, hx⟩ : ∃ x, l'[j + 1]? = some x := ⟨_, List.getElem?_eq_getElem (by omega)⟩
          obtain ⟨⟨y1, y2, y3, y4⟩, hy⟩ : ∃ y, l'[j]? = some y := ⟨_, List.getElem?_eq_getElem (by omega)⟩
          have HDJ : Hid (insJ (fun x y => decide (cf x y < 0)) i l = if cf (x1, x2, x3, x4) (y1, y2, y3, y4) < 0 then insJ (fun x y => decide (cf x y < 0)) j ((l'.set (j + 1) (y1, y2, y3, y4)).set j (x1, x2, x3, x4)) else l') := Lib.hid (by
            rw [HQ.out, insJ, hx, hy]; simp)
          obtain ⟨g, cap', cur, e, hB⟩ := OwnX.form0 hown2 (by omega)
          rw [hl'] at e
          cases e
          have hcc : ∀ w', G wr w' none → w'.cell? ⟨g, (j + 1) * 4, none⟩ = some (.int .i64 x1) ∧ w'.cell? ⟨g, (j + 1) * 4 + 1, none⟩ = some (.string x2) ∧ w'.cell? ⟨g, (j + 1) * 4 + 2, none⟩ = some (.string x3) ∧ w'.cell? ⟨g, (j + 1) * 4 + 3, none⟩ = some (.int .i64 x4) ∧ w'.cell? ⟨g, j * 4, none⟩ = some (.int .i64 y1) ∧ w'.cell? ⟨g, j * 4 + 1, none⟩ = some (.string y2) ∧ w'.cell? ⟨g, j * 4 + 2, none⟩ = some (.string y3) ∧ w'.cell? ⟨g, j * 4 + 3, none⟩ = some (.int .i64 y4) := fun w' q => by
            have ex0 := RdR.cell paC_sz (Rd.of_owns hown2) q hx 0 (.int .i64 x1) rfl; have ex1 := RdR.cell paC_sz (Rd.of_owns hown2) q hx 1 (.string x2) rfl; have ex2 := RdR.cell paC_sz (Rd.of_owns hown2) q hx 2 (.string x3) rfl; have ex3 := RdR.cell paC_sz (Rd.of_owns hown2) q hx 3 (.int .i64 x4) rfl; have ey0 := RdR.cell paC_sz (Rd.of_owns hown2) q hy 0 (.int .i64 y1) rfl; have ey1 := RdR.cell paC_sz (Rd.of_owns hown2) q hy 1 (.string y2) rfl; have ey2 := RdR.cell paC_sz (Rd.of_owns hown2) q hy 2 (.string y3) rfl; have ey3 := RdR.cell paC_sz (Rd.of_owns hown2) q hy 3 (.int .i64 y4) rfl
            simp only [Nat.add_zero, Nat.zero_add] at ex0 ex1 ex2 ex3 ey0 ey1 ey2 ey3
            exact ⟨ex0, ex1, ex2, ex3, ey0, ey1, ey2, ey3⟩
          have HG0 := Lib.hid hG2
          have h0 : ((j : Int) + 1) > 0 := by omega
          have h1 : IntKind.i64.wrap ((j : Int) + 1 - 1) = (j : Int) := by rw [IntKind.wrap_i64]; omega
          have h2 : IntKind.i64.wrap (j : Int) = (j : Int) := by rw [IntKind.wrap_i64]; omega
          have h3 : (j : Int) + 1 < (l0.length : Int) := by omega
          have h4 : (j : Int) < (l0.length : Int) := by omega
          have h5 : (0 : Int) ≤ (j : Int) + 1 := by omega
          have h6 : (0 : Int) ≤ (j : Int) := by omega
          go_upto_region 4 with fail
          have hS := (G.refl wr none).drew
          refine wp_region_held_drew (S := (fun w' : World => w'.cell? ⟨g, (j + 1) * 4, none⟩ = some (.int .i64 x1) ∧ w'.cell? ⟨g, (j + 1) * 4 + 1, none⟩ = some (.string x2) ∧ w'.cell? ⟨g, (j + 1) * 4 + 2, none⟩ = some (.string x3) ∧ w'.cell? ⟨g, (j + 1) * 4 + 3, none⟩ = some (.int .i64 x4) ∧ w'.cell? ⟨g, j * 4, none⟩ = some (.int .i64 y1) ∧ w'.cell? ⟨g, j * 4 + 1, none⟩ = some (.string y2) ∧ w'.cell? ⟨g, j * 4 + 2, none⟩ = some (.string y3) ∧ w'.cell? ⟨g, j * 4 + 3, none⟩ = some (.int .i64 y4))) (by kernel_rfl) ?_ (fun hHeld => ?_)
          · exact hcc _ hS
          refine wpAnyH_take (i := 0) (oi := { dst := some 18, op := Op.move (Operand.tmp 9), type := 3, pos := _, after := #[], guard := none }) (v := ?_) rfl (by kernel_rfl) (by kernel_rfl) (by kernel_rfl) (fun _ _ _ h => h) (Or.inl ⟨by rfl, ?_⟩) (by assumption) ?_
          rotate_left
          · (intro w hSw; obtain ⟨q0, q1, q2, q3, q4, q5, q6, q7⟩ := hSw; (go_simp <;> with_reducible rfl))
          try simp only [Act.put, List.setIfInBounds_toArray, List.set_cons_zero, List.set_cons_succ]
          refine wpAnyH_take (i := 1) (oi := { dst := some 19, op := Op.move (Operand.tmp 1), type := 3, pos := _, after := #[], guard := none }) (v := ?_) rfl (by kernel_rfl) (by kernel_rfl) (by kernel_rfl) (fun _ _ _ h => h) (Or.inl ⟨by rfl, ?_⟩) (by assumption) ?_
          rotate_left
          · (intro w hSw; obtain ⟨q0, q1, q2, q3, q4, q5, q6, q7⟩ := hSw; (go_simp <;> with_reducible rfl))
          try simp only [Act.put, List.setIfInBounds_toArray, List.set_cons_zero, List.set_cons_succ]
          refine wpAnyH_take (i := 2) (oi := { dst := some 20, op := Op.binOp BinOp.gtr 3 (Operand.tmp 18) (Operand.tmp 19) 3, type := 4, pos := _, after := #[{ on := 0, ground := Ground.data }, { on := 1, ground := Ground.data }], guard := none }) (v := ?_) rfl (by kernel_rfl) (by kernel_rfl) (by kernel_rfl) (fun _ _ _ h => h) (Or.inl ⟨by rfl, ?_⟩) (by assumption) ?_
          rotate_left
          · (intro w hSw; obtain ⟨q0, q1, q2, q3, q4, q5, q6, q7⟩ := hSw; (go_simp <;> with_reducible rfl))
          try simp only [Act.put, List.setIfInBounds_toArray, List.set_cons_zero, List.set_cons_succ]
          refine wpAnyH_take (i := 3) (oi := { dst := some 21, op := Op.move (Operand.tmp 20), type := 4, pos := _, after := #[{ on := 2, ground := Ground.data }], guard := none }) (v := ?_) rfl (by kernel_rfl) (by kernel_rfl) (by kernel_rfl) (fun _ _ _ h => h) (Or.inl ⟨by rfl, ?_⟩) (by assumption) ?_
          rotate_left
          · (intro w hSw; obtain ⟨q0, q1, q2, q3, q4, q5, q6, q7⟩ := hSw; (go_simp <;> with_reducible rfl))
          try simp only [Act.put, List.setIfInBounds_toArray, List.set_cons_zero, List.set_cons_succ]
          refine wpAnyH_take (i := 4) (oi := { dst := some 22, op := Op.move (Operand.tmp 3), type := 54, pos := _, after := #[{ on := 3, ground := Ground.guard }], guard := some (3, true) }) (v := ?_) rfl (by kernel_rfl) (by kernel_rfl) (by kernel_rfl) (fun _ _ _ h => h) (Or.inl ⟨by rfl, ?_⟩) (by assumption) ?_
          rotate_left
          · (intro w hSw; obtain ⟨q0, q1, q2, q3, q4, q5, q6, q7⟩ := hSw; (go_simp <;> with_reducible rfl))
          try simp only [Act.put, List.setIfInBounds_toArray, List.set_cons_zero, List.set_cons_succ]
          refine wpAnyH_take (i := 5) (oi := { dst := some 23, op := Op.move (Operand.tmp 0), type := 28, pos := _, after := #[{ on := 3, ground := Ground.guard }], guard := some (3, true) }) (v := ?_) rfl (by kernel_rfl) (by kernel_rfl) (by kernel_rfl) (fun _ _ _ h => h) (Or.inl ⟨by rfl, ?_⟩) (by assumption) ?_
          rotate_left
          · (intro w hSw; obtain ⟨q0, q1, q2, q3, q4, q5, q6, q7⟩ := hSw; (go_simp <;> with_reducible rfl))
          try simp only [Act.put, List.setIfInBounds_toArray, List.set_cons_zero, List.set_cons_succ]
          refine wpAnyH_take (i := 6) (oi := { dst := some 24, op := Op.move (Operand.tmp 9), type := 3, pos := _, after := #[{ on := 3, ground := Ground.guard }], guard := some (3, true) }) (v := ?_) rfl (by kernel_rfl) (by kernel_rfl) (by kernel_rfl) (fun _ _ _ h => h) (Or.inl ⟨by rfl, ?_⟩) (by assumption) ?_
          rotate_left
          · (intro w hSw; obtain ⟨q0, q1, q2, q3, q4, q5, q6, q7⟩ := hSw; (go_simp <;> with_reducible rfl))
          try simp only [Act.put, List.setIfInBounds_toArray, List.set_cons_zero, List.set_cons_succ]
          refine wpAnyH_take (i := 7) (oi := { dst := some 25, op := Op.indexAddr 28 (Operand.tmp 23) (Operand.tmp 24), type := 0, pos := _, after := #[{ on := 5, ground := Ground.data }, { on := 6, ground := Ground.data }, { on := 3, ground := Ground.guard }], guard := some (3, true) }) (v := ?_) rfl (by kernel_rfl) (by kernel_rfl) (by kernel_rfl) (fun _ _ _ h => h) (Or.inl ⟨by rfl, ?_⟩) (by assumption) ?_
          rotate_left
          · (intro w hSw; obtain ⟨q0, q1, q2, q3, q4, q5, q6, q7⟩ := hSw; (go_simp <;> with_reducible rfl))
          try simp only [Act.put, List.setIfInBounds_toArray, List.set_cons_zero, List.set_cons_succ]
          refine wpAnyH_take (i := 8) (oi := { dst := some 26, op := Op.load 34 (Operand.tmp 25), type := 34, pos := _, after := #[{ on := 7, ground := Ground.data }, { on := 3, ground := Ground.guard }], guard := some (3, true) }) (v := ?_) rfl (by kernel_rfl) (by kernel_rfl) (by kernel_rfl) (fun _ _ _ h => h) (Or.inl ⟨by rfl, ?_⟩) (by assumption) ?_
          rotate_left
          · (intro w hSw; obtain ⟨q0, q1, q2, q3, q4, q5, q6, q7⟩ := hSw; (go_simp <;> with_reducible rfl))
          try simp only [Act.put, List.setIfInBounds_toArray, List.set_cons_zero, List.set_cons_succ]
          refine wpAnyH_take (i := 9) (oi := { dst := some 27, op := Op.move (Operand.tmp 0), type := 28, pos := _, after := #[{ on := 3, ground := Ground.guard }], guard := some (3, true) }) (v := ?_) rfl (by kernel_rfl) (by kernel_rfl) (by kernel_rfl) (fun _ _ _ h => h) (Or.inl ⟨by rfl, ?_⟩) (by assumption) ?_
          rotate_left
          · (intro w hSw; obtain ⟨q0, q1, q2, q3, q4, q5, q6, q7⟩ := hSw; (go_simp <;> with_reducible rfl))
          try simp only [Act.put, List.setIfInBounds_toArray, List.set_cons_zero, List.set_cons_succ]
          refine wpAnyH_take (i := 10) (oi := { dst := some 28, op := Op.move (Operand.tmp 9), type := 3, pos := _, after := #[{ on := 3, ground := Ground.guard }], guard := some (3, true) }) (v := ?_) rfl (by kernel_rfl) (by kernel_rfl) (by kernel_rfl) (fun _ _ _ h => h) (Or.inl ⟨by rfl, ?_⟩) (by assumption) ?_
          rotate_left
          · (intro w hSw; obtain ⟨q0, q1, q2, q3, q4, q5, q6, q7⟩ := hSw; (go_simp <;> with_reducible rfl))
          try simp only [Act.put, List.setIfInBounds_toArray, List.set_cons_zero, List.set_cons_succ]
          refine wpAnyH_take (i := 11) (oi := { dst := some 29, op := Op.binOp BinOp.sub 3 (Operand.tmp 28) (Operand.const (Value.int IntKind.i64 1)) 3, type := 3, pos := _, after := #[{ on := 10, ground := Ground.data }, { on := 3, ground := Ground.guard }], guard := some (3, true) }) (v := ?_) rfl (by kernel_rfl) (by kernel_rfl) (by kernel_rfl) (fun _ _ _ h => h) (Or.inl ⟨by rfl, ?_⟩) (by assumption) ?_
          rotate_left
          · (intro w hSw; obtain ⟨q0, q1, q2, q3, q4, q5, q6, q7⟩ := hSw; (go_simp <;> with_reducible rfl))
          try simp only [Act.put, List.setIfInBounds_toArray, List.set_cons_zero, List.set_cons_succ]
          refine wpAnyH_take (i := 12) (oi := { dst := some 30, op := Op.indexAddr 28 (Operand.tmp 27) (Operand.tmp 29), type := 0, pos := _, after := #[{ on := 9, ground := Ground.data }, { on := 11, ground := Ground.data }, { on := 3, ground := Ground.guard }], guard := some (3, true) }) (v := ?_) rfl (by kernel_rfl) (by kernel_rfl) (by kernel_rfl) (fun _ _ _ h => h) (Or.inl ⟨by rfl, ?_⟩) (by assumption) ?_
          rotate_left
          · (intro w hSw; obtain ⟨q0, q1, q2, q3, q4, q5, q6, q7⟩ := hSw; (go_simp <;> with_reducible rfl))
          try simp only [Act.put, List.setIfInBounds_toArray, List.set_cons_zero, List.set_cons_succ]
          refine wpAnyH_take (i := 13) (oi := { dst := some 31, op := Op.load 34 (Operand.tmp 30), type := 34, pos := _, after := #[{ on := 12, ground := Ground.data }, { on := 3, ground := Ground.guard }], guard := some (3, true) }) (v := ?_) rfl (by kernel_rfl) (by kernel_rfl) (by kernel_rfl) (fun _ _ _ h => h) (Or.inl ⟨by rfl, ?_⟩) (by assumption) ?_
          rotate_left
          · (intro w hSw; obtain ⟨q0, q1, q2, q3, q4, q5, q6, q7⟩ := hSw; (go_simp <;> with_reducible rfl))
          try simp only [Act.put, List.setIfInBounds_toArray, List.set_cons_zero, List.set_cons_succ]
          refine wpAnyH_ready (rs := [14]) (by kernel_rfl) (by simp) ?_
          refine AllReadyH.cons (o := { dst := some 32, op := Op.call { callee := Callee.value (Operand.tmp 22), args := #[Operand.tmp 26, Operand.tmp 31], argTypes := #[34, 34] }, type := 3, pos := _, after := #[{ on := 4, ground := Ground.data }, { on := 8, ground := Ground.data }, { on := 13, ground := Ground.data }, { on := 3, ground := Ground.chain }, { on := 3, ground := Ground.guard }], guard := some (3, true) }) rfl (fun K hK => ?_) AllReadyH.nil
          go_simp
          refine (HAL.out (x1, x2, x3, x4) (y1, y2, y3, y4) _ (HSUB2.out _ (List.mem_of_getElem? hx)) (HSUB2.out _ (List.mem_of_getElem? hy)) (HG0.out.trans (GS.of_G hS))).mono ?_
          rintro e w4 ⟨rfl, hh⟩
          replace hS := hS.trans hh
          clear hh
          refine hK.out _ _ ?_ (fun hHeld => ?_)
          · exact hcc _ hS
          clear hK K
          try simp only [Act.put, List.setIfInBounds_toArray, List.set_cons_zero, List.set_cons_succ]
          refine wpAnyH_take (i := 15) (oi := { dst := some 33, op := Op.binOp BinOp.lss 3 (Operand.tmp 32) (Operand.const (Value.int IntKind.i64 0)) 3, type := 4, pos := _, after := #[{ on := 14, ground := Ground.data }, { on := 3, ground := Ground.guard }], guard := some (3, true) }) (v := ?_) rfl (by kernel_rfl) (by kernel_rfl) (by kernel_rfl) (fun _ _ _ h => h) (Or.inl ⟨by rfl, ?_⟩) (by assumption) ?_
          rotate_left
          · (intro w hSw; obtain ⟨q0, q1, q2, q3, q4, q5, q6, q7⟩ := hSw; (go_simp <;> with_reducible rfl))
          try simp only [Act.put, List.setIfInBounds_toArray, List.set_cons_zero, List.set_cons_succ]
          refine wpAnyH_take (i := 16) (oi := { dst := some 34, op := Op.pick (Operand.tmp 21) (Operand.tmp 33) (Operand.const (Value.bool false)), type := 4, pos := _, after := #[{ on := 3, ground := Ground.data }, { on := 15, ground := Ground.data }], guard := none }) (v := ?_) rfl (by kernel_rfl) (by kernel_rfl) (by kernel_rfl) (fun _ _ _ h => h) (Or.inl ⟨by rfl, ?_⟩) (by assumption) ?_
          rotate_left
          · (intro w hSw; obtain ⟨q0, q1, q2, q3, q4, q5, q6, q7⟩ := hSw; (go_simp <;> with_reducible rfl))
          try simp only [Act.put, List.setIfInBounds_toArray, List.set_cons_zero, List.set_cons_succ]
          refine wpAnyH_done (by kernel_rfl) ?_ _
          clear hHeld
          have hown4 := OwnX.quiet hown2 hS
          have hG4 := hG2.trans (GS.of_G hS)
          by_cases hc : cf (x1, x2, x3, x4) (y1, y2, y3, y4) < 0
          · have HF : Hid (insJ (fun x y => decide (cf x y < 0)) i l = insJ (fun x y => decide (cf x y < 0)) j ((l'.set (j + 1) (y1, y2, y3, y4)).set j (x1, x2, x3, x4))) := Lib.hid (by rw [HDJ.out, if_pos hc])
            obtain ⟨m0, m1, m2, m3, n0, n1, n2, n3⟩ := hcc _ hS
            go_upto_region 6 with fail
            have hown5 : OwnPa w4.drew base _ _ := OwnX.drew hown4
            have hG5 := hG4.trans (GS.of_G (G.refl w4 none).drew)
            clear m0 m1 m2 m3 n0 n1 n2 n3 hown4 hG4
            have hS5 := hS.drew
            clear hS
            obtain ⟨w5, hw5⟩ : ∃ w5, w4.drew = w5 := ⟨_, rfl⟩
            rw [hw5] at hown5 hG5 hS5
            have HSUB3 : Hid (∀ z ∈ (l'.set (j + 1) (y1, y2, y3, y4)).set j (x1, x2, x3, x4), z ∈ l0) := Lib.hid (fun z hz => by
              rcases List.mem_or_eq_of_mem_set hz with hz | rfl
              · rcases List.mem_or_eq_of_mem_set hz with hz | rfl
                · exact HSUB2.out z hz
                · exact HSUB2.out _ (List.mem_of_getElem? hy)
              · exact HSUB2.out _ (List.mem_of_getElem? hx))
            obtain ⟨m0, m1, m2, m3, n0, n1, n2, n3⟩ := hcc _ hS5
            have hj1 : l'[j + 1]? = some (x1, x2, x3, x4) := hx
            have HT1 : Hid (w5.there g ((j + 1) * 4) (#[.int .i64 y1, .string y2, .string y3, .int .i64 y4] : Array Value).size) := Lib.hid (pa_there hown5 hl' (by omega))
            have hA := pa_set hown5 hl' hj1 (y1, y2, y3, y4)
            have hy2 : (l'.set (j + 1) (y1, y2, y3, y4))[j]? = some (y1, y2, y3, y4) := by rw [List.getElem?_set_ne (by omega)]; exact hy
            have HT2 : Hid ((w5.setCells g ((j + 1) * 4) [.int .i64 y1, .string y2, .string y3, .int .i64 y4]).there g (j * 4) (#[.int .i64 x1, .string x2, .string x3, .int .i64 x4] : Array Value).size) := Lib.hid (pa_there hA (by rw [List.length_set]; exact hl') (by omega))
            have hBB := pa_set hA (by rw [List.length_set]; exact hl') hy2 (x1, x2, x3, x4)
            have hG6 := (hG5.trans (GS.of_Gs (pa_grow w5 g ((j + 1) * 4) (y1, y2, y3, y4)) (show S1 _ g from rfl))).trans (GS.of_Gs (pa_grow _ g (j * 4) (x1, x2, x3, x4)) (show S1 _ g from rfl))
            refine wp_region_held_drew (S := (fun _ : World => True)) (by kernel_rfl) ?_ (fun hHeld => ?_)
            · exact trivial
            rw [hw5]
            clear hw5
            refine wpAnyH_take (i := 0) (oi := { dst := some 37, op := Op.move (Operand.tmp 0), type := 28, pos := _, after := #[], guard := none }) (v := ?_) rfl (by kernel_rfl) (by kernel_rfl) (by kernel_rfl) (fun _ _ _ h => h) (Or.inl ⟨by rfl, ?_⟩) (by assumption) ?_
            rotate_left
            · (intro w hSw; clear hSw; (go_simp <;> with_reducible rfl))
            try simp only [Act.put, List.setIfInBounds_toArray, List.set_cons_zero, List.set_cons_succ]
            refine wpAnyH_take (i := 1) (oi := { dst := some 38, op := Op.move (Operand.tmp 9), type := 3, pos := _, after := #[], guard := none }) (v := ?_) rfl (by kernel_rfl) (by kernel_rfl) (by kernel_rfl) (fun _ _ _ h => h) (Or.inl ⟨by rfl, ?_⟩) (by assumption) ?_
            rotate_left
            · (intro w hSw; clear hSw; (go_simp <;> with_reducible rfl))
            try simp only [Act.put, List.setIfInBounds_toArray, List.set_cons_zero, List.set_cons_succ]
            refine wpAnyH_take (i := 2) (oi := { dst := some 39, op := Op.move (Operand.tmp 0), type := 28, pos := _, after := #[{ on := 15, ground := Ground.gcOnly Departure.lateStores }], guard := none }) (v := ?_) rfl (by kernel_rfl) (by kernel_rfl) (by kernel_rfl) (fun _ _ _ h => h) (Or.inl ⟨by rfl, ?_⟩) (by assumption) ?_
            rotate_left
            · (intro w hSw; clear hSw; (go_simp <;> with_reducible rfl))
            try simp only [Act.put, List.setIfInBounds_toArray, List.set_cons_zero, List.set_cons_succ]
            refine wpAnyH_take (i := 3) (oi := { dst := some 40, op := Op.move (Operand.tmp 9), type := 3, pos := _, after := #[{ on := 15, ground := Ground.gcOnly Departure.lateStores }], guard := none }) (v := ?_) rfl (by kernel_rfl) (by kernel_rfl) (by kernel_rfl) (fun _ _ _ h => h) (Or.inl ⟨by rfl, ?_⟩) (by assumption) ?_
            rotate_left
            · (intro w hSw; clear hSw; (go_simp <;> with_reducible rfl))
            try simp only [Act.put, List.setIfInBounds_toArray, List.set_cons_zero, List.set_cons_succ]
            refine wpAnyH_take (i := 4) (oi := { dst := some 41, op := Op.binOp BinOp.sub 3 (Operand.tmp 40) (Operand.const (Value.int IntKind.i64 1)) 3, type := 3, pos := _, after := #[{ on := 3, ground := Ground.data }, { on := 15, ground := Ground.gcOnly Departure.lateStores }], guard := none }) (v := ?_) rfl (by kernel_rfl) (by kernel_rfl) (by kernel_rfl) (fun _ _ _ h => h) (Or.inl ⟨by rfl, ?_⟩) (by assumption) ?_
            rotate_left
            · (intro w hSw; clear hSw; (go_simp <;> with_reducible rfl))
            try simp only [Act.put, List.setIfInBounds_toArray, List.set_cons_zero, List.set_cons_succ]
            refine wpAnyH_take (i := 5) (oi := { dst := some 42, op := Op.move (Operand.tmp 0), type := 28, pos := _, after := #[], guard := none }) (v := ?_) rfl (by kernel_rfl) (by kernel_rfl) (by kernel_rfl) (fun _ _ _ h => h) (Or.inl ⟨by rfl, ?_⟩) (by assumption) ?_
            rotate_left
            · (intro w hSw; clear hSw; (go_simp <;> with_reducible rfl))
            try simp only [Act.put, List.setIfInBounds_toArray, List.set_cons_zero, List.set_cons_succ]
            refine wpAnyH_take (i := 6) (oi := { dst := some 43, op := Op.move (Operand.tmp 9), type := 3, pos := _, after := #[], guard := none }) (v := ?_) rfl (by kernel_rfl) (by kernel_rfl) (by kernel_rfl) (fun _ _ _ h => h) (Or.inl ⟨by rfl, ?_⟩) (by assumption) ?_
            rotate_left
            · (intro w hSw; clear hSw; (go_simp <;> with_reducible rfl))
            try simp only [Act.put, List.setIfInBounds_toArray, List.set_cons_zero, List.set_cons_succ]
            refine wpAnyH_take (i := 7) (oi := { dst := some 44, op := Op.binOp BinOp.sub 3 (Operand.tmp 43) (Operand.const (Value.int IntKind.i64 1)) 3, type := 3, pos := _, after := #[{ on := 6, ground := Ground.data }], guard := none }) (v := ?_) rfl (by kernel_rfl) (by kernel_rfl) (by kernel_rfl) (fun _ _ _ h => h) (Or.inl ⟨by rfl, ?_⟩) (by assumption) ?_
            rotate_left
            · (intro w hSw; clear hSw; (go_simp <;> with_reducible rfl))
            try simp only [Act.put, List.setIfInBounds_toArray, List.set_cons_zero, List.set_cons_succ]
            refine wpAnyH_take (i := 8) (oi := { dst := some 45, op := Op.indexAddr 28 (Operand.tmp 42) (Operand.tmp 44), type := 0, pos := _, after := #[{ on := 5, ground := Ground.data }, { on := 7, ground := Ground.data }], guard := none }) (v := ?_) rfl (by kernel_rfl) (by kernel_rfl) (by kernel_rfl) (fun _ _ _ h => h) (Or.inl ⟨by rfl, ?_⟩) (by assumption) ?_
            rotate_left
            · (intro w hSw; clear hSw; (go_simp <;> with_reducible rfl))
            try simp only [Act.put, List.setIfInBounds_toArray, List.set_cons_zero, List.set_cons_succ]
            refine wpAnyH_take (i := 10) (oi := { dst := some 47, op := Op.move (Operand.tmp 0), type := 28, pos := _, after := #[], guard := none }) (v := ?_) rfl (by kernel_rfl) (by kernel_rfl) (by kernel_rfl) (fun _ _ _ h => h) (Or.inl ⟨by rfl, ?_⟩) (by assumption) ?_
            rotate_left
            · (intro w hSw; clear hSw; (go_simp <;> with_reducible rfl))
            try simp only [Act.put, List.setIfInBounds_toArray, List.set_cons_zero, List.set_cons_succ]
            refine wpAnyH_take (i := 11) (oi := { dst := some 48, op := Op.move (Operand.tmp 9), type := 3, pos := _, after := #[], guard := none }) (v := ?_) rfl (by kernel_rfl) (by kernel_rfl) (by kernel_rfl) (fun _ _ _ h => h) (Or.inl ⟨by rfl, ?_⟩) (by assumption) ?_
            rotate_left
            · (intro w hSw; clear hSw; (go_simp <;> with_reducible rfl))
            try simp only [Act.put, List.setIfInBounds_toArray, List.set_cons_zero, List.set_cons_succ]
            refine wpAnyH_take (i := 12) (oi := { dst := some 49, op := Op.indexAddr 28 (Operand.tmp 47) (Operand.tmp 48), type := 0, pos := _, after := #[{ on := 10, ground := Ground.data }, { on := 11, ground := Ground.data }], guard := none }) (v := ?_) rfl (by kernel_rfl) (by kernel_rfl) (by kernel_rfl) (fun _ _ _ h => h) (Or.inl ⟨by rfl, ?_⟩) (by assumption) ?_
            rotate_left
            · (intro w hSw; clear hSw; (go_simp <;> with_reducible rfl))
            try simp only [Act.put, List.setIfInBounds_toArray, List.set_cons_zero, List.set_cons_succ]
            refine wpAnyH_ready (rs := [9, 13]) (by kernel_rfl) (by simp) ?_
            refine (AllReadyH.cons (o := { dst := some 46, op := Op.load 34 (Operand.tmp 45), type := 34, pos := _, after := #[{ on := 8, ground := Ground.data }], guard := none }) rfl (fun K hK => ?_) (AllReadyH.cons (o := { dst := some 50, op := Op.load 34 (Operand.tmp 49), type := 34, pos := _, after := #[{ on := 12, ground := Ground.data }], guard := none }) rfl (fun K hK => ?_) AllReadyH.nil))
            · go_simp
              refine hK.out _ _ ?_ (fun hHeld => ?_)
              · exact trivial
              clear hK K
              try simp only [Act.put, List.setIfInBounds_toArray, List.set_cons_zero, List.set_cons_succ]
              refine wpAnyH_ready (rs := [13]) (by kernel_rfl) (by simp) ?_
              refine (AllReadyH.cons (o := { dst := some 50, op := Op.load 34 (Operand.tmp 49), type := 34, pos := _, after := #[{ on := 12, ground := Ground.data }], guard := none }) rfl (fun K hK => ?_) AllReadyH.nil)
              go_simp
              refine hK.out _ _ ?_ (fun hHeld => ?_)
              · exact trivial
              clear hK K
              try simp only [Act.put, List.setIfInBounds_toArray, List.set_cons_zero, List.set_cons_succ]
              refine wpAnyH_take (i := 14) (oi := { dst := some 51, op := Op.indexAddr 28 (Operand.tmp 37) (Operand.tmp 38), type := 0, pos := _, after := #[{ on := 0, ground := Ground.data }, { on := 1, ground := Ground.data }, { on := 0, ground := Ground.phase }, { on := 1, ground := Ground.phase }, { on := 2, ground := Ground.textOnly Departure.lateStores }, { on := 3, ground := Ground.textOnly Departure.lateStores }, { on := 4, ground := Ground.textOnly Departure.lateStores }, { on := 5, ground := Ground.phase }, { on := 6, ground := Ground.phase }, { on := 7, ground := Ground.phase }, { on := 8, ground := Ground.phase }, { on := 9, ground := Ground.phase }, { on := 10, ground := Ground.textOnly Departure.lateStores }, { on := 11, ground := Ground.textOnly Departure.lateStores }, { on := 12, ground := Ground.textOnly Departure.lateStoresUnsure }, { on := 13, ground := Ground.phase }], guard := none }) (v := ?_) rfl (by kernel_rfl) (by kernel_rfl) (by kernel_rfl) (fun _ _ _ h => h) (Or.inl ⟨by rfl, ?_⟩) (by assumption) ?_
              rotate_left
              · (intro w hSw; clear hSw; (go_simp <;> with_reducible rfl))
              try simp only [Act.put, List.setIfInBounds_toArray, List.set_cons_zero, List.set_cons_succ]
              refine wpAnyH_ready (rs := [15]) (by kernel_rfl) (by simp) ?_
              refine (AllReadyH.cons (o := { dst := none, op := Op.store 34 (Operand.tmp 51) (Operand.tmp 46), type := 0, pos := _, after := #[{ on := 14, ground := Ground.data }, { on := 9, ground := Ground.data }, { on := 0, ground := Ground.phase }, { on := 1, ground := Ground.phase }, { on := 2, ground := Ground.textOnly Departure.lateStores }, { on := 3, ground := Ground.textOnly Departure.lateStores }, { on := 4, ground := Ground.textOnly Departure.lateStores }, { on := 5, ground := Ground.phase }, { on := 6, ground := Ground.phase }, { on := 7, ground := Ground.phase }, { on := 8, ground := Ground.phase }, { on := 9, ground := Ground.phase }, { on := 10, ground := Ground.textOnly Departure.lateStores }, { on := 11, ground := Ground.textOnly Departure.lateStores }, { on := 12, ground := Ground.textOnly Departure.lateStoresUnsure }, { on := 13, ground := Ground.phase }], guard := none }) rfl (fun K hK => ?_) AllReadyH.nil)
              refine st_wp rfl (wp_store_mid 34 _ _ rfl g ((j + 1) * 4) #[.int .i64 y1, .string y2, .string y3, .int .i64 y4] rfl rfl HT1.out (pa_info (y1, y2, y3, y4)) (pa_one (y1, y2, y3, y4)) ?_)
              refine hK.out _ _ ?_ (fun hHeld => ?_)
              · exact trivial
              clear hK K
              try simp only [Act.put, List.setIfInBounds_toArray, List.set_cons_zero, List.set_cons_succ]
              refine wpAnyH_take (i := 16) (oi := { dst := some 52, op := Op.indexAddr 28 (Operand.tmp 39) (Operand.tmp 41), type := 0, pos := _, after := #[{ on := 2, ground := Ground.data }, { on := 4, ground := Ground.data }, { on := 0, ground := Ground.phase }, { on := 1, ground := Ground.phase }, { on := 2, ground := Ground.phase }, { on := 3, ground := Ground.phase }, { on := 4, ground := Ground.phase }, { on := 5, ground := Ground.phase }, { on := 6, ground := Ground.phase }, { on := 7, ground := Ground.phase }, { on := 8, ground := Ground.phase }, { on := 9, ground := Ground.phase }, { on := 10, ground := Ground.phase }, { on := 11, ground := Ground.phase }, { on := 12, ground := Ground.phase }, { on := 13, ground := Ground.phase }, { on := 14, ground := Ground.phase }, { on := 15, ground := Ground.phase }], guard := none }) (v := ?_) rfl (by kernel_rfl) (by kernel_rfl) (by kernel_rfl) (fun _ _ _ h => h) (Or.inl ⟨by rfl, ?_⟩) (by assumption) ?_
              rotate_left
              · (intro w hSw; clear hSw; (go_simp <;> with_reducible rfl))
              try simp only [Act.put, List.setIfInBounds_toArray, List.set_cons_zero, List.set_cons_succ]
              refine wpAnyH_ready (rs := [17]) (by kernel_rfl) (by simp) ?_
              refine (AllReadyH.cons (o := { dst := none, op := Op.store 34 (Operand.tmp 52) (Operand.tmp 50), type := 0, pos := _, after := #[{ on := 16, ground := Ground.data }, { on := 13, ground := Ground.data }, { on := 15, ground := Ground.chain }, { on := 0, ground := Ground.phase }, { on := 1, ground := Ground.phase }, { on := 2, ground := Ground.phase }, { on := 3, ground := Ground.phase }, { on := 4, ground := Ground.phase }, { on := 5, ground := Ground.phase }, { on := 6, ground := Ground.phase }, { on := 7, ground := Ground.phase }, { on := 8, ground := Ground.phase }, { on := 9, ground := Ground.phase }, { on := 10, ground := Ground.phase }, { on := 11, ground := Ground.phase }, { on := 12, ground := Ground.phase }, { on := 13, ground := Ground.phase }, { on := 14, ground := Ground.phase }, { on := 15, ground := Ground.phase }], guard := none }) rfl (fun K hK => ?_) AllReadyH.nil)
              refine st_wp rfl (wp_store_mid 34 _ _ rfl g (j * 4) #[.int .i64 x1, .string x2, .string x3, .int .i64 x4] rfl rfl HT2.out (pa_info (x1, x2, x3, x4)) (pa_one (x1, x2, x3, x4)) ?_)
              refine hK.out _ _ ?_ (fun hHeld => ?_)
              · exact trivial
              clear hK K
              try simp only [Act.put, List.setIfInBounds_toArray, List.set_cons_zero, List.set_cons_succ]
              refine wpAnyH_done (by kernel_rfl) ?_ _
              clear hHeld
              go_wp2_with fail
              go_roundw
              case rel => exact ⟨j, (l'.set (j + 1) (y1, y2, y3, y4)).set j (x1, x2, x3, x4), by omega, by go_num, HF.out, by simp [hl'], HSUB3.out, hBB, hG6⟩
              case measure => simp [intOf]
            · go_simp
              refine hK.out _ _ ?_ (fun hHeld => ?_)
              · exact trivial
              clear hK K
              try simp only [Act.put, List.setIfInBounds_toArray, List.set_cons_zero, List.set_cons_succ]
              refine wpAnyH_ready (rs := [9]) (by kernel_rfl) (by simp) ?_
              refine (AllReadyH.cons (o := { dst := some 46, op := Op.load 34 (Operand.tmp 45), type := 34, pos := _, after := #[{ on := 8, ground := Ground.data }], guard := none }) rfl (fun K hK => ?_) AllReadyH.nil)
              go_simp
              refine hK.out _ _ ?_ (fun hHeld => ?_)
              · exact trivial
              clear hK K
              try simp only [Act.put, List.setIfInBounds_toArray, List.set_cons_zero, List.set_cons_succ]
              refine wpAnyH_take (i := 14) (oi := { dst := some 51, op := Op.indexAddr 28 (Operand.tmp 37) (Operand.tmp 38), type := 0, pos := _, after := #[{ on := 0, ground := Ground.data }, { on := 1, ground := Ground.data }, { on := 0, ground := Ground.phase }, { on := 1, ground := Ground.phase }, { on := 2, ground := Ground.textOnly Departure.lateStores }, { on := 3, ground := Ground.textOnly Departure.lateStores }, { on := 4, ground := Ground.textOnly Departure.lateStores }, { on := 5, ground := Ground.phase }, { on := 6, ground := Ground.phase }, { on := 7, ground := Ground.phase }, { on := 8, ground := Ground.phase }, { on := 9, ground := Ground.phase }, { on := 10, ground := Ground.textOnly Departure.lateStores }, { on := 11, ground := Ground.textOnly Departure.lateStores }, { on := 12, ground := Ground.textOnly Departure.lateStoresUnsure }, { on := 13, ground := Ground.phase }], guard := none }) (v := ?_) rfl (by kernel_rfl) (by kernel_rfl) (by kernel_rfl) (fun _ _ _ h => h) (Or.inl ⟨by rfl, ?_⟩) (by assumption) ?_
              rotate_left
              · (intro w hSw; clear hSw; (go_simp <;> with_reducible rfl))
              try simp only [Act.put, List.setIfInBounds_toArray, List.set_cons_zero, List.set_cons_succ]
              refine wpAnyH_ready (rs := [15]) (by kernel_rfl) (by simp) ?_
              refine (AllReadyH.cons (o := { dst := none, op := Op.store 34 (Operand.tmp 51) (Operand.tmp 46), type := 0, pos := _, after := #[{ on := 14, ground := Ground.data }, { on := 9, ground := Ground.data }, { on := 0, ground := Ground.phase }, { on := 1, ground := Ground.phase }, { on := 2, ground := Ground.textOnly Departure.lateStores }, { on := 3, ground := Ground.textOnly Departure.lateStores }, { on := 4, ground := Ground.textOnly Departure.lateStores }, { on := 5, ground := Ground.phase }, { on := 6, ground := Ground.phase }, { on := 7, ground := Ground.phase }, { on := 8, ground := Ground.phase }, { on := 9, ground := Ground.phase }, { on := 10, ground := Ground.textOnly Departure.lateStores }, { on := 11, ground := Ground.textOnly Departure.lateStores }, { on := 12, ground := Ground.textOnly Departure.lateStoresUnsure }, { on := 13, ground := Ground.phase }], guard := none }) rfl (fun K hK => ?_) AllReadyH.nil)
              refine st_wp rfl (wp_store_mid 34 _ _ rfl g ((j + 1) * 4) #[.int .i64 y1, .string y2, .string y3, .int .i64 y4] rfl rfl HT1.out (pa_info (y1, y2, y3, y4)) (pa_one (y1, y2, y3, y4)) ?_)
              refine hK.out _ _ ?_ (fun hHeld => ?_)
              · exact trivial
              clear hK K
              try simp only [Act.put, List.setIfInBounds_toArray, List.set_cons_zero, List.set_cons_succ]
              refine wpAnyH_take (i := 16) (oi := { dst := some 52, op := Op.indexAddr 28 (Operand.tmp 39) (Operand.tmp 41), type := 0, pos := _, after := #[{ on := 2, ground := Ground.data }, { on := 4, ground := Ground.data }, { on := 0, ground := Ground.phase }, { on := 1, ground := Ground.phase }, { on := 2, ground := Ground.phase }, { on := 3, ground := Ground.phase }, { on := 4, ground := Ground.phase }, { on := 5, ground := Ground.phase }, { on := 6, ground := Ground.phase }, { on := 7, ground := Ground.phase }, { on := 8, ground := Ground.phase }, { on := 9, ground := Ground.phase }, { on := 10, ground := Ground.phase }, { on := 11, ground := Ground.phase }, { on := 12, ground := Ground.phase }, { on := 13, ground := Ground.phase }, { on := 14, ground := Ground.phase }, { on := 15, ground := Ground.phase }], guard := none }) (v := ?_) rfl (by kernel_rfl) (by kernel_rfl) (by kernel_rfl) (fun _ _ _ h => h) (Or.inl ⟨by rfl, ?_⟩) (by assumption) ?_
              rotate_left
              · (intro w hSw; clear hSw; (go_simp <;> with_reducible rfl))
              try simp only [Act.put, List.setIfInBounds_toArray, List.set_cons_zero, List.set_cons_succ]
              refine wpAnyH_ready (rs := [17]) (by kernel_rfl) (by simp) ?_
              refine (AllReadyH.cons (o := { dst := none, op := Op.store 34 (Operand.tmp 52) (Operand.tmp 50), type := 0, pos := _, after := #[{ on := 16, ground := Ground.data }, { on := 13, ground := Ground.data }, { on := 15, ground := Ground.chain }, { on := 0, ground := Ground.phase }, { on := 1, ground := Ground.phase }, { on := 2, ground := Ground.phase }, { on := 3, ground := Ground.phase }, { on := 4, ground := Ground.phase }, { on := 5, ground := Ground.phase }, { on := 6, ground := Ground.phase }, { on := 7, ground := Ground.phase }, { on := 8, ground := Ground.phase }, { on := 9, ground := Ground.phase }, { on := 10, ground := Ground.phase }, { on := 11, ground := Ground.phase }, { on := 12, ground := Ground.phase }, { on := 13, ground := Ground.phase }, { on := 14, ground := Ground.phase }, { on := 15, ground := Ground.phase }], guard := none }) rfl (fun K hK => ?_) AllReadyH.nil)
              refine st_wp rfl (wp_store_mid 34 _ _ rfl g (j * 4) #[.int .i64 x1, .string x2, .string x3, .int .i64 x4] rfl rfl HT2.out (pa_info (x1, x2, x3, x4)) (pa_one (x1, x2, x3, x4)) ?_)
              refine hK.out _ _ ?_ (fun hHeld => ?_)
              · exact trivial
              clear hK K
              try simp only [Act.put, List.setIfInBounds_toArray, List.set_cons_zero, List.set_cons_succ]
              refine wpAnyH_done (by kernel_rfl) ?_ _
              clear hHeld
              go_wp2_with fail
              go_roundw
              case rel => exact ⟨j, (l'.set (j + 1) (y1, y2, y3, y4)).set j (x1, x2, x3, x4), by omega, by go_num, HF.out, by simp [hl'], HSUB3.out, hBB, hG6⟩
              case measure => simp [intOf]
          · have HF : Hid (insJ (fun x y => decide (cf x y < 0)) i l = l') := Lib.hid (by rw [HDJ.out, if_neg hc])
            go_wp2_with fail
            go_roundw
            case rel => exact ⟨i + 1, l', by omega, by omega, by go_num, by rw [HD.out, HF.out], hl', HSUB2.out, hown4, hG4⟩
            case measure => have := HI.out; simp [intOf]; omega
    · have hfin : isrt (fun x y => decide (cf x y < 0)) l0 = l := by rw [HE.out, show l0.length - i = 0 by omega, isF]
      go_wp2_with fail
      refine bodyPost_end (results_none rfl _ _ _) rfl ?_
      exact ⟨rfl, by rw [hfin]; exact hownr, hGr⟩
set_option maxRecDepth 100000 in
set_option maxHeartbeats 4000000 in
theorem stableP_c (F : FuncId) (caps : Array Value) (cf : Pa → Pa → Int) (v : Value) (l0 : List Pa) (base : Nat) (w : World) (hcf : ∀ (args : Array Value) (w : World), (callFunc F args).run Tryd.prog w = .ok (.enter F args) w)
    (hal : ∀ (x y : Pa) (w' : World), x ∈ l0 → y ∈ l0 → GS (S1 v) w w' → Calls Tryd.prog F (#[.agg (paC x), .agg (paC y)] ++ caps) w' fun e w'' => e = .returned (.int .i64 (cf x y)) ∧ G w' w'' none)
    (hown : OwnPa w base v l0) (hn : l0.length < 20) :
    Calls Tryd.prog 46 #[v, .int .i64 l0.length, .func (.func F) #[] caps] w fun e w' => e = .returned (.tuple #[]) ∧ OwnPa w' base v (isrt (fun x y => decide (cf x y < 0)) l0) ∧ GS (S1 v) w w' := by
  have CI := Lib.hid (insSortP_c F caps cf v l0 base w hcf hal hown (by omega))
  have h1 : ¬ (20 : Int) ≤ (l0.length : Int) := by omega
  have h2 : ¬ (20 : Int) < (l0.length : Int) := by omega
  obtain ⟨a, cap, rfl, hcap, hm⟩ := RdR.form (c := paC) (Rd.of_owns hown)
  clear hal hown hcf
  go_enter Tryd.func46, Tryd.ntmps46
  go_wp2_with fail
  go_loopw [7, 8] (fun s7 s8 wr => s7 = .int .i64 0 ∧ s8 = .int .i64 20 ∧ wr = w) (fun _ _ _ => 0)
  case atStart => exact ⟨rfl, rfl, rfl⟩
  case round =>
    obtain ⟨rfl, rfl, rfl⟩ := hrel
    go_wp2_with fail
    refine CI.out.mono ?_; rintro e w2 ⟨rfl, hown2, hG2⟩
    go_wp2_with fail
    go_loopw [6, 7, 8, 9] (fun s6 _ _ _ wr => s6 = .int .i64 20 ∧ wr = w2) (fun _ _ _ _ _ => 0)
    case atStart => exact ⟨rfl, rfl⟩
    case round =>
      obtain ⟨rfl, rfl⟩ := hrel
      go_wp2_with fail
      refine bodyPost_end (results_none rfl _ _ _) rfl ?_
      exact ⟨rfl, hown2, hG2⟩
set_option maxRecDepth 100000 in
set_option maxHeartbeats 4000000 in
theorem sortStableP_c (F : FuncId) (caps : Array Value) (cf : Pa → Pa → Int) (v : Value) (l0 : List Pa) (base : Nat) (w : World) (hcf : ∀ (args : Array Value) (w : World), (callFunc F args).run Tryd.prog w = .ok (.enter F args) w)
    (hal : ∀ (x y : Pa) (w' : World), x ∈ l0 → y ∈ l0 → GS (S1 v) w w' → Calls Tryd.prog F (#[.agg (paC x), .agg (paC y)] ++ caps) w' fun e w'' => e = .returned (.int .i64 (cf x y)) ∧ G w' w'' none)
    (hown : OwnPa w base v l0) (hn : l0.length < 20) :
    Calls Tryd.prog 24 #[v, .func (.func F) #[] caps] w fun e w' => e = .returned (.tuple #[]) ∧ OwnPa w' base v (isrt (fun x y => decide (cf x y < 0)) l0) ∧ GS (S1 v) w w' := by
  have CI := Lib.hid (stableP_c F caps cf v l0 base w hcf hal hown hn)
  obtain ⟨a, cap, rfl, hcap, hm⟩ := RdR.form (c := paC) (Rd.of_owns hown)
  clear hal hown hcf
  go_enter Tryd.func24, Tryd.ntmps24
  go_wp2_with fail
  refine CI.out.mono ?_; rintro e w2 ⟨rfl, hown2, hG2⟩
  go_wp2_with fail
  refine bodyPost_end (results_none rfl _ _ _) rfl ?_
  exact ⟨rfl, hown2, hG2⟩
end Go.Proofs.YtkpmcakppiinlaaDoor

/- clear of a slice of structs; the beginning of an owned row behind stores further on. No program. -/
namespace Go.Proofs.YtkpmcakppiinlaaDoor
open Go.RowKit

theorem setCells_grow (g : Nat) : ∀ (vs : List Value) (o : Nat) (w : World), w.grownBy (w.setCells g o vs) (some g)
  | [], _, w => World.grownBy.refl w _
  | v :: r, o, w => (grownBy_setCell_row w ⟨g, o, none⟩ v).trans (setCells_grow g r (o + 1) _)
theorem setCells_block (g : Nat) (T : TypeId) : ∀ (vs : List Value) (o : Nat) (w : World) (cur : Array Value), w.heap[g]? = some (.cells cur T (0, 0)) →
    ∃ cur' : Array Value, (w.setCells g o vs).heap[g]? = some (.cells cur' T (0, 0)) ∧ cur'.size = cur.size ∧ ∀ i, i < o → cur'[i]? = cur[i]?
  | [], _, _, cur, h => ⟨cur, h, rfl, fun _ _ => rfl⟩
  | v :: r, o, w, cur, h => by
    have h1 : (w.setCell ⟨g, o, none⟩ v).heap[g]? = some (.cells (cur.setIfInBounds o v) T (0, 0)) := by
      simp [World.setCell, Array.getElem?_modify, h]
    obtain ⟨cur', e1, e2, e3⟩ := setCells_block g T r (o + 1) _ _ h1
    refine ⟨cur', e1, by rw [e2]; simp, fun i hi => ?_⟩
    rw [e3 i (by omega), Array.getElem?_setIfInBounds_ne (by omega)]
theorem rowL_tk {α : Type} {c : α → Array Value} {z : Nat} (hz : ∀ p, (c p).size = z) (l : List α) (k : Nat) (hk : k ≤ l.length) : rowL c (l.take k) = (rowL c l).take (k * z) := by
  have e2 : rowL c l = rowL c (l.take k) ++ rowL c (l.drop k) := by
    unfold rowL
    rw [← List.flatMap_append, List.take_append_drop]
  have h := rowL_len hz (l.take k)
  rw [List.length_take, Nat.min_eq_left hk] at h
  rw [show (rowL c l).take (k * z) = (rowL c (l.take k) ++ rowL c (l.drop k)).take (k * z) by rw [← e2], List.take_append_of_le_length (show k * z ≤ (rowL c (l.take k)).length by rw [h]; exact Nat.le_refl _), List.take_of_length_le (show (rowL c (l.take k)).length ≤ k * z by rw [h]; exact Nat.le_refl _)]
theorem own_before {α : Type} {T : TypeId} {z : Nat} {c : α → Array Value} (hz : ∀ p, (c p).size = z) {w : World} {base g n cap : Nat} {l : List α} (h : OwnX T z c w base (.slice (some ⟨g, 0, none⟩) n cap) l) (hl : l.length = n) {k o : Nat} (hk : k ≤ n) (ho : k * z ≤ o) (vs : List Value) :
    OwnX T z c (w.setCells g o vs) base (.slice (some ⟨g, 0, none⟩) k cap) (l.take k) := by
  subst hl
  obtain ⟨h1, h2⟩ := h
  rcases h2 with ⟨h3, _⟩ | ⟨g', cap', cur, e, hb, hg, hn, hm, hs, ht⟩
  · cases h3
  · cases e
    obtain ⟨cur', e1, e2, e3⟩ := setCells_block g T vs o w cur hg
    have hlen : (l.take k).length = k := by rw [List.length_take]; omega
    unfold OwnX
    rw [hlen]
    have hkn : k * z ≤ l.length * z := Nat.mul_le_mul_right z hk
    refine ⟨by rw [rowL_len hz, hlen], .inr ⟨g, cap, cur', rfl, hb, e1, by omega, hm, by rw [e2]; exact hs, ?_⟩⟩
    have h5 : rowL c (l.take k) = (rowL c l).take (k * z) := rowL_tk hz l k hk
    rw [h5, ← ht, List.take_take, Nat.min_eq_left hkn]
    apply List.ext_getElem?
    intro i
    rw [List.getElem?_take, List.getElem?_take]
    split
    · rw [Array.getElem?_toList, Array.getElem?_toList]
      exact e3 i (by omega)
    · rfl
section
variable {P : Program} {T TS : TypeId} {cs : Array Value}
theorem run_clear_rows (w : World) (ty : TypeId) (ht : P.underlying TS = some (.slice T)) (hv : ∀ w, (zeroValue T).run P w = .ok (.agg cs) w) (h1 : ∀ u ∈ cs.toList, u.oneCell' = true) (b o n c : Nat) (hn : 0 < n)
    (hc : ∀ j, j < n * cs.size → (w.cell? ⟨b, o + j, none⟩).isSome = true) (hf : ∀ j, j < n * cs.size → w.frozen? ⟨b, o + j, none⟩ = false) :
    ∃ vs, (Builtin.clear_ #[TS] ty #[.slice (some ⟨b, o, none⟩) n c]).run P w = .ok (.tuple #[]) (w.setCells b o vs) := by
  have hsz : (Builtin.zeroCells cs n).toList.length = n * cs.size := by simp [Builtin.zeroCells, Nat.mul_comm]
  have hmem : ∀ v ∈ (Builtin.zeroCells cs n).toList, v.oneCell' = true := fun v hv' => by
    simp only [Builtin.zeroCells, Array.toList_map, List.mem_map] at hv'
    obtain ⟨i, hi, rfl⟩ := hv'
    have hin : i < n * cs.size := by simpa using hi
    have hpos : 0 < cs.size := by
      rcases Nat.eq_zero_or_pos cs.size with q | q
      · rw [q] at hin; omega
      · exact q
    apply h1
    rw [getElem!_pos cs _ (Nat.mod_lt _ hpos)]
    exact Array.getElem_mem_toList _
  have hst := run_storeCells_cells (P := P) b o (Builtin.zeroCells cs n).toList 0 w (by simpa [hsz] using hc) (by simpa [hsz] using hf) hmem
  simp only [Nat.add_zero] at hst
  obtain ⟨m, rfl⟩ : ∃ m, n = m + 1 := ⟨n - 1, by omega⟩
  refine ⟨(Builtin.zeroCells cs (m + 1)).toList, ?_⟩
  simp [Builtin.clear_, run_underlying ht, hv, Value.cells, hst]
theorem wp_clear_x (ht : P.underlying TS = some (.slice T)) (hv : ∀ w, (zeroValue T).run P w = .ok (.agg cs) w) (h1 : ∀ u ∈ cs.toList, u.oneCell' = true) {w : World} {o : Oper} {a : Act} {K : Act → World → Prop} {Q : Exit → Act → World → Prop} (x : Operand)
    (ho : o.op = .call { callee := .builtin .clear, args := #[x], argTypes := #[TS] }) (b off n c : Nat) (hx : a.eval x = .slice (some ⟨b, off, none⟩) n c) (hn : 0 < n)
    (hc : ∀ j, j < n * cs.size → (w.cell? ⟨b, off + j, none⟩).isSome = true) (hf : ∀ j, j < n * cs.size → w.frozen? ⟨b, off + j, none⟩ = false)
    (hK : ∀ vs, K (a.put o.dst (.tuple #[])) (w.setCells b off vs)) : o.wp P a w K Q := by
  obtain ⟨vs, hrun⟩ := run_clear_rows (P := P) w o.type ht hv h1 b off n c hn hc hf
  unfold Oper.wp
  simp [execOp, ho, resolve, invoke, builtin, hx, hrun, Result.andThen]
  exact hK vs
end
end Go.Proofs.YtkpmcakppiinlaaDoor

/- slices.CompactFunc at passages: what is left is of the list. Written by gencmf.py. -/
namespace Go.Proofs.YtkpmcakppiinlaaDoor
open Go.RowKit

theorem zp_run (w : World) : (zeroValue 34).run Tryd.prog w = .ok (.agg #[.int .i64 0, .string ⟨#[]⟩, .string ⟨#[]⟩, .int .i64 0]) w := by kernel_rfl
def CoP (w : World) (base : Nat) (v : Value) (l0 : List Pa) (s5 : Value) (wr : World) : Prop :=
  ∃ k : Nat, 1 ≤ k ∧ k ≤ l0.length ∧ s5 = .int .i64 k ∧ OwnPa wr base v l0 ∧ GS (S1 v) w wr
def CjP (w : World) (base : Nat) (v : Value) (l0 : List Pa) (m N2 : Nat) (s5 s7 : Value) (wr : World) : Prop :=
  ∃ (k k2 : Nat) (l : List Pa), 1 ≤ k2 ∧ k2 ≤ N2 ∧ m + 1 ≤ k ∧ k ≤ m + k2 ∧ s5 = .int .i64 k ∧ s7 = .int .i64 k2 ∧ l.length = l0.length ∧ (∀ z ∈ l, z ∈ l0) ∧ OwnPa wr base v l ∧ GS (S1 v) w wr
set_option maxRecDepth 100000 in
set_option maxHeartbeats 8000000 in
theorem compact_c (F : FuncId) (caps : Array Value) (ef : Pa → Pa → Bool) (v : Value) (l0 : List Pa) (base : Nat) (w : World) (hcf : ∀ (args : Array Value) (w : World), (callFunc F args).run Tryd.prog w = .ok (.enter F args) w)
    (hal : ∀ (x y : Pa) (w' : World), x ∈ l0 → y ∈ l0 → GS (S1 v) w w' → Calls Tryd.prog F (#[.agg (paC x), .agg (paC y)] ++ caps) w' fun e w'' => e = .returned (.bool (ef x y)) ∧ G w' w'' none)
    (hown : OwnPa w base v l0) (hn : l0.length ≤ 1000) :
    Calls Tryd.prog 26 #[v, .func (.func F) #[] caps] w fun e w' => ∃ v' l', e = .returned v' ∧ OwnPa w' base v' l' ∧ l'.length ≤ l0.length ∧ (∀ z ∈ l', z ∈ l0) ∧ GS (S1 v) w w' := by
  have HAL := Lib.hid hal
  clear hal
  obtain ⟨a, cap, rfl, hcap, hm⟩ := RdR.form (c := paC) (Rd.of_owns hown)
  by_cases h2 : l0.length < 2
  · have h2i : (l0.length : Int) < 2 := by omega
    go_enter Tryd.func26, Tryd.ntmps26
    go_wp2_with fail
    go_ret
    exact ⟨_, l0, rfl, hown, Nat.le_refl _, fun z hz => hz, GS.refl _ _⟩
  have h2i : ¬ (l0.length : Int) < 2 := by omega
  go_enter Tryd.func26, Tryd.ntmps26
  go_wp2_with fail
  go_loopw [5] (CoP w base (.slice a l0.length cap) l0) (fun i _ => l0.length - (intOf i).toNat)
  case atStart => exact ⟨1, by omega, by omega, rfl, hown, GS.refl _ _⟩
  case round =>
    clear hown
    obtain ⟨k, hk1, hkl, rfl, hown, hGr⟩ := hrel
    by_cases hlt : k < l0.length
    · obtain ⟨m, rfl⟩ : ∃ m, k = m + 1 := ⟨k - 1, by omega⟩
      obtain ⟨⟨x1, x2, x3, x4⟩, hx⟩ : ∃ x, l0[m + 1]? = some x := ⟨_, List.getElem?_eq_getElem hlt⟩
      obtain ⟨⟨y1, y2, y3, y4⟩, hy⟩ : ∃ y, l0[m]? = some y := ⟨_, List.getElem?_eq_getElem (by omega)⟩
      obtain ⟨g, cap', cur, e, hB⟩ := OwnX.form0 hown (by omega)
      cases e
      have HI := Lib.hid hlt
      have hcc : ∀ w', G wr w' none → w'.cell? ⟨g, (m + 1) * 4, none⟩ = some (.int .i64 x1) ∧ w'.cell? ⟨g, (m + 1) * 4 + 1, none⟩ = some (.string x2) ∧ w'.cell? ⟨g, (m + 1) * 4 + 2, none⟩ = some (.string x3) ∧ w'.cell? ⟨g, (m + 1) * 4 + 3, none⟩ = some (.int .i64 x4) ∧ w'.cell? ⟨g, m * 4, none⟩ = some (.int .i64 y1) ∧ w'.cell? ⟨g, m * 4 + 1, none⟩ = some (.string y2) ∧ w'.cell? ⟨g, m * 4 + 2, none⟩ = some (.string y3) ∧ w'.cell? ⟨g, m * 4 + 3, none⟩ = some (.int .i64 y4) := fun w' q9 => by
        have ex0 := RdR.cell paC_sz (Rd.of_owns hown) q9 hx 0 (.int .i64 x1) rfl; have ex1 := RdR.cell paC_sz (Rd.of_owns hown) q9 hx 1 (.string x2) rfl; have ex2 := RdR.cell paC_sz (Rd.of_owns hown) q9 hx 2 (.string x3) rfl; have ex3 := RdR.cell paC_sz (Rd.of_owns hown) q9 hx 3 (.int .i64 x4) rfl; have ey0 := RdR.cell paC_sz (Rd.of_owns hown) q9 hy 0 (.int .i64 y1) rfl; have ey1 := RdR.cell paC_sz (Rd.of_owns hown) q9 hy 1 (.string y2) rfl; have ey2 := RdR.cell paC_sz (Rd.of_owns hown) q9 hy 2 (.string y3) rfl; have ey3 := RdR.cell paC_sz (Rd.of_owns hown) q9 hy 3 (.int .i64 y4) rfl
        simp only [Nat.add_zero, Nat.zero_add] at ex0 ex1 ex2 ex3 ey0 ey1 ey2 ey3
        exact ⟨ex0, ex1, ex2, ex3, ey0, ey1, ey2, ey3⟩
      have HG0 := Lib.hid hGr
      have h1 : IntKind.i64.wrap ((m : Int) + 1 - 1) = (m : Int) := by rw [IntKind.wrap_i64]; omega
      have h3 : IntKind.i64.wrap (m : Int) = (m : Int) := by rw [IntKind.wrap_i64]; omega
      have h4 : (m : Int) + 1 < (l0.length : Int) := by omega
      have h5 : (m : Int) < (l0.length : Int) := by omega
      have h6 : (0 : Int) ≤ (m : Int) + 1 := by omega
      have h7 : (0 : Int) ≤ (m : Int) := by omega
      go_upto_region 6 with fail
      have hS := (G.refl wr none).drew
      refine wp_region_held_drew (S := (fun w' : World => w'.cell? ⟨g, (m + 1) * 4, none⟩ = some (.int .i64 x1) ∧ w'.cell? ⟨g, (m + 1) * 4 + 1, none⟩ = some (.string x2) ∧ w'.cell? ⟨g, (m + 1) * 4 + 2, none⟩ = some (.string x3) ∧ w'.cell? ⟨g, (m + 1) * 4 + 3, none⟩ = some (.int .i64 x4) ∧ w'.cell? ⟨g, m * 4, none⟩ = some (.int .i64 y1) ∧ w'.cell? ⟨g, m * 4 + 1, none⟩ = some (.string y2) ∧ w'.cell? ⟨g, m * 4 + 2, none⟩ = some (.string y3) ∧ w'.cell? ⟨g, m * 4 + 3, none⟩ = some (.int .i64 y4))) (by kernel_rfl) ?_ (fun hHeld => ?_)
      · exact hcc _ hS
      refine wpAnyH_take (i := 0) (oi := { dst := some 18, op := Op.move (Operand.tmp 1), type := 56, pos := _, after := #[], guard := none }) (v := ?_) rfl (by kernel_rfl) (by kernel_rfl) (by kernel_rfl) (fun _ _ _ h => h) (Or.inl ⟨by rfl, ?_⟩) (by assumption) ?_
      rotate_left
      · (intro w hSw; obtain ⟨q0, q1, q2, q3, q4, q5, q6, q7⟩ := hSw; (go_simp <;> with_reducible rfl))
      try simp only [Act.put, List.setIfInBounds_toArray, List.set_cons_zero, List.set_cons_succ]
      refine wpAnyH_take (i := 1) (oi := { dst := some 19, op := Op.move (Operand.tmp 0), type := 28, pos := _, after := #[], guard := none }) (v := ?_) rfl (by kernel_rfl) (by kernel_rfl) (by kernel_rfl) (fun _ _ _ h => h) (Or.inl ⟨by rfl, ?_⟩) (by assumption) ?_
      rotate_left
      · (intro w hSw; obtain ⟨q0, q1, q2, q3, q4, q5, q6, q7⟩ := hSw; (go_simp <;> with_reducible rfl))
      try simp only [Act.put, List.setIfInBounds_toArray, List.set_cons_zero, List.set_cons_succ]
      refine wpAnyH_take (i := 2) (oi := { dst := some 20, op := Op.move (Operand.tmp 5), type := 3, pos := _, after := #[], guard := none }) (v := ?_) rfl (by kernel_rfl) (by kernel_rfl) (by kernel_rfl) (fun _ _ _ h => h) (Or.inl ⟨by rfl, ?_⟩) (by assumption) ?_
      rotate_left
      · (intro w hSw; obtain ⟨q0, q1, q2, q3, q4, q5, q6, q7⟩ := hSw; (go_simp <;> with_reducible rfl))
      try simp only [Act.put, List.setIfInBounds_toArray, List.set_cons_zero, List.set_cons_succ]
      refine wpAnyH_take (i := 3) (oi := { dst := some 21, op := Op.indexAddr 28 (Operand.tmp 19) (Operand.tmp 20), type := 0, pos := _, after := #[{ on := 1, ground := Ground.data }, { on := 2, ground := Ground.data }], guard := none }) (v := ?_) rfl (by kernel_rfl) (by kernel_rfl) (by kernel_rfl) (fun _ _ _ h => h) (Or.inl ⟨by rfl, ?_⟩) (by assumption) ?_
      rotate_left
      · (intro w hSw; obtain ⟨q0, q1, q2, q3, q4, q5, q6, q7⟩ := hSw; (go_simp <;> with_reducible rfl))
      try simp only [Act.put, List.setIfInBounds_toArray, List.set_cons_zero, List.set_cons_succ]
      refine wpAnyH_take (i := 4) (oi := { dst := some 22, op := Op.load 34 (Operand.tmp 21), type := 34, pos := _, after := #[{ on := 3, ground := Ground.data }], guard := none }) (v := ?_) rfl (by kernel_rfl) (by kernel_rfl) (by kernel_rfl) (fun _ _ _ h => h) (Or.inl ⟨by rfl, ?_⟩) (by assumption) ?_
      rotate_left
      · (intro w hSw; obtain ⟨q0, q1, q2, q3, q4, q5, q6, q7⟩ := hSw; (go_simp <;> with_reducible rfl))
      try simp only [Act.put, List.setIfInBounds_toArray, List.set_cons_zero, List.set_cons_succ]
      refine wpAnyH_take (i := 5) (oi := { dst := some 23, op := Op.move (Operand.tmp 0), type := 28, pos := _, after := #[], guard := none }) (v := ?_) rfl (by kernel_rfl) (by kernel_rfl) (by kernel_rfl) (fun _ _ _ h => h) (Or.inl ⟨by rfl, ?_⟩) (by assumption) ?_
      rotate_left
      · (intro w hSw; obtain ⟨q0, q1, q2, q3, q4, q5, q6, q7⟩ := hSw; (go_simp <;> with_reducible rfl))
      try simp only [Act.put, List.setIfInBounds_toArray, List.set_cons_zero, List.set_cons_succ]
      refine wpAnyH_take (i := 6) (oi := { dst := some 24, op := Op.move (Operand.tmp 5), type := 3, pos := _, after := #[], guard := none }) (v := ?_) rfl (by kernel_rfl) (by kernel_rfl) (by kernel_rfl) (fun _ _ _ h => h) (Or.inl ⟨by rfl, ?_⟩) (by assumption) ?_
      rotate_left
      · (intro w hSw; obtain ⟨q0, q1, q2, q3, q4, q5, q6, q7⟩ := hSw; (go_simp <;> with_reducible rfl))
      try simp only [Act.put, List.setIfInBounds_toArray, List.set_cons_zero, List.set_cons_succ]
      refine wpAnyH_take (i := 7) (oi := { dst := some 25, op := Op.binOp BinOp.sub 3 (Operand.tmp 24) (Operand.const (Value.int IntKind.i64 1)) 3, type := 3, pos := _, after := #[{ on := 6, ground := Ground.data }], guard := none }) (v := ?_) rfl (by kernel_rfl) (by kernel_rfl) (by kernel_rfl) (fun _ _ _ h => h) (Or.inl ⟨by rfl, ?_⟩) (by assumption) ?_
      rotate_left
      · (intro w hSw; obtain ⟨q0, q1, q2, q3, q4, q5, q6, q7⟩ := hSw; (go_simp <;> with_reducible rfl))
      try simp only [Act.put, List.setIfInBounds_toArray, List.set_cons_zero, List.set_cons_succ]
      refine wpAnyH_take (i := 8) (oi := { dst := some 26, op := Op.indexAddr 28 (Operand.tmp 23) (Operand.tmp 25), type := 0, pos := _, after := #[{ on := 5, ground := Ground.data }, { on := 7, ground := Ground.data }], guard := none }) (v := ?_) rfl (by kernel_rfl) (by kernel_rfl) (by kernel_rfl) (fun _ _ _ h => h) (Or.inl ⟨by rfl, ?_⟩) (by assumption) ?_
      rotate_left
      · (intro w hSw; obtain ⟨q0, q1, q2, q3, q4, q5, q6, q7⟩ := hSw; (go_simp <;> with_reducible rfl))
      try simp only [Act.put, List.setIfInBounds_toArray, List.set_cons_zero, List.set_cons_succ]
      refine wpAnyH_take (i := 9) (oi := { dst := some 27, op := Op.load 34 (Operand.tmp 26), type := 34, pos := _, after := #[{ on := 8, ground := Ground.data }], guard := none }) (v := ?_) rfl (by kernel_rfl) (by kernel_rfl) (by kernel_rfl) (fun _ _ _ h => h) (Or.inl ⟨by rfl, ?_⟩) (by assumption) ?_
      rotate_left
      · (intro w hSw; obtain ⟨q0, q1, q2, q3, q4, q5, q6, q7⟩ := hSw; (go_simp <;> with_reducible rfl))
      try simp only [Act.put, List.setIfInBounds_toArray, List.set_cons_zero, List.set_cons_succ]
      refine wpAnyH_ready (rs := [10]) (by kernel_rfl) (by simp) ?_
      refine AllReadyH.cons (o := { dst := some 28, op := Op.call { callee := Callee.value (Operand.tmp 18), args := #[Operand.tmp 22, Operand.tmp 27], argTypes := #[34, 34] }, type := 4, pos := _, after := #[{ on := 0, ground := Ground.data }, { on := 4, ground := Ground.data }, { on := 9, ground := Ground.data }], guard := none }) rfl (fun K hK => ?_) AllReadyH.nil
      go_simp
      refine (HAL.out (x1, x2, x3, x4) (y1, y2, y3, y4) _ (List.mem_of_getElem? hx) (List.mem_of_getElem? hy) (HG0.out.trans (GS.of_G hS))).mono ?_
      rintro e w4 ⟨rfl, hh⟩
      replace hS := hS.trans hh
      clear hh
      refine hK.out _ _ ?_ (fun hHeld => ?_)
      · exact hcc _ hS
      clear hK K
      try simp only [Act.put, List.setIfInBounds_toArray, List.set_cons_zero, List.set_cons_succ]
      refine wpAnyH_done (by kernel_rfl) ?_ _
      clear hHeld hcc
      have hown4 := OwnX.quiet hown hS
      have hG4 := hGr.trans (GS.of_G hS)
      clear hS hown hGr hB HG0
      cases hef : ef (x1, x2, x3, x4) (y1, y2, y3, y4) with
      | false =>
        go_wp2_with fail
        go_roundw
        case rel => exact ⟨m + 1 + 1, by omega, by have := HI.out; omega, by go_num, hown4, hG4⟩
        case measure => have := HI.out; simp [intOf]; omega
      | true =>
        have hck : ¬ cap = m + 1 := by omega
        obtain ⟨N2, hN2⟩ : ∃ N2, l0.length - (m + 1) = N2 := ⟨_, rfl⟩
        have HN2 : Hid (l0.length = m + 1 + N2) := Lib.hid (by omega)
        have hN1 : 1 ≤ N2 := by omega
        go_upto_region 8 with fail
        try rw [hN2]
        clear hN2 hx hy hef
        go_wp2_with fail
        go_loopw [5, 7] (CjP w base (.slice (some ⟨g, 0, none⟩) l0.length cap) l0 m N2) (fun _ j _ => N2 - (intOf j).toNat)
        case atStart => exact ⟨m + 1, 1, l0, by omega, hN1, by omega, by omega, by go_num, rfl, rfl, fun z hz => hz, hown4, hG4⟩
        case round =>
          clear hown4 hG4
          obtain ⟨k, k2, l, j1, j2, j3, j4, rfl, rfl, hll, hsub, hown, hGr⟩ := hrel
          have HSUB := Lib.hid hsub
          have HLL := Lib.hid hll
          clear hsub
          by_cases hlt2 : k2 < N2
          · obtain ⟨q, rfl⟩ : ∃ q, k2 = q + 1 := ⟨k2 - 1, by omega⟩
            have HJ := Lib.hid (And.intro hlt2 (And.intro j3 j4))
            obtain ⟨⟨x1, x2, x3, x4⟩, hx⟩ : ∃ x, l[m + 1 + (q + 1)]? = some x := ⟨_, List.getElem?_eq_getElem (by have := HN2.out; omega)⟩
            obtain ⟨⟨y1, y2, y3, y4⟩, hy⟩ : ∃ y, l[m + 1 + q]? = some y := ⟨_, List.getElem?_eq_getElem (by have := HN2.out; omega)⟩
            have hownl : OwnX 34 4 paC wr base (.slice (some ⟨g, 0, none⟩) l0.length cap) l := hown
            obtain ⟨g', cap', cur, e, hB⟩ := OwnX.form0 hownl (by rw [hll]; have := HN2.out; omega)
            rw [hll] at e
            cases e
            have hcc : ∀ w', G wr w' none → w'.cell? ⟨g, (m + 1) * 4 + (q + 1) * 4, none⟩ = some (.int .i64 x1) ∧ w'.cell? ⟨g, (m + 1) * 4 + (q + 1) * 4 + 1, none⟩ = some (.string x2) ∧ w'.cell? ⟨g, (m + 1) * 4 + (q + 1) * 4 + 2, none⟩ = some (.string x3) ∧ w'.cell? ⟨g, (m + 1) * 4 + (q + 1) * 4 + 3, none⟩ = some (.int .i64 x4) ∧ w'.cell? ⟨g, (m + 1) * 4 + q * 4, none⟩ = some (.int .i64 y1) ∧ w'.cell? ⟨g, (m + 1) * 4 + q * 4 + 1, none⟩ = some (.string y2) ∧ w'.cell? ⟨g, (m + 1) * 4 + q * 4 + 2, none⟩ = some (.string y3) ∧ w'.cell? ⟨g, (m + 1) * 4 + q * 4 + 3, none⟩ = some (.int .i64 y4) := fun w' q9 => by
              have ex0 := RdR.cell paC_sz (Rd.of_owns hown) q9 hx 0 (.int .i64 x1) rfl; have ex1 := RdR.cell paC_sz (Rd.of_owns hown) q9 hx 1 (.string x2) rfl; have ex2 := RdR.cell paC_sz (Rd.of_owns hown) q9 hx 2 (.string x3) rfl; have ex3 := RdR.cell paC_sz (Rd.of_owns hown) q9 hx 3 (.int .i64 x4) rfl; have ey0 := RdR.cell paC_sz (Rd.of_owns hown) q9 hy 0 (.int .i64 y1) rfl; have ey1 := RdR.cell paC_sz (Rd.of_owns hown) q9 hy 1 (.string y2) rfl; have ey2 := RdR.cell paC_sz (Rd.of_owns hown) q9 hy 2 (.string y3) rfl; have ey3 := RdR.cell paC_sz (Rd.of_owns hown) q9 hy 3 (.int .i64 y4) rfl
              simp only [Nat.add_zero, Nat.zero_add, Nat.add_mul (m + 1)] at ex0 ex1 ex2 ex3 ey0 ey1 ey2 ey3
              exact ⟨ex0, ex1, ex2, ex3, ey0, ey1, ey2, ey3⟩
            have HG0 := Lib.hid hGr
            have hq9 : q < 1000 := by have := HN2.out; omega
            have h1 : IntKind.i64.wrap ((q : Int) + 1 - 1) = (q : Int) := by rw [IntKind.wrap_i64]; omega
            have h3 : IntKind.i64.wrap (q : Int) = (q : Int) := by rw [IntKind.wrap_i64]; omega
            have h4 : (q : Int) + 1 < (N2 : Int) := by omega
            have h5 : (q : Int) < (N2 : Int) := by omega
            have h6 : (0 : Int) ≤ (q : Int) + 1 := by omega
            have h7 : (0 : Int) ≤ (q : Int) := by omega
            go_upto_region 11 with fail
            have hS := (G.refl wr none).drew
            refine wp_region_held_drew (S := (fun w' : World => w'.cell? ⟨g, (m + 1) * 4 + (q + 1) * 4, none⟩ = some (.int .i64 x1) ∧ w'.cell? ⟨g, (m + 1) * 4 + (q + 1) * 4 + 1, none⟩ = some (.string x2) ∧ w'.cell? ⟨g, (m + 1) * 4 + (q + 1) * 4 + 2, none⟩ = some (.string x3) ∧ w'.cell? ⟨g, (m + 1) * 4 + (q + 1) * 4 + 3, none⟩ = some (.int .i64 x4) ∧ w'.cell? ⟨g, (m + 1) * 4 + q * 4, none⟩ = some (.int .i64 y1) ∧ w'.cell? ⟨g, (m + 1) * 4 + q * 4 + 1, none⟩ = some (.string y2) ∧ w'.cell? ⟨g, (m + 1) * 4 + q * 4 + 2, none⟩ = some (.string y3) ∧ w'.cell? ⟨g, (m + 1) * 4 + q * 4 + 3, none⟩ = some (.int .i64 y4))) (by kernel_rfl) ?_ (fun hHeld => ?_)
            · exact hcc _ hS
            refine wpAnyH_take (i := 0) (oi := { dst := some 38, op := Op.move (Operand.tmp 1), type := 56, pos := _, after := #[], guard := none }) (v := ?_) rfl (by kernel_rfl) (by kernel_rfl) (by kernel_rfl) (fun _ _ _ h => h) (Or.inl ⟨by rfl, ?_⟩) (by assumption) ?_
            rotate_left
            · (intro w hSw; obtain ⟨q0, q1, q2, q3, q4, q5, q6, q7⟩ := hSw; (go_simp <;> with_reducible rfl))
            try simp only [Act.put, List.setIfInBounds_toArray, List.set_cons_zero, List.set_cons_succ]
            refine wpAnyH_take (i := 1) (oi := { dst := some 39, op := Op.move (Operand.tmp 6), type := 28, pos := _, after := #[], guard := none }) (v := ?_) rfl (by kernel_rfl) (by kernel_rfl) (by kernel_rfl) (fun _ _ _ h => h) (Or.inl ⟨by rfl, ?_⟩) (by assumption) ?_
            rotate_left
            · (intro w hSw; obtain ⟨q0, q1, q2, q3, q4, q5, q6, q7⟩ := hSw; (go_simp <;> with_reducible rfl))
            try simp only [Act.put, List.setIfInBounds_toArray, List.set_cons_zero, List.set_cons_succ]
            refine wpAnyH_take (i := 2) (oi := { dst := some 40, op := Op.move (Operand.tmp 7), type := 3, pos := _, after := #[], guard := none }) (v := ?_) rfl (by kernel_rfl) (by kernel_rfl) (by kernel_rfl) (fun _ _ _ h => h) (Or.inl ⟨by rfl, ?_⟩) (by assumption) ?_
            rotate_left
            · (intro w hSw; obtain ⟨q0, q1, q2, q3, q4, q5, q6, q7⟩ := hSw; (go_simp <;> with_reducible rfl))
            try simp only [Act.put, List.setIfInBounds_toArray, List.set_cons_zero, List.set_cons_succ]
            refine wpAnyH_take (i := 3) (oi := { dst := some 41, op := Op.indexAddr 28 (Operand.tmp 39) (Operand.tmp 40), type := 0, pos := _, after := #[{ on := 1, ground := Ground.data }, { on := 2, ground := Ground.data }], guard := none }) (v := ?_) rfl (by kernel_rfl) (by kernel_rfl) (by kernel_rfl) (fun _ _ _ h => h) (Or.inl ⟨by rfl, ?_⟩) (by assumption) ?_
            rotate_left
            · (intro w hSw; obtain ⟨q0, q1, q2, q3, q4, q5, q6, q7⟩ := hSw; (go_simp <;> with_reducible rfl))
            try simp only [Act.put, List.setIfInBounds_toArray, List.set_cons_zero, List.set_cons_succ]
            refine wpAnyH_take (i := 4) (oi := { dst := some 42, op := Op.load 34 (Operand.tmp 41), type := 34, pos := _, after := #[{ on := 3, ground := Ground.data }], guard := none }) (v := ?_) rfl (by kernel_rfl) (by kernel_rfl) (by kernel_rfl) (fun _ _ _ h => h) (Or.inl ⟨by rfl, ?_⟩) (by assumption) ?_
            rotate_left
            · (intro w hSw; obtain ⟨q0, q1, q2, q3, q4, q5, q6, q7⟩ := hSw; (go_simp <;> with_reducible rfl))
            try simp only [Act.put, List.setIfInBounds_toArray, List.set_cons_zero, List.set_cons_succ]
            refine wpAnyH_take (i := 5) (oi := { dst := some 43, op := Op.move (Operand.tmp 6), type := 28, pos := _, after := #[], guard := none }) (v := ?_) rfl (by kernel_rfl) (by kernel_rfl) (by kernel_rfl) (fun _ _ _ h => h) (Or.inl ⟨by rfl, ?_⟩) (by assumption) ?_
            rotate_left
            · (intro w hSw; obtain ⟨q0, q1, q2, q3, q4, q5, q6, q7⟩ := hSw; (go_simp <;> with_reducible rfl))
            try simp only [Act.put, List.setIfInBounds_toArray, List.set_cons_zero, List.set_cons_succ]
            refine wpAnyH_take (i := 6) (oi := { dst := some 44, op := Op.move (Operand.tmp 7), type := 3, pos := _, after := #[], guard := none }) (v := ?_) rfl (by kernel_rfl) (by kernel_rfl) (by kernel_rfl) (fun _ _ _ h => h) (Or.inl ⟨by rfl, ?_⟩) (by assumption) ?_
            rotate_left
            · (intro w hSw; obtain ⟨q0, q1, q2, q3, q4, q5, q6, q7⟩ := hSw; (go_simp <;> with_reducible rfl))
            try simp only [Act.put, List.setIfInBounds_toArray, List.set_cons_zero, List.set_cons_succ]
            refine wpAnyH_take (i := 7) (oi := { dst := some 45, op := Op.binOp BinOp.sub 3 (Operand.tmp 44) (Operand.const (Value.int IntKind.i64 1)) 3, type := 3, pos := _, after := #[{ on := 6, ground := Ground.data }], guard := none }) (v := ?_) rfl (by kernel_rfl) (by kernel_rfl) (by kernel_rfl) (fun _ _ _ h => h) (Or.inl ⟨by rfl, ?_⟩) (by assumption) ?_
            rotate_left
            · (intro w hSw; obtain ⟨q0, q1, q2, q3, q4, q5, q6, q7⟩ := hSw; (go_simp <;> with_reducible rfl))
            try simp only [Act.put, List.setIfInBounds_toArray, List.set_cons_zero, List.set_cons_succ]
            refine wpAnyH_take (i := 8) (oi := { dst := some 46, op := Op.indexAddr 28 (Operand.tmp 43) (Operand.tmp 45), type := 0, pos := _, after := #[{ on := 5, ground := Ground.data }, { on := 7, ground := Ground.data }], guard := none }) (v := ?_) rfl (by kernel_rfl) (by kernel_rfl) (by kernel_rfl) (fun _ _ _ h => h) (Or.inl ⟨by rfl, ?_⟩) (by assumption) ?_
            rotate_left
            · (intro w hSw; obtain ⟨q0, q1, q2, q3, q4, q5, q6, q7⟩ := hSw; (go_simp <;> with_reducible rfl))
            try simp only [Act.put, List.setIfInBounds_toArray, List.set_cons_zero, List.set_cons_succ]
            refine wpAnyH_take (i := 9) (oi := { dst := some 47, op := Op.load 34 (Operand.tmp 46), type := 34, pos := _, after := #[{ on := 8, ground := Ground.data }], guard := none }) (v := ?_) rfl (by kernel_rfl) (by kernel_rfl) (by kernel_rfl) (fun _ _ _ h => h) (Or.inl ⟨by rfl, ?_⟩) (by assumption) ?_
            rotate_left
            · (intro w hSw; obtain ⟨q0, q1, q2, q3, q4, q5, q6, q7⟩ := hSw; (go_simp <;> with_reducible rfl))
            try simp only [Act.put, List.setIfInBounds_toArray, List.set_cons_zero, List.set_cons_succ]
            refine wpAnyH_ready (rs := [10]) (by kernel_rfl) (by simp) ?_
            refine AllReadyH.cons (o := { dst := some 48, op := Op.call { callee := Callee.value (Operand.tmp 38), args := #[Operand.tmp 42, Operand.tmp 47], argTypes := #[34, 34] }, type := 4, pos := _, after := #[{ on := 0, ground := Ground.data }, { on := 4, ground := Ground.data }, { on := 9, ground := Ground.data }], guard := none }) rfl (fun K hK => ?_) AllReadyH.nil
            go_simp
            refine (HAL.out (x1, x2, x3, x4) (y1, y2, y3, y4) _ (HSUB.out _ (List.mem_of_getElem? hx)) (HSUB.out _ (List.mem_of_getElem? hy)) (HG0.out.trans (GS.of_G hS))).mono ?_
            rintro e w4 ⟨rfl, hh⟩
            replace hS := hS.trans hh
            clear hh
            refine hK.out _ _ ?_ (fun hHeld => ?_)
            · exact hcc _ hS
            clear hK K
            try simp only [Act.put, List.setIfInBounds_toArray, List.set_cons_zero, List.set_cons_succ]
            refine wpAnyH_take (i := 11) (oi := { dst := some 49, op := Op.unOp UnOp.not 4 (Operand.tmp 48), type := 4, pos := _, after := #[{ on := 10, ground := Ground.data }], guard := none }) (v := ?_) rfl (by kernel_rfl) (by kernel_rfl) (by kernel_rfl) (fun _ _ _ h => h) (Or.inl ⟨by rfl, ?_⟩) (by assumption) ?_
            rotate_left
            · (intro w hSw; obtain ⟨q0, q1, q2, q3, q4, q5, q6, q7⟩ := hSw; (go_simp <;> with_reducible rfl))
            try simp only [Act.put, List.setIfInBounds_toArray, List.set_cons_zero, List.set_cons_succ]
            refine wpAnyH_done (by kernel_rfl) ?_ _
            clear hHeld
            have hown4 : OwnPa w4 base (.slice (some ⟨g, 0, none⟩) l0.length cap) l := OwnX.quiet hown hS
            have hG4 := hGr.trans (GS.of_G hS)
            have hcx := hcc _ hS
            clear hcc hown hGr hB HG0 hownl
            cases hef : ef (x1, x2, x3, x4) (y1, y2, y3, y4) with
            | true =>
              clear hcx hS
              go_wp2_with fail
              go_roundw
              case rel => exact ⟨k, q + 1 + 1, l, by omega, by have := HJ.out; omega, by have := HJ.out; omega, by have := HJ.out; omega, by go_num, by go_num, HLL.out, HSUB.out, hown4, hG4⟩
              case measure => have := HJ.out; simp [intOf]; omega
            | false =>
              obtain ⟨m0, m1, m2, m3, -, -, -, -⟩ := hcx
              obtain ⟨⟨z1, z2, z3, z4⟩, hp0⟩ : ∃ p0, l[k]? = some p0 := ⟨_, List.getElem?_eq_getElem (by have := HN2.out; have := HJ.out; omega)⟩
              have HT1 : Hid (w4.there g (k * 4) (#[.int .i64 x1, .string x2, .string x3, .int .i64 x4] : Array Value).size) := Lib.hid (pa_there hown4 HLL.out (by have := HN2.out; have := HJ.out; omega))
              have hA := pa_set hown4 HLL.out hp0 (x1, x2, x3, x4)
              have hG6 := hG4.trans (GS.of_Gs (pa_grow w4 g (k * 4) (x1, x2, x3, x4)) (show S1 _ g from rfl))
              have HSUB3 : Hid (∀ z ∈ l.set k (x1, x2, x3, x4), z ∈ l0) := Lib.hid (fun z hz => by
                rcases List.mem_or_eq_of_mem_set hz with hz | rfl
                · exact HSUB.out z hz
                · exact HSUB.out _ (List.mem_of_getElem? hx))
              have h8 : (k : Int) < (l0.length : Int) := by have := HN2.out; have := HJ.out; omega
              have h9 : (0 : Int) ≤ (k : Int) := by omega
              have hk9 : k < 1000 := by omega
              have c0 := RdR.cell paC_sz (Rd.of_owns hown4) (G.refl _ none) hp0 0 (.int .i64 z1) rfl
              have c1 := RdR.cell paC_sz (Rd.of_owns hown4) (G.refl _ none) hp0 1 (.string z2) rfl
              have c2 := RdR.cell paC_sz (Rd.of_owns hown4) (G.refl _ none) hp0 2 (.string z3) rfl
              have c3 := RdR.cell paC_sz (Rd.of_owns hown4) (G.refl _ none) hp0 3 (.int .i64 z4) rfl
              have f0 := (HT1.out 0 (by show 0 < 4; omega)).2
              have f1 := (HT1.out 1 (by show 1 < 4; omega)).2
              have f2 := (HT1.out 2 (by show 2 < 4; omega)).2
              have f3 := (HT1.out 3 (by show 3 < 4; omega)).2
              simp only [Nat.add_zero, Nat.zero_add] at c0 c1 c2 c3 f0
              clear hS hp0 hll hx hy hHeld
              go_wp2_with fail
              go_roundw
              case rel => exact ⟨k + 1, q + 1 + 1, l.set k (x1, x2, x3, x4), by omega, by have := HJ.out; omega, by have := HJ.out; omega, by have := HJ.out; omega, by go_num, by go_num, by rw [List.length_set]; exact HLL.out, HSUB3.out, hA, hG6⟩
              case measure => have := HJ.out; simp [intOf]; omega
          · obtain rfl : k2 = N2 := by omega
            have hkn : k < l0.length := by have := HN2.out; omega
            have hck2 : ¬ cap = k := by omega
            have hcl : ∀ j, j < (l0.length - k) * 4 → (wr.cell? ⟨g, k * 4 + j, none⟩).isSome = true ∧ wr.frozen? ⟨g, k * 4 + j, none⟩ = false := fun j hj => by
              have hownl : OwnX 34 4 paC wr base (.slice (some ⟨g, 0, none⟩) l0.length cap) l := hown
              unfold OwnX at hownl
              rw [hll] at hownl
              have h1 := World.ownsRow.cellAt hownl (k * 4 + j) (by omega)
              have hr : (rowL paC l).length = l0.length * 4 := hownl.1
              rw [List.getElem?_eq_getElem (by rw [hr]; omega)] at h1
              exact ⟨by rw [h1]; rfl, World.ownsRow.frozenAt hownl _⟩
            have HC := Lib.hid hcl
            have HP := Lib.hid (fun vs => own_before paC_sz hown hll (k := k) (o := k * 4) (by omega) (Nat.le_refl _) vs)
            have hlt3 : l.length = l0.length := hll
            have HGX := Lib.hid (fun vs => hGr.trans (GS.of_Gs (setCells_grow g vs (k * 4) wr) (show S1 _ g from rfl)))
            have hki : (k : Int) ≤ (l0.length : Int) := by omega
            have hki0 : (0 : Int) ≤ (k : Int) := by omega
            have hkc : (k : Int) ≤ (cap : Int) := by omega
            clear hcl hll hlt3
            obtain ⟨vs, hrun⟩ := run_clear_rows (P := Tryd.prog) (cs := #[.int .i64 0, .string ⟨#[]⟩, .string ⟨#[]⟩, .int .i64 0]) wr 0 Tryd.underlying28 zp_run (pa_oneL (0, ⟨#[]⟩, ⟨#[]⟩, 0)) g (k * 4) (l0.length - k) (cap - k) (by omega) (fun j hj => (HC.out j hj).1) (fun j hj => (HC.out j hj).2)
            have hres := HP.out vs
            have hGz := HGX.out vs
            go_wp2_with fail
            go_ret
            exact ⟨_, l.take k, rfl, hres, by rw [List.length_take]; omega, fun z hz => HSUB.out z (List.mem_of_mem_take hz), hGz⟩
    · obtain rfl : k = l0.length := by omega
      go_wp2_with fail
      go_ret
      exact ⟨_, l0, rfl, hown, Nat.le_refl _, fun z hz => hz, hGr⟩
end Go.Proofs.YtkpmcakppiinlaaDoor
