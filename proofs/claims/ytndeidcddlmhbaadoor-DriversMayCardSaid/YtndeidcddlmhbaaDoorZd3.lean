/- Hir, Hik, Hif, His, Stp, Hit, Hiu. -/
import Derived.Test.YtndeidcddlmhbaaDoorZd1
import Derived.Test.YtndeidcddlmhbaaDoorZd2
import Derived.Laws.StructEq
import Derived.Deep.CutRange
import Derived.Deep.RegionHeld3
import Derived.OrdersHeld
import Derived.BigQuiet
/- Hires: readings, legs; checkReading, checkBegin, isOut, checkEnd. -/
namespace Go.Proofs.YtndeidcddlmhbaaDoor
open Go.RowKit

/-- A reading: at, station, meter, fuel. -/
abbrev Rg := Int × ByteArray × Int × Int
def rgC (x : Rg) : Array Value := #[.int .i64 x.1, .string x.2.1, .int .i64 x.2.2.1, .int .i64 x.2.2.2]
theorem rg_info (x : Rg) : (Tryd.prog.info? 51).map (·.size) = some (rgC x).size := (by kernel_rfl : (Tryd.prog.info? 51).map (·.size) = some 4)
def rgE (x : Rg) : Int := if momB x.1 = false then 1 else if keyB x.2.1 = false then 5 else if inB x.2.2.1 0 999999 = false then 1 else if inB x.2.2.2 0 8 = false then 1 else 0
/-- A leg: vehicle, out, in. -/
abbrev Lg := ByteArray × Rg × Rg
def lgC (x : Lg) : Array Value := #[.string x.1, .int .i64 x.2.1.1, .string x.2.1.2.1, .int .i64 x.2.1.2.2.1, .int .i64 x.2.1.2.2.2, .int .i64 x.2.2.1, .string x.2.2.2.1, .int .i64 x.2.2.2.2.1, .int .i64 x.2.2.2.2.2]
theorem lgC_sz (x : Lg) : (lgC x).size = 9 := rfl
theorem lg_info (x : Lg) : (Tryd.prog.info? 137).map (·.size) = some (lgC x).size := (by kernel_rfl : (Tryd.prog.info? 137).map (·.size) = some 9)
def lgB (x : Lg) : Prop := Small x.1 ∧ Small x.2.1.2.1 ∧ Small x.2.2.2.1
def LgOk (l : List Lg) : Prop := ∀ x ∈ l, lgB x
/-- A hire's head: key, driver, from, to; the cells of a hire. -/
abbrev Hh := ByteArray × ByteArray × Int × Int
def hiC (h : Hh) (v : Value) : Array Value := #[.string h.1, .string h.2.1, .int .i64 h.2.2.1, .int .i64 h.2.2.2, v]
theorem hi_info (h : Hh) (v : Value) : (Tryd.prog.info? 55).map (·.size) = some (hiC h v).size := (by kernel_rfl : (Tryd.prog.info? 55).map (·.size) = some 5)
def noIn : Rg := (-1, ⟨#[]⟩, 0, 0)
def beE (f : Int) (b : Option Lg) (x : Lg) : Int := match b with
  | none => if x.2.1.1 = f then 0 else 7
  | some y => if x.2.1.1 = y.2.2.1 then (if x.1 = y.1 then 16 else if x.2.1.2.1 = y.2.2.2.1 then 0 else 8) else 7
def enE (last : Bool) (x : Lg) : Int := if x.2.2.1 = -1 then (if x.2.2 = noIn then (if last = true then 0 else 11) else 3) else if rgE x.2.2 = 0 then (if x.2.2.1 ≤ x.2.1.1 then 7 else 0) else rgE x.2.2
def lgE (f : Int) (b : Option Lg) (last : Bool) (x : Lg) : Int := if keyB x.1 = false then 5 else if rgE x.2.1 = 0 then (if beE f b x = 0 then enE last x else beE f b x) else rgE x.2.1
def lsE (f : Int) : Option Lg → List Lg → Int
  | _, [] => 0
  | b, x :: r => if lgE f b r.isEmpty x = 0 then lsE f (some x) r else lgE f b r.isEmpty x
def hiE (h : Hh) (l : List Lg) : Int := if keyB h.1 = false then 5 else if keyB h.2.1 = false then 5 else if tE h.2.2.1 h.2.2.2 = 0 then (if l.length = 0 then 3 else if 20 < l.length then 2 else lsE h.2.2.1 none l) else tE h.2.2.1 h.2.2.2
theorem Bk.part {w : World} {g : Nat} {T : TypeId} {cs : Array Value} (h : Bk w g T cs) (k : Nat) (ds : Array Value) (hd : ∀ j u, ds.toList[j]? = some u → cs[k + j]? = some u) : ∀ j u, ds.toList[j]? = some u → w.cell? ((⟨g, k, none⟩ : Addr).add j) = some u := fun j u hu => by
  rw [add_at, h.cell]
  exact hd j u hu
theorem lg_out (x : Lg) : ∀ j u, (#[.int .i64 x.2.1.1, .string x.2.1.2.1, .int .i64 x.2.1.2.2.1, .int .i64 x.2.1.2.2.2] : Array Value).toList[j]? = some u → (lgC x)[1 + j]? = some u := fun j u hu => by
  match j, hu with
  | 0, hu => exact hu
  | 1, hu => exact hu
  | 2, hu => exact hu
  | 3, hu => exact hu
  | n + 4, hu => simp at hu
theorem lg_in (x : Lg) : ∀ j u, (#[.int .i64 x.2.2.1, .string x.2.2.2.1, .int .i64 x.2.2.2.2.1, .int .i64 x.2.2.2.2.2] : Array Value).toList[j]? = some u → (lgC x)[5 + j]? = some u := fun j u hu => by
  match j, hu with
  | 0, hu => exact hu
  | 1, hu => exact hu
  | 2, hu => exact hu
  | 3, hu => exact hu
  | n + 4, hu => simp at hu
theorem lgRow {W w : World} {bb bo n cap : Nat} {l : List Lg} (h : RdR W 9 lgC (.slice (some ⟨bb, bo, none⟩) n cap) l) (hG : G W w none) {k : Nat} {p : Lg} (hp : l[k]? = some p) :
    ∀ j v, (lgC p).toList[j]? = some v → w.cell? ((⟨bb, bo + k * 9, none⟩ : Addr).add j) = some v := fun j v hv => by
  rw [add_at]
  exact RdR.cell lgC_sz h hG hp j v hv
theorem drop_empty {α : Type} (l : List α) (k : Nat) : (l.drop k).isEmpty = decide (l.length ≤ k) := by
  by_cases h : l.length ≤ k
  · rw [List.drop_eq_nil_of_le h, decide_eq_true h]; rfl
  · rw [decide_eq_false h]
    cases hd : l.drop k with
    | nil => have := List.drop_eq_nil_iff.1 hd; omega
    | cons _ _ => rfl
theorem toList_ext {a b : ByteArray} (h : a.toList = b.toList) : a = b := by
  rw [ByteArray.toList_eq, ByteArray.toList_eq] at h
  exact ByteArray.ext (Array.toList_inj.1 h)
theorem rg_neq (x y : Rg) (w : World) : (binOp .neq 51 (.agg #[.int .i64 x.1, .string x.2.1, .int .i64 x.2.2.1, .int .i64 x.2.2.2]) (.agg #[.int .i64 y.1, .string y.2.1, .int .i64 y.2.2.1, .int .i64 y.2.2.2])).run Tryd.prog w = .ok (.bool (!(decide (x = y)))) w := by
  obtain ⟨a, b, c, d⟩ := x
  obtain ⟨e, f, g, h⟩ := y
  have ht : Tryd.prog.underlying 51 = some (.struct (Tryd.prog.fieldsOf 51)) := by kernel_rfl
  have hp : Tryd.prog.stoodInHeld 51 = false := by kernel_rfl
  rw [run_neq_struct, run_equalIn_agg w 9999 51 _ _ ht hp]
  simp [Tryd.underlying51, Tryd.underlying3, Tryd.underlying9, go_sem]
  by_cases h1 : a = e
  · by_cases h2 : b = f
    · subst h2
      by_cases h3 : c = g <;> by_cases h4 : d = h <;> simp [h1, h3, h4]
    · have h2' : ¬ b.toList = f.toList := fun e => h2 (toList_ext e)
      simp [h1, h2, h2']
  · simp [h1]
set_option maxRecDepth 100000 in
set_option maxHeartbeats 2000000 in
theorem checkReading_c (x : Rg) (w : World) (hs : Small x.2.1) :
    Calls Tryd.prog 186 #[.agg (rgC x)] w fun e w' => e = .returned (.int .i64 (rgE x)) ∧ G w w' none := by
  have hG1 := (G.refl w none).alloc (.cells (rgC x) 51)
  unfold Small at hs
  obtain ⟨t, s, m, f⟩ := x
  simp only [rgC] at hG1 hs ⊢
  have HE : Hid (rgE (t, s, m, f) = if momB t = false then 1 else if keyB s = false then 5 else if inB m 0 999999 = false then 1 else if inB f 0 8 = false then 1 else 0) := Lib.hid rfl
  generalize rgE (t, s, m, f) = R at HE ⊢
  go_enter Tryd.func186, Tryd.ntmps186
  go_wp2_with fail
  refine (isMoment_c t _).mono ?_; rintro e w1 ⟨rfl, rfl⟩
  cases k1 : momB t with
  | false =>
    have HF : Hid (R = 1) := Lib.hid (by rw [HE.out, if_pos k1])
    clear k1
    go_wp2_with fail
    go_ret
    exact ⟨ret_int HF.out.symm, hG1⟩
  | true =>
    have HE : Hid (R = if keyB s = false then 5 else if inB m 0 999999 = false then 1 else if inB f 0 8 = false then 1 else 0) := Lib.hid (by rw [HE.out, if_neg (by simp [k1])])
    clear k1
    go_wp2_with fail
    refine (isKey_c s _ hs).mono ?_; rintro e w1 ⟨rfl, rfl⟩
    cases k2 : keyB s with
    | false =>
      have HF : Hid (R = 5) := Lib.hid (by rw [HE.out, if_pos k2])
      clear k2
      go_wp2_with fail
      go_ret
      exact ⟨ret_int HF.out.symm, hG1⟩
    | true =>
      have HE : Hid (R = if inB m 0 999999 = false then 1 else if inB f 0 8 = false then 1 else 0) := Lib.hid (by rw [HE.out, if_neg (by simp [k2])])
      clear k2
      go_wp2_with fail
      refine (within_c m 0 999999 _).mono ?_; rintro e w1 ⟨rfl, rfl⟩
      cases k3 : inB m 0 999999 with
      | false =>
        have HF : Hid (R = 1) := Lib.hid (by rw [HE.out, if_pos k3])
        clear k3
        go_wp2_with fail
        go_ret
        exact ⟨ret_int HF.out.symm, hG1⟩
      | true =>
        have HE : Hid (R = if inB f 0 8 = false then 1 else 0) := Lib.hid (by rw [HE.out, if_neg (by simp [k3])])
        clear k3
        go_wp2_with fail
        refine (within_c f 0 8 _).mono ?_; rintro e w1 ⟨rfl, rfl⟩
        cases k4 : inB f 0 8 with
        | false =>
          have HF : Hid (R = 1) := Lib.hid (by rw [HE.out, if_pos k4])
          clear k4
          go_wp2_with fail
          go_ret
          exact ⟨ret_int HF.out.symm, hG1⟩
        | true =>
          have HF : Hid (R = 0) := Lib.hid (by rw [HE.out, if_neg (by simp [k4])])
          clear k4
          go_wp2_with fail
          go_ret
          exact ⟨ret_int HF.out.symm, hG1⟩
set_option maxRecDepth 100000 in
theorem isOut_c (p : Lg) (w : World) : Calls Tryd.prog 208 #[.agg (lgC p)] w fun e w' => e = .returned (.bool (p.2.2.1 == -1)) ∧ G w w' none := by
  have hG1 := (G.refl w none).alloc (.cells (lgC p) 137)
  obtain ⟨p1, ⟨o1, o2, o3, o4⟩, i1, i2, i3, i4⟩ := p
  simp only [lgC] at hG1 ⊢
  go_enter Tryd.func208, Tryd.ntmps208
  go_wp2_with fail
  go_ret
  exact ⟨rfl, hG1⟩
set_option maxRecDepth 100000 in
set_option maxHeartbeats 4000000 in
theorem checkBegin_c (h : Hh) (v : Value) (l : List Lg) (k : Nat) (p : Lg) (w : World) (hr : RdR w 9 lgC v l) (hp : l[k]? = some p) (hn : l.length ≤ 1000) :
    Calls Tryd.prog 187 #[.agg (hiC h v), .int .i64 k] w fun e w' => e = .returned (.int .i64 (beE h.2.2.1 (prevAt l k) p)) ∧ G w w' none := by
  have hH := Bk.new w 55 (hiC h v)
  have hGH := (G.refl w none).alloc (.cells (hiC h v) 55)
  have HR := Lib.hid (hr.quiet hGH)
  obtain ⟨a, cap, rfl, hcap, hm⟩ := RdR.form hr
  clear hr
  have hk : k < l.length := (List.getElem?_eq_some_iff.1 hp).1
  obtain ⟨bb, bo, rfl, -, -⟩ := RdR.elem lgC_sz HR.out (G.refl _ none) hp
  have HW := Lib.hid (lgRow HR.out (G.refl _ none) hp)
  have HP := Lib.hid hp
  clear hp
  simp only [hiC] at hH hGH HR HW ⊢
  go_enter Tryd.func187, Tryd.ntmps187
  go_upto_if 13 with (refine wpList_load_at rfl 137 _ rfl ⟨bb, bo + k * 9, none⟩ rfl #[.string p.1, .int .i64 p.2.1.1, .string p.2.1.2.1, .int .i64 p.2.1.2.2.1, .int .i64 p.2.1.2.2.2, .int .i64 p.2.2.1, .string p.2.2.2.1, .int .i64 p.2.2.2.2.1, .int .i64 p.2.2.2.2.2] _ HW.out Tryd.underlying137 rfl (lg_info p) ?_)
  have hL : Bk ((w.alloc (.cells #[.string h.1, .string h.2.1, .int .i64 h.2.2.1, .int .i64 h.2.2.2, .slice (some ⟨bb, bo, none⟩) l.length cap] 55)).alloc (.cells #[.string p.1, .int .i64 p.2.1.1, .string p.2.1.2.1, .int .i64 p.2.1.2.2.1, .int .i64 p.2.1.2.2.2, .int .i64 p.2.2.1, .string p.2.2.2.1, .int .i64 p.2.2.2.2.1, .int .i64 p.2.2.2.2.2] 137)) (w.heap.size + 1) 137 (lgC p) := Bk.newAt (by simp) _ _
  have hG := hGH.alloc (.cells #[.string p.1, .int .i64 p.2.1.1, .string p.2.1.2.1, .int .i64 p.2.1.2.2.1, .int .i64 p.2.1.2.2.2, .int .i64 p.2.2.1, .string p.2.2.2.1, .int .i64 p.2.2.2.2.1, .int .i64 p.2.2.2.2.2] 137)
  have hH := hH.alloc (.cells #[.string p.1, .int .i64 p.2.1.1, .string p.2.1.2.1, .int .i64 p.2.1.2.2.1, .int .i64 p.2.1.2.2.2, .int .i64 p.2.2.1, .string p.2.2.2.1, .int .i64 p.2.2.2.2.1, .int .i64 p.2.2.2.2.2] 137)
  have HR := Lib.hid (HR.out.quiet ((G.refl _ none).alloc (.cells #[.string p.1, .int .i64 p.2.1.1, .string p.2.1.2.1, .int .i64 p.2.1.2.2.1, .int .i64 p.2.1.2.2.2, .int .i64 p.2.2.1, .string p.2.2.2.1, .int .i64 p.2.2.2.2.1, .int .i64 p.2.2.2.2.2] 137)))
  clear HW hGH
  generalize (w.alloc (.cells #[.string h.1, .string h.2.1, .int .i64 h.2.2.1, .int .i64 h.2.2.2, .slice (some ⟨bb, bo, none⟩) l.length cap] 55)).alloc (.cells #[.string p.1, .int .i64 p.2.1.1, .string p.2.1.2.1, .int .i64 p.2.1.2.2.1, .int .i64 p.2.1.2.2.2, .int .i64 p.2.2.1, .string p.2.2.2.1, .int .i64 p.2.2.2.2.1, .int .i64 p.2.2.2.2.2] 137) = w2 at hL hG hH HR ⊢
  have c1 : w2.cell? ⟨w.heap.size + 1, 1, none⟩ = some (.int .i64 p.2.1.1) := hL.cell 1
  have d2 : w2.cell? ⟨w.heap.size, 2, none⟩ = some (.int .i64 h.2.2.1) := hH.cell 2
  cases k with
  | zero =>
    by_cases hq : p.2.1.1 = h.2.2.1
    · have HF : Hid (beE h.2.2.1 (prevAt l 0) p = 0) := Lib.hid (if_pos hq)
      go_wp2_with fail
      go_ret
      exact ⟨ret_int HF.out.symm, hG⟩
    · have HF : Hid (beE h.2.2.1 (prevAt l 0) p = 7) := Lib.hid (if_neg hq)
      go_wp2_with fail
      go_ret
      exact ⟨ret_int HF.out.symm, hG⟩
  | succ m =>
    obtain ⟨q, hq2⟩ : ∃ q, l[m]? = some q := ⟨_, List.getElem?_eq_getElem (by omega)⟩
    have HA : Hid (beE h.2.2.1 (prevAt l (m + 1)) p = if p.2.1.1 = q.2.2.1 then (if p.1 = q.1 then 16 else if p.2.1.2.1 = q.2.2.2.1 then 0 else 8) else 7) := Lib.hid (by rw [prevAt_succ l m q hq2]; rfl)
    have hsub : IntKind.i64.wrap (((m + 1 : Nat) : Int) - 1) = (m : Int) := by rw [show ((m + 1 : Nat) : Int) - 1 = (m : Int) by omega]; rw [IntKind.wrap_i64]; omega
    have hsub2 : IntKind.i64.wrap (m : Int) = (m : Int) := by rw [IntKind.wrap_i64]; omega
    have hsub3 : IntKind.i64.wrap ((m : Int) + 1 - 1) = (m : Int) := by rw [IntKind.wrap_i64]; omega
    have hm0 : (0 : Int) ≤ (m : Int) := Int.natCast_nonneg m
    have hml : (m : Int) < (l.length : Int) := by omega
    have hne : (((m + 1 : Nat) : Int) == 0) = false := by simp; omega
    have hne2 : ((m : Int) + 1 == 0) = false := by simp; omega
    have HW := Lib.hid (lgRow HR.out (G.refl _ none) hq2)
    have d4 : w2.cell? ⟨w.heap.size, 4, none⟩ = some (.slice (some ⟨bb, bo, none⟩) l.length cap) := hH.cell 4
    obtain ⟨B, hB⟩ : ∃ B, beE h.2.2.1 (prevAt l (m + 1)) p = B := ⟨_, rfl⟩
    rw [hB] at HA
    have HBB := Lib.hid hB
    clear hB hq2
    go_upto_region 7 with (refine wpList_load_at rfl 137 _ rfl ⟨bb, bo + m * 9, none⟩ rfl #[.string q.1, .int .i64 q.2.1.1, .string q.2.1.2.1, .int .i64 q.2.1.2.2.1, .int .i64 q.2.1.2.2.2, .int .i64 q.2.2.1, .string q.2.2.2.1, .int .i64 q.2.2.2.2.1, .int .i64 q.2.2.2.2.2] _ HW.out Tryd.underlying137 rfl (lg_info q) ?_)
    have hQ := Bk.new w2 137 (lgC q)
    have hG := hG.alloc (.cells (lgC q) 137)
    have hL := hL.alloc (.cells (lgC q) 137)
    rw [show #[.string q.1, .int .i64 q.2.1.1, .string q.2.1.2.1, .int .i64 q.2.1.2.2.1, .int .i64 q.2.1.2.2.2, .int .i64 q.2.2.1, .string q.2.2.2.1, .int .i64 q.2.2.2.2.1, .int .i64 q.2.2.2.2.2] = lgC q from rfl]
    generalize w2.alloc (.cells (lgC q) 137) = w3 at hQ hG hL ⊢
    generalize w2.heap.size = g at hQ ⊢
    have c0 : w3.cell? ⟨w.heap.size + 1, 0, none⟩ = some (.string p.1) := hL.cell 0
    have c1 : w3.cell? ⟨w.heap.size + 1, 1, none⟩ = some (.int .i64 p.2.1.1) := hL.cell 1
    have c2 : w3.cell? ⟨w.heap.size + 1, 2, none⟩ = some (.string p.2.1.2.1) := hL.cell 2
    have q0 : w3.cell? ⟨g, 0, none⟩ = some (.string q.1) := hQ.cell 0
    have q5 : w3.cell? ⟨g, 5, none⟩ = some (.int .i64 q.2.2.1) := hQ.cell 5
    have q6 : w3.cell? ⟨g, 6, none⟩ = some (.string q.2.2.2.1) := hQ.cell 6
    clear hL hQ hH HR d2 d4
    by_cases k1 : p.2.1.1 = q.2.2.1
    · have HA : Hid (B = if p.1 = q.1 then 16 else if p.2.1.2.1 = q.2.2.2.1 then 0 else 8) := Lib.hid (by rw [HA.out, if_pos k1])
      have k1' : (p.2.1.1 != q.2.2.1) = false := by simpa using k1
      clear k1
      by_cases k2 : p.1 = q.1
      · have HF : Hid (B = 16) := Lib.hid (by rw [HA.out, if_pos k2])
        have k2' : (p.1.toList == q.1.toList) = true := by rw [k2]; simp
        clear k2
        go_wp2_with fail
        go_ret
        exact ⟨ret_int (by rw [HBB.out, HF.out]), hG⟩
      · have HA : Hid (B = if p.2.1.2.1 = q.2.2.2.1 then 0 else 8) := Lib.hid (by rw [HA.out, if_neg k2])
        have k2' : (p.1.toList == q.1.toList) = false := by simpa using fun e => k2 (toList_ext e)
        clear k2
        by_cases k3 : p.2.1.2.1 = q.2.2.2.1
        · have HF : Hid (B = 0) := Lib.hid (by rw [HA.out, if_pos k3])
          have k3' : (p.2.1.2.1.toList == q.2.2.2.1.toList) = true := by rw [k3]; simp
          have k3n : (p.2.1.2.1.toList != q.2.2.2.1.toList) = false := by rw [k3]; simp
          clear k3
          go_wp2_with fail
          go_ret
          exact ⟨ret_int (by rw [HBB.out, HF.out]), hG⟩
        · have HF : Hid (B = 8) := Lib.hid (by rw [HA.out, if_neg k3])
          have k3' : (p.2.1.2.1.toList == q.2.2.2.1.toList) = false := by simpa using fun e => k3 (toList_ext e)
          have k3n : (p.2.1.2.1.toList != q.2.2.2.1.toList) = true := by simpa using fun e => k3 (toList_ext e)
          clear k3
          go_wp2_with fail
          go_ret
          exact ⟨ret_int (by rw [HBB.out, HF.out]), hG⟩
    · have HF : Hid (B = 7) := Lib.hid (by rw [HA.out, if_neg k1])
      have k1' : (p.2.1.1 != q.2.2.1) = true := by simpa using k1
      clear k1
      go_wp2_with fail
      go_ret
      exact ⟨ret_int (by rw [HBB.out, HF.out]), hG⟩
set_option maxRecDepth 100000 in
set_option maxHeartbeats 4000000 in
theorem checkEnd_c (h : Hh) (v : Value) (l : List Lg) (k : Nat) (p : Lg) (w : World) (hr : RdR w 9 lgC v l) (hp : l[k]? = some p) (hs : Small p.2.2.2.1) (hn : l.length ≤ 1000) :
    Calls Tryd.prog 188 #[.agg (hiC h v), .int .i64 k] w fun e w' => e = .returned (.int .i64 (enE (l.drop (k + 1)).isEmpty p)) ∧ G w w' none := by
  have hH := Bk.new w 55 (hiC h v)
  have hGH := (G.refl w none).alloc (.cells (hiC h v) 55)
  have HR := Lib.hid (hr.quiet hGH)
  obtain ⟨a, cap, rfl, hcap, hm⟩ := RdR.form hr
  clear hr
  have hk : k < l.length := (List.getElem?_eq_some_iff.1 hp).1
  have hki : (k : Int) < (l.length : Int) := by omega
  obtain ⟨bb, bo, rfl, -, -⟩ := RdR.elem lgC_sz HR.out (G.refl _ none) hp
  have HW := Lib.hid (lgRow HR.out (G.refl _ none) hp)
  clear hp
  have HLA : Hid ((l.drop (k + 1)).isEmpty = decide (l.length ≤ k + 1)) := Lib.hid (drop_empty l (k + 1))
  obtain ⟨E, hE⟩ : ∃ E, enE (l.drop (k + 1)).isEmpty p = E := ⟨_, rfl⟩
  have HE : Hid (E = if p.2.2.1 = -1 then (if p.2.2 = noIn then (if decide (l.length ≤ k + 1) = true then 0 else 11) else 3) else if rgE p.2.2 = 0 then (if p.2.2.1 ≤ p.2.1.1 then 7 else 0) else rgE p.2.2) := Lib.hid (by rw [← hE, HLA.out]; rfl)
  rw [hE]
  clear hE
  simp only [hiC] at hH hGH HR HW ⊢
  go_enter Tryd.func188, Tryd.ntmps188
  go_upto_region 2 with (refine wpList_load_at rfl 137 _ rfl ⟨bb, bo + k * 9, none⟩ rfl #[.string p.1, .int .i64 p.2.1.1, .string p.2.1.2.1, .int .i64 p.2.1.2.2.1, .int .i64 p.2.1.2.2.2, .int .i64 p.2.2.1, .string p.2.2.2.1, .int .i64 p.2.2.2.2.1, .int .i64 p.2.2.2.2.2] _ HW.out Tryd.underlying137 rfl (lg_info p) ?_)
  have hL : Bk ((w.alloc (.cells #[.string h.1, .string h.2.1, .int .i64 h.2.2.1, .int .i64 h.2.2.2, .slice (some ⟨bb, bo, none⟩) l.length cap] 55)).alloc (.cells #[.string p.1, .int .i64 p.2.1.1, .string p.2.1.2.1, .int .i64 p.2.1.2.2.1, .int .i64 p.2.1.2.2.2, .int .i64 p.2.2.1, .string p.2.2.2.1, .int .i64 p.2.2.2.2.1, .int .i64 p.2.2.2.2.2] 137)) (w.heap.size + 1) 137 (lgC p) := Bk.newAt (by simp) _ _
  have hG := hGH.alloc (.cells #[.string p.1, .int .i64 p.2.1.1, .string p.2.1.2.1, .int .i64 p.2.1.2.2.1, .int .i64 p.2.1.2.2.2, .int .i64 p.2.2.1, .string p.2.2.2.1, .int .i64 p.2.2.2.2.1, .int .i64 p.2.2.2.2.2] 137)
  have hH := hH.alloc (.cells #[.string p.1, .int .i64 p.2.1.1, .string p.2.1.2.1, .int .i64 p.2.1.2.2.1, .int .i64 p.2.1.2.2.2, .int .i64 p.2.2.1, .string p.2.2.2.1, .int .i64 p.2.2.2.2.1, .int .i64 p.2.2.2.2.2] 137)
  clear HW hGH HR
  generalize (w.alloc (.cells #[.string h.1, .string h.2.1, .int .i64 h.2.2.1, .int .i64 h.2.2.2, .slice (some ⟨bb, bo, none⟩) l.length cap] 55)).alloc (.cells #[.string p.1, .int .i64 p.2.1.1, .string p.2.1.2.1, .int .i64 p.2.1.2.2.1, .int .i64 p.2.1.2.2.2, .int .i64 p.2.2.1, .string p.2.2.2.1, .int .i64 p.2.2.2.2.1, .int .i64 p.2.2.2.2.2] 137) = w2 at hL hG hH ⊢
  go_wp2_with (refine wpList_load_row rfl 137 _ rfl (w.heap.size + 1) rfl 137 #[.string p.1, .int .i64 p.2.1.1, .string p.2.1.2.1, .int .i64 p.2.1.2.2.1, .int .i64 p.2.1.2.2.2, .int .i64 p.2.2.1, .string p.2.2.2.1, .int .i64 p.2.2.2.2.1, .int .i64 p.2.2.2.2.2] (0, 0) _ hL Tryd.underlying137 rfl (lg_info p) ?_)
  refine (isOut_c p _).mono ?_; rintro e w3 ⟨rfl, hG3⟩
  have hL := hL.quiet hG3
  have hH := hH.quiet hG3
  have hG := hG.trans hG3
  clear hG3
  have HP := Lib.hid (hL.part 5 #[.int .i64 p.2.2.1, .string p.2.2.2.1, .int .i64 p.2.2.2.2.1, .int .i64 p.2.2.2.2.2] (lg_in p))
  have c1 : w3.cell? ⟨w.heap.size + 1, 1, none⟩ = some (.int .i64 p.2.1.1) := hL.cell 1
  have c5 : w3.cell? ⟨w.heap.size + 1, 5, none⟩ = some (.int .i64 p.2.2.1) := hL.cell 5
  have d4 : w3.cell? ⟨w.heap.size, 4, none⟩ = some (.slice (some ⟨bb, bo, none⟩) l.length cap) := hH.cell 4
  clear hH
  by_cases k1 : p.2.2.1 = -1
  · have k1' : (p.2.2.1 == -1) = true := by simpa using k1
    rw [k1']
    have HN := fun w : World => rg_neq p.2.2 noIn w
    by_cases k2 : p.2.2 = noIn
    · have HNN : Hid (∀ w : World, (binOp .neq 51 (.agg #[.int .i64 p.2.2.1, .string p.2.2.2.1, .int .i64 p.2.2.2.2.1, .int .i64 p.2.2.2.2.2]) (.agg #[.int .i64 (-1), .string ⟨#[]⟩, .int .i64 0, .int .i64 0])).run Tryd.prog w = .ok (.bool false) w) := Lib.hid fun w => by
        have := HN w
        rw [decide_eq_true k2] at this
        exact this
      have hnn := HNN.out
      have HE : Hid (E = if decide (l.length ≤ k + 1) = true then 0 else 11) := Lib.hid (by rw [HE.out, if_pos k1, if_pos k2])
      have hl1 : IntKind.i64.wrap ((l.length : Int) - 1) = (l.length : Int) - 1 := by rw [IntKind.wrap_i64]; omega
      clear k1 k1' k2 HN HNN
      by_cases k3 : l.length ≤ k + 1
      · have HF : Hid (E = 0) := Lib.hid (by rw [HE.out, if_pos (decide_eq_true k3)])
        have k3' : ¬ ((k : Int) < (l.length : Int) - 1) := by omega
        clear k3
        go_wp2_with (refine wpList_load_at rfl 51 _ rfl ⟨w.heap.size + 1, 5, none⟩ rfl #[.int .i64 p.2.2.1, .string p.2.2.2.1, .int .i64 p.2.2.2.2.1, .int .i64 p.2.2.2.2.2] _ HP.out Tryd.underlying51 rfl (rg_info p.2.2) ?_)
        go_ret
        exact ⟨ret_int HF.out.symm, hG⟩
      · have HF : Hid (E = 11) := Lib.hid (by rw [HE.out, if_neg (by simpa using k3)])
        have k3' : (k : Int) < (l.length : Int) - 1 := by omega
        clear k3
        go_wp2_with (refine wpList_load_at rfl 51 _ rfl ⟨w.heap.size + 1, 5, none⟩ rfl #[.int .i64 p.2.2.1, .string p.2.2.2.1, .int .i64 p.2.2.2.2.1, .int .i64 p.2.2.2.2.2] _ HP.out Tryd.underlying51 rfl (rg_info p.2.2) ?_)
        go_ret
        exact ⟨ret_int HF.out.symm, hG⟩
    · have HNN : Hid (∀ w : World, (binOp .neq 51 (.agg #[.int .i64 p.2.2.1, .string p.2.2.2.1, .int .i64 p.2.2.2.2.1, .int .i64 p.2.2.2.2.2]) (.agg #[.int .i64 (-1), .string ⟨#[]⟩, .int .i64 0, .int .i64 0])).run Tryd.prog w = .ok (.bool true) w) := Lib.hid fun w => by
        have := HN w
        rw [decide_eq_false k2] at this
        exact this
      have hnn := HNN.out
      have HF : Hid (E = 3) := Lib.hid (by rw [HE.out, if_pos k1, if_neg k2])
      clear HE k1 k1' k2 HN HNN
      go_wp2_with (refine wpList_load_at rfl 51 _ rfl ⟨w.heap.size + 1, 5, none⟩ rfl #[.int .i64 p.2.2.1, .string p.2.2.2.1, .int .i64 p.2.2.2.2.1, .int .i64 p.2.2.2.2.2] _ HP.out Tryd.underlying51 rfl (rg_info p.2.2) ?_)
      go_ret
      exact ⟨ret_int HF.out.symm, hG⟩
  · have k1' : (p.2.2.1 == -1) = false := by simpa using k1
    rw [k1']
    have HE : Hid (E = if rgE p.2.2 = 0 then (if p.2.2.1 ≤ p.2.1.1 then 7 else 0) else rgE p.2.2) := Lib.hid (by rw [HE.out, if_neg k1])
    clear k1 k1'
    go_wp2_with (refine wpList_load_at rfl 51 _ rfl ⟨w.heap.size + 1, 5, none⟩ rfl #[.int .i64 p.2.2.1, .string p.2.2.2.1, .int .i64 p.2.2.2.2.1, .int .i64 p.2.2.2.2.2] _ HP.out Tryd.underlying51 rfl (rg_info p.2.2) ?_)
    refine (checkReading_c p.2.2 _ hs).mono ?_; rintro e w4 ⟨rfl, hG4⟩
    have hL := hL.quiet hG4
    have hG := hG.trans hG4
    clear hG4 c1 c5 d4 HP
    have c1 : w4.cell? ⟨w.heap.size + 1, 1, none⟩ = some (.int .i64 p.2.1.1) := hL.cell 1
    have c5 : w4.cell? ⟨w.heap.size + 1, 5, none⟩ = some (.int .i64 p.2.2.1) := hL.cell 5
    obtain ⟨R, hR⟩ : ∃ R, rgE p.2.2 = R := ⟨_, rfl⟩
    rw [hR] at HE ⊢
    clear hR
    by_cases k2 : R = 0
    · have HE5 : Hid (E = if p.2.2.1 ≤ p.2.1.1 then 7 else 0) := Lib.hid (by rw [HE.out, if_pos k2])
      subst k2
      by_cases k3 : p.2.2.1 ≤ p.2.1.1
      · have HF : Hid (E = 7) := Lib.hid (by rw [HE5.out, if_pos k3])
        go_wp2_with fail
        go_ret
        exact ⟨ret_int HF.out.symm, hG⟩
      · have HF : Hid (E = 0) := Lib.hid (by rw [HE5.out, if_neg k3])
        go_wp2_with fail
        go_ret
        exact ⟨ret_int HF.out.symm, hG⟩
    · have HF : Hid (E = R) := Lib.hid (by rw [HE.out, if_neg k2])
      have k2' : (R != 0) = true := by simpa using k2
      clear k2
      go_wp2_with fail
      go_ret
      exact ⟨ret_int HF.out.symm, hG⟩
end Go.Proofs.YtndeidcddlmhbaaDoor

/- Hires: checkLeg, Check. -/
namespace Go.Proofs.YtndeidcddlmhbaaDoor
open Go.RowKit

theorem hi_time (h : Hh) (v : Value) : ∀ j u, (#[Value.int .i64 h.2.2.1, .int .i64 h.2.2.2] : Array Value).toList[j]? = some u → (hiC h v)[2 + j]? = some u := fun j u hu => by
  match j, hu with
  | 0, hu => exact hu
  | 1, hu => exact hu
  | n + 2, hu => simp at hu
set_option maxRecDepth 100000 in
set_option maxHeartbeats 4000000 in
theorem checkLeg_c (h : Hh) (v : Value) (l : List Lg) (k : Nat) (p : Lg) (w : World) (hr : RdR w 9 lgC v l) (hp : l[k]? = some p) (hs : lgB p) (hn : l.length ≤ 1000) :
    Calls Tryd.prog 167 #[.agg (hiC h v), .int .i64 k] w fun e w' => e = .returned (.int .i64 (lgE h.2.2.1 (prevAt l k) (l.drop (k + 1)).isEmpty p)) ∧ G w w' none := by
  have hH := Bk.new w 55 (hiC h v)
  have hGH := (G.refl w none).alloc (.cells (hiC h v) 55)
  have hR := hr.quiet hGH
  obtain ⟨a, cap, rfl, hcap, hm⟩ := RdR.form hr
  clear hr
  have hk : k < l.length := (List.getElem?_eq_some_iff.1 hp).1
  have hki : (k : Int) < (l.length : Int) := by omega
  obtain ⟨bb, bo, rfl, -, -⟩ := RdR.elem lgC_sz hR (G.refl _ none) hp
  have HW := Lib.hid (lgRow hR (G.refl _ none) hp)
  have HP := Lib.hid hp
  obtain ⟨hs1, hs2, hs3⟩ := hs
  have hs1' := hs1
  unfold Small at hs1'
  clear hp
  obtain ⟨E, hE⟩ : ∃ E, lgE h.2.2.1 (prevAt l k) (l.drop (k + 1)).isEmpty p = E := ⟨_, rfl⟩
  have HE : Hid (E = if keyB p.1 = false then 5 else if rgE p.2.1 = 0 then (if beE h.2.2.1 (prevAt l k) p = 0 then enE (l.drop (k + 1)).isEmpty p else beE h.2.2.1 (prevAt l k) p) else rgE p.2.1) := Lib.hid hE.symm
  rw [hE]
  clear hE
  simp only [hiC] at hH hGH hR HW ⊢
  go_enter Tryd.func167, Tryd.ntmps167
  go_upto_region 2 with (refine wpList_load_at rfl 137 _ rfl ⟨bb, bo + k * 9, none⟩ rfl #[.string p.1, .int .i64 p.2.1.1, .string p.2.1.2.1, .int .i64 p.2.1.2.2.1, .int .i64 p.2.1.2.2.2, .int .i64 p.2.2.1, .string p.2.2.2.1, .int .i64 p.2.2.2.2.1, .int .i64 p.2.2.2.2.2] _ HW.out Tryd.underlying137 rfl (lg_info p) ?_)
  have hL : Bk ((w.alloc (.cells #[.string h.1, .string h.2.1, .int .i64 h.2.2.1, .int .i64 h.2.2.2, .slice (some ⟨bb, bo, none⟩) l.length cap] 55)).alloc (.cells #[.string p.1, .int .i64 p.2.1.1, .string p.2.1.2.1, .int .i64 p.2.1.2.2.1, .int .i64 p.2.1.2.2.2, .int .i64 p.2.2.1, .string p.2.2.2.1, .int .i64 p.2.2.2.2.1, .int .i64 p.2.2.2.2.2] 137)) (w.heap.size + 1) 137 (lgC p) := Bk.newAt (by simp) _ _
  have hG := hGH.alloc (.cells #[.string p.1, .int .i64 p.2.1.1, .string p.2.1.2.1, .int .i64 p.2.1.2.2.1, .int .i64 p.2.1.2.2.2, .int .i64 p.2.2.1, .string p.2.2.2.1, .int .i64 p.2.2.2.2.1, .int .i64 p.2.2.2.2.2] 137)
  have hH := hH.alloc (.cells #[.string p.1, .int .i64 p.2.1.1, .string p.2.1.2.1, .int .i64 p.2.1.2.2.1, .int .i64 p.2.1.2.2.2, .int .i64 p.2.2.1, .string p.2.2.2.1, .int .i64 p.2.2.2.2.1, .int .i64 p.2.2.2.2.2] 137)
  have hR := hR.quiet ((G.refl _ none).alloc (.cells #[.string p.1, .int .i64 p.2.1.1, .string p.2.1.2.1, .int .i64 p.2.1.2.2.1, .int .i64 p.2.1.2.2.2, .int .i64 p.2.2.1, .string p.2.2.2.1, .int .i64 p.2.2.2.2.1, .int .i64 p.2.2.2.2.2] 137))
  clear HW hGH
  generalize (w.alloc (.cells #[.string h.1, .string h.2.1, .int .i64 h.2.2.1, .int .i64 h.2.2.2, .slice (some ⟨bb, bo, none⟩) l.length cap] 55)).alloc (.cells #[.string p.1, .int .i64 p.2.1.1, .string p.2.1.2.1, .int .i64 p.2.1.2.2.1, .int .i64 p.2.1.2.2.2, .int .i64 p.2.2.1, .string p.2.2.2.1, .int .i64 p.2.2.2.2.1, .int .i64 p.2.2.2.2.2] 137) = w2 at hL hG hH hR ⊢
  have c0 : w2.cell? ⟨w.heap.size + 1, 0, none⟩ = some (.string p.1) := hL.cell 0
  have HO := Lib.hid (hL.part 1 #[.int .i64 p.2.1.1, .string p.2.1.2.1, .int .i64 p.2.1.2.2.1, .int .i64 p.2.1.2.2.2] (lg_out p))
  go_wp2_with fail
  refine (isKey_c _ _ hs1').mono ?_; rintro e w' ⟨rfl, rfl⟩
  cases k1 : keyB p.1 with
  | false =>
    have HF : Hid (E = 5) := Lib.hid (by rw [HE.out, if_pos k1])
    clear k1
    go_wp2_with fail
    go_ret
    exact ⟨ret_int HF.out.symm, hG⟩
  | true =>
    have HE1 : Hid (E = if rgE p.2.1 = 0 then (if beE h.2.2.1 (prevAt l k) p = 0 then enE (l.drop (k + 1)).isEmpty p else beE h.2.2.1 (prevAt l k) p) else rgE p.2.1) := Lib.hid (by rw [HE.out, if_neg (by simp [k1])])
    clear k1 HE
    go_wp2_with (refine wpList_load_at rfl 51 _ rfl ⟨w.heap.size + 1, 1, none⟩ rfl #[.int .i64 p.2.1.1, .string p.2.1.2.1, .int .i64 p.2.1.2.2.1, .int .i64 p.2.1.2.2.2] _ HO.out Tryd.underlying51 rfl (rg_info p.2.1) ?_)
    refine (checkReading_c p.2.1 _ hs2).mono ?_; rintro e w4 ⟨rfl, hG4⟩
    have hL := hL.quiet hG4
    have hH := hH.quiet hG4
    have hR := hR.quiet hG4
    have hG := hG.trans hG4
    clear hG4 c0 HO
    obtain ⟨R, hRR⟩ : ∃ R, rgE p.2.1 = R := ⟨_, rfl⟩
    rw [hRR] at HE1 ⊢
    clear hRR
    by_cases k2 : R = 0
    · have HE2 : Hid (E = if beE h.2.2.1 (prevAt l k) p = 0 then enE (l.drop (k + 1)).isEmpty p else beE h.2.2.1 (prevAt l k) p) := Lib.hid (by rw [HE1.out, if_pos k2])
      subst k2
      clear HE1
      go_wp2_with (refine wpList_load_row rfl 55 _ rfl w.heap.size rfl 55 #[.string h.1, .string h.2.1, .int .i64 h.2.2.1, .int .i64 h.2.2.2, .slice (some ⟨bb, bo, none⟩) l.length cap] (0, 0) _ hH Tryd.underlying55 rfl (hi_info h _) ?_)
      refine (checkBegin_c h _ l k p _ hR HP.out hn).mono ?_; rintro e w5 ⟨rfl, hG5⟩
      have hH := hH.quiet hG5
      have hR := hR.quiet hG5
      have hG := hG.trans hG5
      clear hG5
      obtain ⟨B, hB⟩ : ∃ B, beE h.2.2.1 (prevAt l k) p = B := ⟨_, rfl⟩
      rw [hB] at HE2 ⊢
      clear hB
      by_cases k3 : B = 0
      · have HF : Hid (E = enE (l.drop (k + 1)).isEmpty p) := Lib.hid (by rw [HE2.out, if_pos k3])
        subst k3
        clear HE2
        go_wp2_with (refine wpList_load_row rfl 55 _ rfl w.heap.size rfl 55 #[.string h.1, .string h.2.1, .int .i64 h.2.2.1, .int .i64 h.2.2.2, .slice (some ⟨bb, bo, none⟩) l.length cap] (0, 0) _ hH Tryd.underlying55 rfl (hi_info h _) ?_)
        refine (checkEnd_c h _ l k p _ hR HP.out hs3 hn).mono ?_; rintro e w6 ⟨rfl, hG6⟩
        have hG := hG.trans hG6
        rw [← HF.out]
        go_wp2_with fail
        go_ret
        exact ⟨rfl, hG⟩
      · have HF : Hid (E = B) := Lib.hid (by rw [HE2.out, if_neg k3])
        have k3' : (B != 0) = true := by simpa using k3
        clear k3 HE2
        go_wp2_with fail
        go_ret
        exact ⟨ret_int HF.out.symm, hG⟩
    · have HF : Hid (E = R) := Lib.hid (by rw [HE1.out, if_neg k2])
      have k2' : (R != 0) = true := by simpa using k2
      clear k2 HE1
      go_wp2_with fail
      go_ret
      exact ⟨ret_int HF.out.symm, hG⟩
def LsRel (w : World) (f : Int) (l : List Lg) (i : Value) (wr : World) : Prop :=
  ∃ k : Nat, k ≤ l.length ∧ i = .int .i64 k ∧ lsE f none l = lsE f (prevAt l k) (l.drop k) ∧ G w wr none
set_option maxRecDepth 100000 in
set_option maxHeartbeats 4000000 in
theorem check_c (h : Hh) (v : Value) (l : List Lg) (w : World) (hr : RdR w 9 lgC v l) (hl : LgOk l) (hs1 : Small h.1) (hs2 : Small h.2.1) (hb1 : bnd h.2.2.1) (hb2 : bnd h.2.2.2) (hn : l.length ≤ 1000) :
    Calls Tryd.prog 136 #[.agg (hiC h v)] w fun e w' => e = .returned (.int .i64 (hiE h l)) ∧ G w w' none := by
  have hH := Bk.new w 55 (hiC h v)
  have hG := (G.refl w none).alloc (.cells (hiC h v) 55)
  have hR := hr.quiet hG
  obtain ⟨a, cap, rfl, hcap, hm⟩ := RdR.form hr
  clear hr
  unfold Small at hs1 hs2
  obtain ⟨E, hE⟩ : ∃ E, hiE h l = E := ⟨_, rfl⟩
  have HE : Hid (E = if keyB h.1 = false then 5 else if keyB h.2.1 = false then 5 else if tE h.2.2.1 h.2.2.2 = 0 then (if l.length = 0 then 3 else if 20 < l.length then 2 else lsE h.2.2.1 none l) else tE h.2.2.1 h.2.2.2) := Lib.hid hE.symm
  rw [hE]
  clear hE
  simp only [hiC] at hH hG hR ⊢
  go_enter Tryd.func136, Tryd.ntmps136
  go_upto_region 1 with fail
  generalize w.alloc (.cells #[.string h.1, .string h.2.1, .int .i64 h.2.2.1, .int .i64 h.2.2.2, .slice a l.length cap] 55) = w2 at hG hH hR ⊢
  have hg := hH.lt
  generalize w.heap.size = g at hH hg ⊢
  have c0 : w2.cell? ⟨g, 0, none⟩ = some (.string h.1) := hH.cell 0
  have c1 : w2.cell? ⟨g, 1, none⟩ = some (.string h.2.1) := hH.cell 1
  go_wp2_with fail
  refine (isKey_c _ _ hs1).mono ?_; rintro e w' ⟨rfl, rfl⟩
  cases k1 : keyB h.1 with
  | false =>
    have HF : Hid (E = 5) := Lib.hid (by rw [HE.out, if_pos k1])
    clear k1
    go_wp2_with fail
    go_ret
    exact ⟨ret_int HF.out.symm, hG⟩
  | true =>
    have K1 := Lib.hid k1
    clear k1
    go_wp2_with fail
    refine (isKey_c _ _ hs2).mono ?_; rintro e w' ⟨rfl, rfl⟩
    cases k2 : keyB h.2.1 with
    | false =>
      have HF : Hid (E = 5) := Lib.hid (by rw [HE.out, if_neg (by simp [K1.out]), if_pos k2])
      clear k2
      go_wp2_with fail
      go_ret
      exact ⟨ret_int HF.out.symm, hG⟩
    | true =>
      have HE1 : Hid (E = if tE h.2.2.1 h.2.2.2 = 0 then (if l.length = 0 then 3 else if 20 < l.length then 2 else lsE h.2.2.1 none l) else tE h.2.2.1 h.2.2.2) := Lib.hid (by rw [HE.out, if_neg (by simp [K1.out]), if_neg (by simp [k2])])
      clear k2 HE
      have HT := Lib.hid (hH.part 2 #[.int .i64 h.2.2.1, .int .i64 h.2.2.2] (hi_time h _))
      go_wp2_with (refine wpList_load_at rfl 29 _ rfl ⟨g, 2, none⟩ rfl #[.int .i64 h.2.2.1, .int .i64 h.2.2.2] _ HT.out Tryd.underlying29 rfl (wi_info _ _) ?_)
      refine (days_c _ _ _ hb1 hb2).mono ?_; rintro e w3 ⟨rfl, hG3⟩
      have hH := hH.quiet hG3
      have hR := hR.quiet hG3
      have hG := hG.trans hG3
      clear hG3 c0 c1 HT
      obtain ⟨T, hT⟩ : ∃ T, tE h.2.2.1 h.2.2.2 = T := ⟨_, rfl⟩
      rw [hT] at HE1 ⊢
      clear hT
      generalize tN h.2.2.1 h.2.2.2 = N
      by_cases k3 : T = 0
      · have HE2 : Hid (E = if l.length = 0 then 3 else if 20 < l.length then 2 else lsE h.2.2.1 none l) := Lib.hid (by rw [HE1.out, if_pos k3])
        subst k3
        clear HE1
        have c4 : w3.cell? ⟨g, 4, none⟩ = some (.slice a l.length cap) := hH.cell 4
        by_cases k4 : l.length = 0
        · have HF : Hid (E = 3) := Lib.hid (by rw [HE2.out, if_pos k4])
          have k4' : ((l.length : Int) == 0) = true := by rw [k4]; rfl
          clear k4
          go_wp2_with fail
          go_ret
          exact ⟨ret_int HF.out.symm, hG⟩
        · have k4' : ((l.length : Int) == 0) = false := by rw [beq_eq_false_iff_ne]; omega
          by_cases k5 : 20 < l.length
          · have HF : Hid (E = 2) := Lib.hid (by rw [HE2.out, if_neg k4, if_pos k5])
            have k5' : (20 : Int) < (l.length : Int) := by omega
            clear k5 k4
            go_wp2_with fail
            go_ret
            exact ⟨ret_int HF.out.symm, hG⟩
          · have HE3 : Hid (E = lsE h.2.2.1 none l) := Lib.hid (by rw [HE2.out, if_neg k4, if_neg k5])
            have k5' : ¬ (20 : Int) < (l.length : Int) := by omega
            clear k5 k4 HE2
            have HHH := Lib.hid hH
            have HRR := Lib.hid hR
            clear hH hR
            go_wp2_with fail
            go_loopw [37] (LsRel w3 h.2.2.1 l) (fun i _ => l.length - (intOf i).toNat)
            case atStart => exact ⟨0, by omega, rfl, rfl, G.refl _ _⟩
            case round =>
              obtain ⟨k, hkl, rfl, heq, hGr⟩ := hrel
              have HEq := Lib.hid heq
              clear heq c4
              have hH := HHH.out.quiet hGr
              have hR := HRR.out.quiet hGr
              by_cases hk : k < l.length
              · obtain ⟨p, hp⟩ : ∃ p, l[k]? = some p := ⟨_, List.getElem?_eq_getElem hk⟩
                have hdrop : l.drop k = p :: l.drop (k + 1) := by rw [List.drop_eq_getElem_cons hk, ← (List.getElem?_eq_some_iff.1 hp).2]
                have HS : Hid (lsE h.2.2.1 none l = if lgE h.2.2.1 (prevAt l k) (l.drop (k + 1)).isEmpty p = 0 then lsE h.2.2.1 (some p) (l.drop (k + 1)) else lgE h.2.2.1 (prevAt l k) (l.drop (k + 1)).isEmpty p) := Lib.hid (by rw [HEq.out, hdrop]; rfl)
                have hpb := hl p (List.mem_of_getElem? hp)
                have HP := Lib.hid hp
                have HK := Lib.hid hk
                have hki : (k : Int) < (l.length : Int) := by omega
                clear hdrop hp
                go_wp2_with (refine wpList_load_row rfl 55 _ rfl g rfl 55 #[.string h.1, .string h.2.1, .int .i64 h.2.2.1, .int .i64 h.2.2.2, .slice a l.length cap] (0, 0) _ hH Tryd.underlying55 rfl (hi_info h _) ?_)
                refine (checkLeg_c h _ l k p _ hR HP.out hpb hn).mono ?_; rintro e w5 ⟨rfl, hG5⟩
                have hGr5 := hGr.trans hG5
                clear hG5 hGr hH hR hpb
                obtain ⟨L, hL⟩ : ∃ L, lgE h.2.2.1 (prevAt l k) (l.drop (k + 1)).isEmpty p = L := ⟨_, rfl⟩
                rw [hL] at HS ⊢
                clear hL
                by_cases k6 : L = 0
                · have HF : Hid (lsE h.2.2.1 none l = lsE h.2.2.1 (prevAt l (k + 1)) (l.drop (k + 1))) := Lib.hid (by rw [HS.out, if_pos k6, prevAt_succ l k p HP.out])
                  subst k6
                  clear HS
                  go_wp2_with fail
                  go_roundw
                  case rel => exact ⟨k + 1, by omega, by go_num, HF.out, hGr5⟩
                  case measure => have := HK.out; simp [intOf]; omega
                · have HF : Hid (E = L) := Lib.hid (by rw [HE3.out, HS.out, if_neg k6])
                  have k6' : (L != 0) = true := by simpa using k6
                  clear k6 HS
                  go_wp2_with fail
                  go_ret
                  exact ⟨ret_int HF.out.symm, hG.trans hGr5⟩
              · obtain rfl : k = l.length := by omega
                have HF : Hid (E = 0) := Lib.hid (by rw [HE3.out, HEq.out, List.drop_length]; rfl)
                go_wp2_with fail
                go_ret
                exact ⟨ret_int HF.out.symm, hG.trans hGr⟩
      · have HF : Hid (E = T) := Lib.hid (by rw [HE1.out, if_neg k3])
        have k3' : (T != 0) = true := by simpa using k3
        clear k3 HE1
        go_wp2_with fail
        go_ret
        exact ⟨ret_int HF.out.symm, hG⟩
end Go.Proofs.YtndeidcddlmhbaaDoor

/- Hires: the reference's readingFault, legFault, HireFault. -/
namespace Go.Proofs.YtndeidcddlmhbaaDoor
open Go.RowKit

set_option maxRecDepth 100000 in
set_option maxHeartbeats 2000000 in
theorem readingFault_c (x : Rg) (w : World) (hs : Small x.2.1) :
    Calls Tryd.prog 189 #[.agg (rgC x)] w fun e w' => e = .returned (.int .i64 (rgE x)) ∧ G w w' none := by
  have hG1 := (G.refl w none).alloc (.cells (rgC x) 51)
  have hB1 := Bk.new w 51 (rgC x)
  unfold Small at hs
  obtain ⟨t, s, m, f⟩ := x
  simp only [rgC] at hG1 hB1 hs ⊢
  have HE : Hid (rgE (t, s, m, f) = if momB t = false then 1 else if keyB s = false then 5 else if inB m 0 999999 = false then 1 else if inB f 0 8 = false then 1 else 0) := Lib.hid rfl
  generalize rgE (t, s, m, f) = R at HE ⊢
  go_enter Tryd.func189, Tryd.ntmps189
  go_wp2_with fail
  refine (rMoment_c t _).mono ?_; rintro e w1 ⟨rfl, rfl⟩
  cases k1 : momB t with
  | false =>
    have HF : Hid (R = 1) := Lib.hid (by rw [HE.out, if_pos k1])
    clear k1
    go_wp2_with fail
    go_ret
    exact ⟨ret_int HF.out.symm, hG1⟩
  | true =>
    have HE : Hid (R = if keyB s = false then 5 else if inB m 0 999999 = false then 1 else if inB f 0 8 = false then 1 else 0) := Lib.hid (by rw [HE.out, if_neg (by simp [k1])])
    clear k1
    go_wp2_with fail
    refine (rkey_c s _ hs).mono ?_; rintro e w1 ⟨rfl, hGk⟩
    have hB1 := hB1.quiet hGk
    have hG1 := hG1.trans hGk
    clear hGk
    have d2 : w1.cell? ⟨w.heap.size, 2, none⟩ = some (.int .i64 m) := hB1.cell 2
    have d3 : w1.cell? ⟨w.heap.size, 3, none⟩ = some (.int .i64 f) := hB1.cell 3
    cases k2 : keyB s with
    | false =>
      have HF : Hid (R = 5) := Lib.hid (by rw [HE.out, if_pos k2])
      clear k2
      go_wp2_with fail
      go_ret
      exact ⟨ret_int HF.out.symm, hG1⟩
    | true =>
      have HE : Hid (R = if inB m 0 999999 = false then 1 else if inB f 0 8 = false then 1 else 0) := Lib.hid (by rw [HE.out, if_neg (by simp [k2])])
      clear k2
      go_wp2_with fail
      refine (in_c m 0 999999 _).mono ?_; rintro e w1 ⟨rfl, rfl⟩
      cases k3 : inB m 0 999999 with
      | false =>
        have HF : Hid (R = 1) := Lib.hid (by rw [HE.out, if_pos k3])
        clear k3
        go_wp2_with fail
        go_ret
        exact ⟨ret_int HF.out.symm, hG1⟩
      | true =>
        have HE : Hid (R = if inB f 0 8 = false then 1 else 0) := Lib.hid (by rw [HE.out, if_neg (by simp [k3])])
        clear k3
        go_wp2_with fail
        refine (in_c f 0 8 _).mono ?_; rintro e w1 ⟨rfl, rfl⟩
        cases k4 : inB f 0 8 with
        | false =>
          have HF : Hid (R = 1) := Lib.hid (by rw [HE.out, if_pos k4])
          clear k4
          go_wp2_with fail
          go_ret
          exact ⟨ret_int HF.out.symm, hG1⟩
        | true =>
          have HF : Hid (R = 0) := Lib.hid (by rw [HE.out, if_neg (by simp [k4])])
          clear k4
          go_wp2_with fail
          go_ret
          exact ⟨ret_int HF.out.symm, hG1⟩
set_option maxRecDepth 100000 in
set_option maxHeartbeats 8000000 in
theorem legFault_c (h : Hh) (v : Value) (l : List Lg) (k : Nat) (p : Lg) (w : World) (hr : RdR w 9 lgC v l) (hp : l[k]? = some p) (hs : lgB p) (hn : l.length ≤ 1000) :
    Calls Tryd.prog 168 #[.agg (hiC h v), .int .i64 k] w fun e w' => e = .returned (.int .i64 (lgE h.2.2.1 (prevAt l k) (l.drop (k + 1)).isEmpty p)) ∧ G w w' none := by
  have hH := Bk.new w 55 (hiC h v)
  have hGH := (G.refl w none).alloc (.cells (hiC h v) 55)
  have hR := hr.quiet hGH
  obtain ⟨a, cap, rfl, hcap, hm⟩ := RdR.form hr
  clear hr
  have hk : k < l.length := (List.getElem?_eq_some_iff.1 hp).1
  have hki : (k : Int) < (l.length : Int) := by omega
  obtain ⟨bb, bo, rfl, -, -⟩ := RdR.elem lgC_sz hR (G.refl _ none) hp
  have HW := Lib.hid (lgRow hR (G.refl _ none) hp)
  obtain ⟨hs1, hs2, hs3⟩ := hs
  have hs1' := hs1
  unfold Small at hs1'
  clear hp
  obtain ⟨E, hE⟩ : ∃ E, lgE h.2.2.1 (prevAt l k) (l.drop (k + 1)).isEmpty p = E := ⟨_, rfl⟩
  have HE : Hid (E = if keyB p.1 = false then 5 else if rgE p.2.1 = 0 then (if beE h.2.2.1 (prevAt l k) p = 0 then enE (l.drop (k + 1)).isEmpty p else beE h.2.2.1 (prevAt l k) p) else rgE p.2.1) := Lib.hid hE.symm
  rw [hE]
  clear hE
  simp only [hiC] at hH hGH hR HW ⊢
  go_enter Tryd.func168, Tryd.ntmps168
  go_upto_region 2 with (refine wpList_load_at rfl 137 _ rfl ⟨bb, bo + k * 9, none⟩ rfl #[.string p.1, .int .i64 p.2.1.1, .string p.2.1.2.1, .int .i64 p.2.1.2.2.1, .int .i64 p.2.1.2.2.2, .int .i64 p.2.2.1, .string p.2.2.2.1, .int .i64 p.2.2.2.2.1, .int .i64 p.2.2.2.2.2] _ HW.out Tryd.underlying137 rfl (lg_info p) ?_)
  have hL : Bk ((w.alloc (.cells #[.string h.1, .string h.2.1, .int .i64 h.2.2.1, .int .i64 h.2.2.2, .slice (some ⟨bb, bo, none⟩) l.length cap] 55)).alloc (.cells #[.string p.1, .int .i64 p.2.1.1, .string p.2.1.2.1, .int .i64 p.2.1.2.2.1, .int .i64 p.2.1.2.2.2, .int .i64 p.2.2.1, .string p.2.2.2.1, .int .i64 p.2.2.2.2.1, .int .i64 p.2.2.2.2.2] 137)) (w.heap.size + 1) 137 (lgC p) := Bk.newAt (by simp) _ _
  have hG := hGH.alloc (.cells #[.string p.1, .int .i64 p.2.1.1, .string p.2.1.2.1, .int .i64 p.2.1.2.2.1, .int .i64 p.2.1.2.2.2, .int .i64 p.2.2.1, .string p.2.2.2.1, .int .i64 p.2.2.2.2.1, .int .i64 p.2.2.2.2.2] 137)
  have hH := hH.alloc (.cells #[.string p.1, .int .i64 p.2.1.1, .string p.2.1.2.1, .int .i64 p.2.1.2.2.1, .int .i64 p.2.1.2.2.2, .int .i64 p.2.2.1, .string p.2.2.2.1, .int .i64 p.2.2.2.2.1, .int .i64 p.2.2.2.2.2] 137)
  have hR := hR.quiet ((G.refl _ none).alloc (.cells #[.string p.1, .int .i64 p.2.1.1, .string p.2.1.2.1, .int .i64 p.2.1.2.2.1, .int .i64 p.2.1.2.2.2, .int .i64 p.2.2.1, .string p.2.2.2.1, .int .i64 p.2.2.2.2.1, .int .i64 p.2.2.2.2.2] 137))
  clear HW hGH
  generalize (w.alloc (.cells #[.string h.1, .string h.2.1, .int .i64 h.2.2.1, .int .i64 h.2.2.2, .slice (some ⟨bb, bo, none⟩) l.length cap] 55)).alloc (.cells #[.string p.1, .int .i64 p.2.1.1, .string p.2.1.2.1, .int .i64 p.2.1.2.2.1, .int .i64 p.2.1.2.2.2, .int .i64 p.2.2.1, .string p.2.2.2.1, .int .i64 p.2.2.2.2.1, .int .i64 p.2.2.2.2.2] 137) = w2 at hL hG hH hR ⊢
  have c0 : w2.cell? ⟨w.heap.size + 1, 0, none⟩ = some (.string p.1) := hL.cell 0
  go_wp2_with fail
  refine (rkey_c _ _ hs1').mono ?_; rintro e w' ⟨rfl, hGk⟩
  have hL := hL.quiet hGk
  have hH := hH.quiet hGk
  have hR := hR.quiet hGk
  have hG := hG.trans hGk
  clear hGk c0
  have HO := Lib.hid (hL.part 1 #[.int .i64 p.2.1.1, .string p.2.1.2.1, .int .i64 p.2.1.2.2.1, .int .i64 p.2.1.2.2.2] (lg_out p))
  cases k1 : keyB p.1 with
  | false =>
    have HF : Hid (E = 5) := Lib.hid (by rw [HE.out, if_pos k1])
    clear k1
    go_wp2_with fail
    go_ret
    exact ⟨ret_int HF.out.symm, hG⟩
  | true =>
    have HE1 : Hid (E = if rgE p.2.1 = 0 then (if beE h.2.2.1 (prevAt l k) p = 0 then enE (l.drop (k + 1)).isEmpty p else beE h.2.2.1 (prevAt l k) p) else rgE p.2.1) := Lib.hid (by rw [HE.out, if_neg (by simp [k1])])
    clear k1 HE
    go_wp2_with (refine wpList_load_at rfl 51 _ rfl ⟨w.heap.size + 1, 1, none⟩ rfl #[.int .i64 p.2.1.1, .string p.2.1.2.1, .int .i64 p.2.1.2.2.1, .int .i64 p.2.1.2.2.2] _ HO.out Tryd.underlying51 rfl (rg_info p.2.1) ?_)
    refine (readingFault_c p.2.1 _ hs2).mono ?_; rintro e w4 ⟨rfl, hG4⟩
    have hL := hL.quiet hG4
    have hH := hH.quiet hG4
    have hR := hR.quiet hG4
    have hG := hG.trans hG4
    clear hG4 HO
    obtain ⟨R, hRR⟩ : ∃ R, rgE p.2.1 = R := ⟨_, rfl⟩
    rw [hRR] at HE1 ⊢
    clear hRR
    by_cases k2 : R = 0
    · have HE2 : Hid (E = if beE h.2.2.1 (prevAt l k) p = 0 then enE (l.drop (k + 1)).isEmpty p else beE h.2.2.1 (prevAt l k) p) := Lib.hid (by rw [HE1.out, if_pos k2])
      subst k2
      clear HE1
      obtain ⟨B, hB⟩ : ∃ B, beE h.2.2.1 (prevAt l k) p = B := ⟨_, rfl⟩
      rw [hB] at HE2
      have HBB := Lib.hid hB
      clear hB
      -- the beginning: meets again where it is none
      have c0 : w4.cell? ⟨w.heap.size + 1, 0, none⟩ = some (.string p.1) := hL.cell 0
      have c1 : w4.cell? ⟨w.heap.size + 1, 1, none⟩ = some (.int .i64 p.2.1.1) := hL.cell 1
      have c2 : w4.cell? ⟨w.heap.size + 1, 2, none⟩ = some (.string p.2.1.2.1) := hL.cell 2
      have d2 : w4.cell? ⟨w.heap.size, 2, none⟩ = some (.int .i64 h.2.2.1) := hH.cell 2
      have d4 : w4.cell? ⟨w.heap.size, 4, none⟩ = some (.slice (some ⟨bb, bo, none⟩) l.length cap) := hH.cell 4
      go_upto_if 25 with fail
      go_cut [] from 26 (fun w5 => B = 0 ∧ Bk w5 (w.heap.size + 1) 137 (lgC p) ∧ Bk w5 w.heap.size 55 #[.string h.1, .string h.2.1, .int .i64 h.2.2.1, .int .i64 h.2.2.2, .slice (some ⟨bb, bo, none⟩) l.length cap] ∧ G w w5 none)
      case first =>
        cases k with
        | zero =>
          by_cases hq : p.2.1.1 = h.2.2.1
          · have HF : Hid (B = 0) := Lib.hid (by rw [← HBB.out]; exact if_pos hq)
            go_wp2_with fail
            go_meet
            case rel => exact ⟨HF.out, hL, hH, hG⟩
          · have hB : B = 7 := by rw [← HBB.out]; exact if_neg hq
            have HF : Hid (E = 7) := Lib.hid (by rw [HE2.out, hB, if_neg (by decide)])
            clear hB
            go_wp2_with fail
            go_ret
            exact ⟨ret_int HF.out.symm, hG⟩
        | succ m =>
          obtain ⟨q, hq2⟩ : ∃ q, l[m]? = some q := ⟨_, List.getElem?_eq_getElem (by omega)⟩
          have HA : Hid (B = if p.2.1.1 = q.2.2.1 then (if p.1 = q.1 then 16 else if p.2.1.2.1 = q.2.2.2.1 then 0 else 8) else 7) := Lib.hid (by rw [← HBB.out, prevAt_succ l m q hq2]; rfl)
          have hsub : IntKind.i64.wrap (((m + 1 : Nat) : Int) - 1) = (m : Int) := by rw [show ((m + 1 : Nat) : Int) - 1 = (m : Int) by omega]; rw [IntKind.wrap_i64]; omega
          have hsub2 : IntKind.i64.wrap (m : Int) = (m : Int) := by rw [IntKind.wrap_i64]; omega
          have hsub3 : IntKind.i64.wrap ((m : Int) + 1 - 1) = (m : Int) := by rw [IntKind.wrap_i64]; omega
          have hm0 : (0 : Int) ≤ (m : Int) := Int.natCast_nonneg m
          have hml : (m : Int) < (l.length : Int) := by omega
          have hne : (((m + 1 : Nat) : Int) == 0) = false := by simp; omega
          have hne2 : ((m : Int) + 1 == 0) = false := by simp; omega
          have HW := Lib.hid (lgRow hR (G.refl _ none) hq2)
          have hHH := Lib.hid hH
          clear HBB hq2 c0 c1 c2 d2 hH
          go_upto_region 11 with (refine wpList_load_at rfl 137 _ rfl ⟨bb, bo + m * 9, none⟩ rfl #[.string q.1, .int .i64 q.2.1.1, .string q.2.1.2.1, .int .i64 q.2.1.2.2.1, .int .i64 q.2.1.2.2.2, .int .i64 q.2.2.1, .string q.2.2.2.1, .int .i64 q.2.2.2.2.1, .int .i64 q.2.2.2.2.2] _ HW.out Tryd.underlying137 rfl (lg_info q) ?_)
          have hQ := Bk.new w4 137 (lgC q)
          have hG := hG.alloc (.cells (lgC q) 137)
          have hL := hL.alloc (.cells (lgC q) 137)
          have hH := hHH.out.alloc (.cells (lgC q) 137)
          rw [show #[.string q.1, .int .i64 q.2.1.1, .string q.2.1.2.1, .int .i64 q.2.1.2.2.1, .int .i64 q.2.1.2.2.2, .int .i64 q.2.2.1, .string q.2.2.2.1, .int .i64 q.2.2.2.2.1, .int .i64 q.2.2.2.2.2] = lgC q from rfl]
          generalize w4.alloc (.cells (lgC q) 137) = w3 at hQ hG hL hH ⊢
          generalize w4.heap.size = g at hQ ⊢
          have c0 : w3.cell? ⟨w.heap.size + 1, 0, none⟩ = some (.string p.1) := hL.cell 0
          have c1 : w3.cell? ⟨w.heap.size + 1, 1, none⟩ = some (.int .i64 p.2.1.1) := hL.cell 1
          have c2 : w3.cell? ⟨w.heap.size + 1, 2, none⟩ = some (.string p.2.1.2.1) := hL.cell 2
          have q0 : w3.cell? ⟨g, 0, none⟩ = some (.string q.1) := hQ.cell 0
          have q5 : w3.cell? ⟨g, 5, none⟩ = some (.int .i64 q.2.2.1) := hQ.cell 5
          have q6 : w3.cell? ⟨g, 6, none⟩ = some (.string q.2.2.2.1) := hQ.cell 6
          clear hQ d4
          by_cases k1 : p.2.1.1 = q.2.2.1
          · have HA1 : Hid (B = if p.1 = q.1 then 16 else if p.2.1.2.1 = q.2.2.2.1 then 0 else 8) := Lib.hid (by rw [HA.out, if_pos k1])
            have k1' : (p.2.1.1 != q.2.2.1) = false := by simpa using k1
            clear k1 HA
            by_cases k2 : p.1 = q.1
            · have hB : B = 16 := by rw [HA1.out, if_pos k2]
              have k2' : (p.1.toList == q.1.toList) = true := by rw [k2]; simp
              clear k2
              have HF : Hid (E = 16) := Lib.hid (by rw [HE2.out, hB, if_neg (by decide)])
              clear hB
              go_wp2_with fail
              go_ret
              exact ⟨ret_int HF.out.symm, hG⟩
            · have HA2 : Hid (B = if p.2.1.2.1 = q.2.2.2.1 then 0 else 8) := Lib.hid (by rw [HA1.out, if_neg k2])
              have k2' : (p.1.toList == q.1.toList) = false := by simpa using fun e => k2 (toList_ext e)
              clear k2 HA1
              by_cases k3 : p.2.1.2.1 = q.2.2.2.1
              · have HF : Hid (B = 0) := Lib.hid (by rw [HA2.out, if_pos k3])
                have k3' : (p.2.1.2.1.toList == q.2.2.2.1.toList) = true := by rw [k3]; simp
                have k3n : (p.2.1.2.1.toList != q.2.2.2.1.toList) = false := by rw [k3]; simp
                clear k3
                go_wp2_with fail
                go_meet
                case rel => exact ⟨HF.out, hL, hH, hG⟩
              · have hB : B = 8 := by rw [HA2.out, if_neg k3]
                have k3' : (p.2.1.2.1.toList == q.2.2.2.1.toList) = false := by simpa using fun e => k3 (toList_ext e)
                have k3n : (p.2.1.2.1.toList != q.2.2.2.1.toList) = true := by simpa using fun e => k3 (toList_ext e)
                clear k3
                have HF : Hid (E = 8) := Lib.hid (by rw [HE2.out, hB, if_neg (by decide)])
                clear hB
                go_wp2_with fail
                go_ret
                exact ⟨ret_int HF.out.symm, hG⟩
          · have hB : B = 7 := by rw [HA.out, if_neg k1]
            have k1' : (p.2.1.1 != q.2.2.1) = true := by simpa using k1
            clear k1
            have HF : Hid (E = 7) := Lib.hid (by rw [HE2.out, hB, if_neg (by decide)])
            clear hB
            go_wp2_with fail
            go_ret
            exact ⟨ret_int HF.out.symm, hG⟩
      case rest =>
        obtain ⟨hB0, hL, hH, hG⟩ := hcut
        have HE : Hid (E = if p.2.2.1 = -1 then (if p.2.2 = noIn then (if decide (l.length ≤ k + 1) = true then 0 else 11) else 3) else if rgE p.2.2 = 0 then (if p.2.2.1 ≤ p.2.1.1 then 7 else 0) else rgE p.2.2) := Lib.hid (by rw [HE2.out, if_pos hB0, drop_empty]; rfl)
        clear hB0 HE2 HBB c0 c1 c2 d2 d4 hR
        generalize wc = w3 at hL hH hG ⊢
        have HP := Lib.hid (hL.part 5 #[.int .i64 p.2.2.1, .string p.2.2.2.1, .int .i64 p.2.2.2.2.1, .int .i64 p.2.2.2.2.2] (lg_in p))
        have c1 : w3.cell? ⟨w.heap.size + 1, 1, none⟩ = some (.int .i64 p.2.1.1) := hL.cell 1
        have c5 : w3.cell? ⟨w.heap.size + 1, 5, none⟩ = some (.int .i64 p.2.2.1) := hL.cell 5
        have d4 : w3.cell? ⟨w.heap.size, 4, none⟩ = some (.slice (some ⟨bb, bo, none⟩) l.length cap) := hH.cell 4
        clear hH
        by_cases k1 : p.2.2.1 = -1
        · have k1' : (p.2.2.1 == -1) = true := by simpa using k1
          have HN := fun w : World => rg_neq p.2.2 noIn w
          by_cases k2 : p.2.2 = noIn
          · have HNN : Hid (∀ w : World, (binOp .neq 51 (.agg #[.int .i64 p.2.2.1, .string p.2.2.2.1, .int .i64 p.2.2.2.2.1, .int .i64 p.2.2.2.2.2]) (.agg #[.int .i64 (-1), .string ⟨#[]⟩, .int .i64 0, .int .i64 0])).run Tryd.prog w = .ok (.bool false) w) := Lib.hid fun w => by
              have := HN w
              rw [decide_eq_true k2] at this
              exact this
            have hnn := HNN.out
            have HE : Hid (E = if decide (l.length ≤ k + 1) = true then 0 else 11) := Lib.hid (by rw [HE.out, if_pos k1, if_pos k2])
            have hl1 : IntKind.i64.wrap ((l.length : Int) - 1) = (l.length : Int) - 1 := by rw [IntKind.wrap_i64]; omega
            clear k1 k2 HN HNN
            by_cases k3 : l.length ≤ k + 1
            · have HF : Hid (E = 0) := Lib.hid (by rw [HE.out, if_pos (decide_eq_true k3)])
              have k3' : ¬ ((k : Int) < (l.length : Int) - 1) := by omega
              clear k3
              go_wp2_with (refine wpList_load_at rfl 51 _ rfl ⟨w.heap.size + 1, 5, none⟩ rfl #[.int .i64 p.2.2.1, .string p.2.2.2.1, .int .i64 p.2.2.2.2.1, .int .i64 p.2.2.2.2.2] _ HP.out Tryd.underlying51 rfl (rg_info p.2.2) ?_)
              go_ret
              exact ⟨ret_int HF.out.symm, hG⟩
            · have HF : Hid (E = 11) := Lib.hid (by rw [HE.out, if_neg (by simpa using k3)])
              have k3' : (k : Int) < (l.length : Int) - 1 := by omega
              clear k3
              go_wp2_with (refine wpList_load_at rfl 51 _ rfl ⟨w.heap.size + 1, 5, none⟩ rfl #[.int .i64 p.2.2.1, .string p.2.2.2.1, .int .i64 p.2.2.2.2.1, .int .i64 p.2.2.2.2.2] _ HP.out Tryd.underlying51 rfl (rg_info p.2.2) ?_)
              go_ret
              exact ⟨ret_int HF.out.symm, hG⟩
          · have HNN : Hid (∀ w : World, (binOp .neq 51 (.agg #[.int .i64 p.2.2.1, .string p.2.2.2.1, .int .i64 p.2.2.2.2.1, .int .i64 p.2.2.2.2.2]) (.agg #[.int .i64 (-1), .string ⟨#[]⟩, .int .i64 0, .int .i64 0])).run Tryd.prog w = .ok (.bool true) w) := Lib.hid fun w => by
              have := HN w
              rw [decide_eq_false k2] at this
              exact this
            have hnn := HNN.out
            have HF : Hid (E = 3) := Lib.hid (by rw [HE.out, if_pos k1, if_neg k2])
            clear HE k1 k2 HN HNN
            go_wp2_with (refine wpList_load_at rfl 51 _ rfl ⟨w.heap.size + 1, 5, none⟩ rfl #[.int .i64 p.2.2.1, .string p.2.2.2.1, .int .i64 p.2.2.2.2.1, .int .i64 p.2.2.2.2.2] _ HP.out Tryd.underlying51 rfl (rg_info p.2.2) ?_)
            go_ret
            exact ⟨ret_int HF.out.symm, hG⟩
        · have k1' : (p.2.2.1 == -1) = false := by simpa using k1
          have HE : Hid (E = if rgE p.2.2 = 0 then (if p.2.2.1 ≤ p.2.1.1 then 7 else 0) else rgE p.2.2) := Lib.hid (by rw [HE.out, if_neg k1])
          clear k1
          go_wp2_with (refine wpList_load_at rfl 51 _ rfl ⟨w.heap.size + 1, 5, none⟩ rfl #[.int .i64 p.2.2.1, .string p.2.2.2.1, .int .i64 p.2.2.2.2.1, .int .i64 p.2.2.2.2.2] _ HP.out Tryd.underlying51 rfl (rg_info p.2.2) ?_)
          refine (readingFault_c p.2.2 _ hs3).mono ?_; rintro e w4 ⟨rfl, hG4⟩
          have hL := hL.quiet hG4
          have hG := hG.trans hG4
          clear hG4 c1 c5 d4 HP
          have c1 : w4.cell? ⟨w.heap.size + 1, 1, none⟩ = some (.int .i64 p.2.1.1) := hL.cell 1
          have c5 : w4.cell? ⟨w.heap.size + 1, 5, none⟩ = some (.int .i64 p.2.2.1) := hL.cell 5
          obtain ⟨R, hR⟩ : ∃ R, rgE p.2.2 = R := ⟨_, rfl⟩
          rw [hR] at HE ⊢
          clear hR
          by_cases k2 : R = 0
          · have HE5 : Hid (E = if p.2.2.1 ≤ p.2.1.1 then 7 else 0) := Lib.hid (by rw [HE.out, if_pos k2])
            subst k2
            by_cases k3 : p.2.2.1 ≤ p.2.1.1
            · have HF : Hid (E = 7) := Lib.hid (by rw [HE5.out, if_pos k3])
              go_wp2_with fail
              go_ret
              exact ⟨ret_int HF.out.symm, hG⟩
            · have HF : Hid (E = 0) := Lib.hid (by rw [HE5.out, if_neg k3])
              go_wp2_with fail
              go_ret
              exact ⟨ret_int HF.out.symm, hG⟩
          · have HF : Hid (E = R) := Lib.hid (by rw [HE.out, if_neg k2])
            have k2' : (R != 0) = true := by simpa using k2
            clear k2
            go_wp2_with fail
            go_ret
            exact ⟨ret_int HF.out.symm, hG⟩
    · have HF : Hid (E = R) := Lib.hid (by rw [HE1.out, if_neg k2])
      have k2' : (R != 0) = true := by simpa using k2
      clear k2 HE1
      go_wp2_with fail
      go_ret
      exact ⟨ret_int HF.out.symm, hG⟩
set_option maxRecDepth 100000 in
set_option maxHeartbeats 4000000 in
theorem hireFault_c (h : Hh) (v : Value) (l : List Lg) (w : World) (hr : RdR w 9 lgC v l) (hl : LgOk l) (hs1 : Small h.1) (hs2 : Small h.2.1) (hb1 : bnd h.2.2.1) (hb2 : bnd h.2.2.2) (hn : l.length ≤ 1000) :
    Calls Tryd.prog 137 #[.agg (hiC h v)] w fun e w' => e = .returned (.int .i64 (hiE h l)) ∧ G w w' none := by
  have hH := Bk.new w 55 (hiC h v)
  have hG := (G.refl w none).alloc (.cells (hiC h v) 55)
  have hR := hr.quiet hG
  obtain ⟨a, cap, rfl, hcap, hm⟩ := RdR.form hr
  clear hr
  unfold Small at hs1 hs2
  obtain ⟨E, hE⟩ : ∃ E, hiE h l = E := ⟨_, rfl⟩
  have HE : Hid (E = if keyB h.1 = false then 5 else if keyB h.2.1 = false then 5 else if tE h.2.2.1 h.2.2.2 = 0 then (if l.length = 0 then 3 else if 20 < l.length then 2 else lsE h.2.2.1 none l) else tE h.2.2.1 h.2.2.2) := Lib.hid hE.symm
  rw [hE]
  clear hE
  simp only [hiC] at hH hG hR ⊢
  go_enter Tryd.func137, Tryd.ntmps137
  go_upto_region 1 with fail
  generalize w.alloc (.cells #[.string h.1, .string h.2.1, .int .i64 h.2.2.1, .int .i64 h.2.2.2, .slice a l.length cap] 55) = w2 at hG hH hR ⊢
  have hg := hH.lt
  generalize w.heap.size = g at hH hg ⊢
  have c0 : w2.cell? ⟨g, 0, none⟩ = some (.string h.1) := hH.cell 0
  have c1 : w2.cell? ⟨g, 1, none⟩ = some (.string h.2.1) := hH.cell 1
  go_wp2_with fail
  refine (rkey_c _ _ hs1).mono ?_; rintro e w' ⟨rfl, hGk⟩
  have hH := hH.quiet hGk
  have hR := hR.quiet hGk
  have hG := hG.trans hGk
  clear hGk c0 c1
  have c1 : w'.cell? ⟨g, 1, none⟩ = some (.string h.2.1) := hH.cell 1
  cases k1 : keyB h.1 with
  | false =>
    have HF : Hid (E = 5) := Lib.hid (by rw [HE.out, if_pos k1])
    clear k1
    go_wp2_with fail
    go_ret
    exact ⟨ret_int HF.out.symm, hG⟩
  | true =>
    have K1 := Lib.hid k1
    clear k1
    go_wp2_with fail
    refine (rkey_c _ _ hs2).mono ?_; rintro e w4 ⟨rfl, hGk⟩
    have hH := hH.quiet hGk
    have hR := hR.quiet hGk
    have hG := hG.trans hGk
    clear hGk c1
    cases k2 : keyB h.2.1 with
    | false =>
      have HF : Hid (E = 5) := Lib.hid (by rw [HE.out, if_neg (by simp [K1.out]), if_pos k2])
      clear k2
      go_wp2_with fail
      go_ret
      exact ⟨ret_int HF.out.symm, hG⟩
    | true =>
      have HE1 : Hid (E = if tE h.2.2.1 h.2.2.2 = 0 then (if l.length = 0 then 3 else if 20 < l.length then 2 else lsE h.2.2.1 none l) else tE h.2.2.1 h.2.2.2) := Lib.hid (by rw [HE.out, if_neg (by simp [K1.out]), if_neg (by simp [k2])])
      clear k2 HE
      have HT := Lib.hid (hH.part 2 #[.int .i64 h.2.2.1, .int .i64 h.2.2.2] (hi_time h _))
      go_wp2_with (refine wpList_load_at rfl 29 _ rfl ⟨g, 2, none⟩ rfl #[.int .i64 h.2.2.1, .int .i64 h.2.2.2] _ HT.out Tryd.underlying29 rfl (wi_info _ _) ?_)
      refine (timeFault_c _ _ _ hb1 hb2).mono ?_; rintro e w3 ⟨rfl, hG3⟩
      have hH := hH.quiet hG3
      have hR := hR.quiet hG3
      have hG := hG.trans hG3
      clear hG3 HT
      obtain ⟨T, hT⟩ : ∃ T, tE h.2.2.1 h.2.2.2 = T := ⟨_, rfl⟩
      rw [hT] at HE1 ⊢
      clear hT
      by_cases k3 : T = 0
      · have HE2 : Hid (E = if l.length = 0 then 3 else if 20 < l.length then 2 else lsE h.2.2.1 none l) := Lib.hid (by rw [HE1.out, if_pos k3])
        subst k3
        clear HE1
        have c4 : w3.cell? ⟨g, 4, none⟩ = some (.slice a l.length cap) := hH.cell 4
        by_cases k4 : l.length = 0
        · have HF : Hid (E = 3) := Lib.hid (by rw [HE2.out, if_pos k4])
          have k4' : ((l.length : Int) == 0) = true := by rw [k4]; rfl
          clear k4
          go_wp2_with fail
          go_ret
          exact ⟨ret_int HF.out.symm, hG⟩
        · have k4' : ((l.length : Int) == 0) = false := by rw [beq_eq_false_iff_ne]; omega
          by_cases k5 : 20 < l.length
          · have HF : Hid (E = 2) := Lib.hid (by rw [HE2.out, if_neg k4, if_pos k5])
            have k5' : (20 : Int) < (l.length : Int) := by omega
            clear k5 k4
            go_wp2_with fail
            go_ret
            exact ⟨ret_int HF.out.symm, hG⟩
          · have HE3 : Hid (E = lsE h.2.2.1 none l) := Lib.hid (by rw [HE2.out, if_neg k4, if_neg k5])
            have k5' : ¬ (20 : Int) < (l.length : Int) := by omega
            clear k5 k4 HE2
            have HHH := Lib.hid hH
            have HRR := Lib.hid hR
            clear hH hR
            go_wp2_with fail
            go_loopw [35] (LsRel w3 h.2.2.1 l) (fun i _ => l.length - (intOf i).toNat)
            case atStart => exact ⟨0, by omega, rfl, rfl, G.refl _ _⟩
            case round =>
              obtain ⟨k, hkl, rfl, heq, hGr⟩ := hrel
              have HEq := Lib.hid heq
              clear heq c4
              have hH := HHH.out.quiet hGr
              have hR := HRR.out.quiet hGr
              by_cases hk : k < l.length
              · obtain ⟨p, hp⟩ : ∃ p, l[k]? = some p := ⟨_, List.getElem?_eq_getElem hk⟩
                have hdrop : l.drop k = p :: l.drop (k + 1) := by rw [List.drop_eq_getElem_cons hk, ← (List.getElem?_eq_some_iff.1 hp).2]
                have HS : Hid (lsE h.2.2.1 none l = if lgE h.2.2.1 (prevAt l k) (l.drop (k + 1)).isEmpty p = 0 then lsE h.2.2.1 (some p) (l.drop (k + 1)) else lgE h.2.2.1 (prevAt l k) (l.drop (k + 1)).isEmpty p) := Lib.hid (by rw [HEq.out, hdrop]; rfl)
                have hpb := hl p (List.mem_of_getElem? hp)
                have HP := Lib.hid hp
                have HK := Lib.hid hk
                have hki : (k : Int) < (l.length : Int) := by omega
                clear hdrop hp
                go_wp2_with (refine wpList_load_row rfl 55 _ rfl g rfl 55 #[.string h.1, .string h.2.1, .int .i64 h.2.2.1, .int .i64 h.2.2.2, .slice a l.length cap] (0, 0) _ hH Tryd.underlying55 rfl (hi_info h _) ?_)
                refine (legFault_c h _ l k p _ hR HP.out hpb hn).mono ?_; rintro e w5 ⟨rfl, hG5⟩
                have hGr5 := hGr.trans hG5
                clear hG5 hGr hH hR hpb
                obtain ⟨L, hL⟩ : ∃ L, lgE h.2.2.1 (prevAt l k) (l.drop (k + 1)).isEmpty p = L := ⟨_, rfl⟩
                rw [hL] at HS ⊢
                clear hL
                by_cases k6 : L = 0
                · have HF : Hid (lsE h.2.2.1 none l = lsE h.2.2.1 (prevAt l (k + 1)) (l.drop (k + 1))) := Lib.hid (by rw [HS.out, if_pos k6, prevAt_succ l k p HP.out])
                  subst k6
                  clear HS
                  go_wp2_with fail
                  go_roundw
                  case rel => exact ⟨k + 1, by omega, by go_num, HF.out, hGr5⟩
                  case measure => have := HK.out; simp [intOf]; omega
                · have HF : Hid (E = L) := Lib.hid (by rw [HE3.out, HS.out, if_neg k6])
                  have k6' : (L != 0) = true := by simpa using k6
                  clear k6 HS
                  go_wp2_with fail
                  go_ret
                  exact ⟨ret_int HF.out.symm, hG.trans hGr5⟩
              · obtain rfl : k = l.length := by omega
                have HF : Hid (E = 0) := Lib.hid (by rw [HE3.out, HEq.out, List.drop_length]; rfl)
                go_wp2_with fail
                go_ret
                exact ⟨ret_int HF.out.symm, hG.trans hGr⟩
      · have HF : Hid (E = T) := Lib.hid (by rw [HE1.out, if_neg k3])
        have k3' : (T != 0) = true := by simpa using k3
        clear k3 HE1
        go_wp2_with fail
        go_ret
        exact ⟨ret_int HF.out.symm, hG⟩
end Go.Proofs.YtndeidcddlmhbaaDoor

/- Hires: openLeg, right, Start; made, StartOf. -/
namespace Go.Proofs.YtndeidcddlmhbaaDoor
open Go.RowKit

def hiZ : Array Value := hiC (⟨#[]⟩, ⟨#[]⟩, 0, 0) (.slice none 0 0)
/-- What is returned of a hire: itself, or none. -/
def hiH (E : Int) (h : Hh) : Hh := if E = 0 then h else (⟨#[]⟩, ⟨#[]⟩, 0, 0)
def hiL (E : Int) (l : List Lg) : List Lg := if E = 0 then l else []
def MadePost (h : Hh) (l : List Lg) (B : Nat → Prop) (w : World) (e : Ending) (w' : World) : Prop :=
  ∃ (H : Hh) (a : Option Addr) (n c : Nat), e = .returned (.tuple #[.agg #[.string H.1, .string H.2.1, .int .i64 H.2.2.1, .int .i64 H.2.2.2, .slice a n c], .int .i64 (hiE h l)]) ∧ H = hiH (hiE h l) h ∧ (∀ k, (Value.slice a n c).ownBlock = some k → B k) ∧ RdR w' 9 lgC (.slice a n c) (hiL (hiE h l) l) ∧ G w w' none
/-- A row's block is there. -/
theorem Rd.blk {w : World} {z : Nat} {v : Value} {n : Nat} {cs : List Value} (h : Rd w z v n cs) : ∀ k, v.ownBlock = some k → k < w.heap.size := by
  obtain ⟨a, c, rfl, h1, h2, h3, h4, h5⟩ := h
  intro k hk
  cases a with
  | none => cases hk
  | some b =>
    have := (h5 b rfl).2.1
    cases hk
    exact this
theorem hi_one (h : Hh) (a : Option Addr) (n c : Nat) : (hiC h (.slice a n c)).all (·.oneCell') = true := by simp [hiC, Value.oneCell']
theorem lg_one (x : Lg) : (lgC x).all (·.oneCell') = true := by simp [lgC, Value.oneCell']
/-- Two results, the first a struct that lies in memory. -/
theorem results_cell_hi {P : Program} {fn : Func} {p u : Tmp} {ty : TypeId} (h : fn.results = #[.cell p ty, .tmp u]) (tmps : Array Value) (w : World) (g : Nat) (t : TypeId) (cs : Array Value) (fr : Nat × Nat) (d : TypeDesc)
    (hp : tmps.getD p undef = .pointer (some ⟨g, 0, none⟩)) (hg : w.heap[g]? = some (.cells cs t fr))
    (hu : P.underlying ty = some d) (hd : (match d with | .struct _ | .array _ _ => true | _ => false) = true) (hi : (P.info? ty).map (·.size) = some cs.size) :
    (results fn tmps).run P w = .ok (.tuple #[.agg cs, tmps.getD u undef]) w := by
  have hp' : tmps[p]?.getD undef = .pointer (some ⟨g, 0, none⟩) := by simpa using hp
  simp [results, h, hp', asAddr, run_loadVar_row w g t ty cs fr d hg hu hd hi]
set_option maxRecDepth 100000 in
set_option maxHeartbeats 4000000 in
theorem right_c (h : Hh) (v : Value) (l : List Lg) (w : World) (hr : RdR w 9 lgC v l) (hl : LgOk l) (hs1 : Small h.1) (hs2 : Small h.2.1) (hb1 : bnd h.2.2.1) (hb2 : bnd h.2.2.2) (hn : l.length ≤ 1000) :
    Calls Tryd.prog 90 #[.agg (hiC h v)] w (MadePost h l (fun k => v.ownBlock = some k) w) := by
  have hH := (Bk.new w 55 (hiC h v)).alloc (.cells hiZ 55)
  have hG := ((G.refl w none).alloc (.cells (hiC h v) 55)).alloc (.cells hiZ 55)
  have hZ := Bk.newAt (w := w.alloc (.cells (hiC h v) 55)) (b := w.heap.size + 1) (by simp) 55 hiZ
  have hR := hr.quiet hG
  have HLO := Lib.hid hr.blk
  obtain ⟨a, cap, rfl, hcap, hm⟩ := RdR.form hr
  clear hr
  simp only [hiC, hiZ] at hH hG hR hZ ⊢
  go_enter Tryd.func90, Tryd.ntmps90
  go_upto_region 1 with fail
  generalize (w.alloc (.cells #[.string h.1, .string h.2.1, .int .i64 h.2.2.1, .int .i64 h.2.2.2, .slice a l.length cap] 55)).alloc (.cells #[.string ⟨#[]⟩, .string ⟨#[]⟩, .int .i64 0, .int .i64 0, .slice none 0 0] 55) = w2 at hG hH hR hZ ⊢
  go_wp2_with (refine wpList_load_row rfl 55 _ rfl w.heap.size rfl 55 #[.string h.1, .string h.2.1, .int .i64 h.2.2.1, .int .i64 h.2.2.2, .slice a l.length cap] (0, 0) _ hH Tryd.underlying55 rfl (hi_info h _) ?_)
  refine (check_c h _ l _ hR hl hs1 hs2 hb1 hb2 hn).mono ?_; rintro e w3 ⟨rfl, hG3⟩
  have hH := hH.quiet hG3
  have hZ := hZ.quiet hG3
  have hG := hG.trans hG3
  have hR := hR.quiet hG3
  clear hG3
  obtain ⟨E, hE⟩ : ∃ E, hiE h l = E := ⟨_, rfl⟩
  have HFIN : Hid (hiE h l = E) := Lib.hid hE
  rw [hE]
  clear hE
  by_cases k1 : E = 0
  · subst k1
    go_wp2_with (first | (refine wpList_load_row rfl 55 _ rfl w.heap.size rfl 55 #[.string h.1, .string h.2.1, .int .i64 h.2.2.1, .int .i64 h.2.2.2, .slice a l.length cap] (0, 0) _ hH Tryd.underlying55 rfl (hi_info h _) ?_) | (refine wpList_store_row rfl 55 _ _ rfl (w.heap.size + 1) #[.string h.1, .string h.2.1, .int .i64 h.2.2.1, .int .i64 h.2.2.2, .slice a l.length cap] rfl rfl 55 _ hZ (hi_info _ _) rfl (hi_one h _ _ _) ?_))
    refine bodyPost_ret (results_cell_hi rfl _ _ (w.heap.size + 1) 55 #[.string h.1, .string h.2.1, .int .i64 h.2.2.1, .int .i64 h.2.2.2, .slice a l.length cap] (0, 0) _ rfl (hZ.setRow _) Tryd.underlying55 rfl (hi_info h _)) rfl ?_
    exact ⟨h, a, l.length, cap, by rw [HFIN.out]; rfl, by rw [HFIN.out]; rfl, fun _ hk => hk, by rw [HFIN.out]; exact hR.grown ((G.refl w3 (some (w.heap.size + 1))).setRow (.inr rfl) _) (fun k e hk => by cases e; have := HLO.out _ hk; omega), hG.setRow (.inl (by omega)) _⟩
  · have k1' : (E != 0) = true := by simpa using k1
    have K1 := Lib.hid k1
    clear k1
    go_wp2_with (refine wpList_store_row rfl 55 _ _ rfl (w.heap.size + 1) #[.string ⟨#[]⟩, .string ⟨#[]⟩, .int .i64 0, .int .i64 0, .slice none 0 0] rfl rfl 55 _ hZ (hi_info (⟨#[]⟩, ⟨#[]⟩, 0, 0) (.slice none 0 0)) rfl (hi_one (⟨#[]⟩, ⟨#[]⟩, 0, 0) _ _ _) ?_)
    refine bodyPost_ret (results_cell_hi rfl _ _ (w.heap.size + 1) 55 #[.string ⟨#[]⟩, .string ⟨#[]⟩, .int .i64 0, .int .i64 0, .slice none 0 0] (0, 0) _ rfl (hZ.setRow _) Tryd.underlying55 rfl (hi_info (⟨#[]⟩, ⟨#[]⟩, 0, 0) (.slice none 0 0))) rfl ?_
    exact ⟨(⟨#[]⟩, ⟨#[]⟩, 0, 0), none, 0, 0, by rw [HFIN.out]; rfl, by rw [HFIN.out, hiH, if_neg K1.out], fun _ hk => (by cases hk), by rw [HFIN.out, hiL, if_neg K1.out]; exact RdR.nil _ _ _, hG.setRow (.inl (by omega)) _⟩
set_option maxRecDepth 100000 in
set_option maxHeartbeats 4000000 in
theorem made_c (h : Hh) (v : Value) (l : List Lg) (w : World) (hr : RdR w 9 lgC v l) (hl : LgOk l) (hs1 : Small h.1) (hs2 : Small h.2.1) (hb1 : bnd h.2.2.1) (hb2 : bnd h.2.2.2) (hn : l.length ≤ 1000) :
    Calls Tryd.prog 92 #[.agg (hiC h v)] w (MadePost h l (fun k => v.ownBlock = some k) w) := by
  have hH := (Bk.new w 55 (hiC h v)).alloc (.cells hiZ 55)
  have hG := ((G.refl w none).alloc (.cells (hiC h v) 55)).alloc (.cells hiZ 55)
  have hZ := Bk.newAt (w := w.alloc (.cells (hiC h v) 55)) (b := w.heap.size + 1) (by simp) 55 hiZ
  have hR := hr.quiet hG
  have HLO := Lib.hid hr.blk
  obtain ⟨a, cap, rfl, hcap, hm⟩ := RdR.form hr
  clear hr
  simp only [hiC, hiZ] at hH hG hR hZ ⊢
  go_enter Tryd.func92, Tryd.ntmps92
  go_upto_region 1 with fail
  generalize (w.alloc (.cells #[.string h.1, .string h.2.1, .int .i64 h.2.2.1, .int .i64 h.2.2.2, .slice a l.length cap] 55)).alloc (.cells #[.string ⟨#[]⟩, .string ⟨#[]⟩, .int .i64 0, .int .i64 0, .slice none 0 0] 55) = w2 at hG hH hR hZ ⊢
  go_wp2_with (refine wpList_load_row rfl 55 _ rfl w.heap.size rfl 55 #[.string h.1, .string h.2.1, .int .i64 h.2.2.1, .int .i64 h.2.2.2, .slice a l.length cap] (0, 0) _ hH Tryd.underlying55 rfl (hi_info h _) ?_)
  refine (hireFault_c h _ l _ hR hl hs1 hs2 hb1 hb2 hn).mono ?_; rintro e w3 ⟨rfl, hG3⟩
  have hH := hH.quiet hG3
  have hZ := hZ.quiet hG3
  have hG := hG.trans hG3
  have hR := hR.quiet hG3
  clear hG3
  obtain ⟨E, hE⟩ : ∃ E, hiE h l = E := ⟨_, rfl⟩
  have HFIN : Hid (hiE h l = E) := Lib.hid hE
  rw [hE]
  clear hE
  by_cases k1 : E = 0
  · subst k1
    go_wp2_with (first | (refine wpList_load_row rfl 55 _ rfl w.heap.size rfl 55 #[.string h.1, .string h.2.1, .int .i64 h.2.2.1, .int .i64 h.2.2.2, .slice a l.length cap] (0, 0) _ hH Tryd.underlying55 rfl (hi_info h _) ?_) | (refine wpList_store_row rfl 55 _ _ rfl (w.heap.size + 1) #[.string h.1, .string h.2.1, .int .i64 h.2.2.1, .int .i64 h.2.2.2, .slice a l.length cap] rfl rfl 55 _ hZ (hi_info _ _) rfl (hi_one h _ _ _) ?_))
    refine bodyPost_ret (results_cell_hi rfl _ _ (w.heap.size + 1) 55 #[.string h.1, .string h.2.1, .int .i64 h.2.2.1, .int .i64 h.2.2.2, .slice a l.length cap] (0, 0) _ rfl (hZ.setRow _) Tryd.underlying55 rfl (hi_info h _)) rfl ?_
    exact ⟨h, a, l.length, cap, by rw [HFIN.out]; rfl, by rw [HFIN.out]; rfl, fun _ hk => hk, by rw [HFIN.out]; exact hR.grown ((G.refl w3 (some (w.heap.size + 1))).setRow (.inr rfl) _) (fun k e hk => by cases e; have := HLO.out _ hk; omega), hG.setRow (.inl (by omega)) _⟩
  · have k1' : (E != 0) = true := by simpa using k1
    have K1 := Lib.hid k1
    clear k1
    go_wp2_with (refine wpList_store_row rfl 55 _ _ rfl (w.heap.size + 1) #[.string ⟨#[]⟩, .string ⟨#[]⟩, .int .i64 0, .int .i64 0, .slice none 0 0] rfl rfl 55 _ hZ (hi_info (⟨#[]⟩, ⟨#[]⟩, 0, 0) (.slice none 0 0)) rfl (hi_one (⟨#[]⟩, ⟨#[]⟩, 0, 0) _ _ _) ?_)
    refine bodyPost_ret (results_cell_hi rfl _ _ (w.heap.size + 1) 55 #[.string ⟨#[]⟩, .string ⟨#[]⟩, .int .i64 0, .int .i64 0, .slice none 0 0] (0, 0) _ rfl (hZ.setRow _) Tryd.underlying55 rfl (hi_info (⟨#[]⟩, ⟨#[]⟩, 0, 0) (.slice none 0 0))) rfl ?_
    exact ⟨(⟨#[]⟩, ⟨#[]⟩, 0, 0), none, 0, 0, by rw [HFIN.out]; rfl, by rw [HFIN.out, hiH, if_neg K1.out], fun _ hk => (by cases hk), by rw [HFIN.out, hiL, if_neg K1.out]; exact RdR.nil _ _ _, hG.setRow (.inl (by omega)) _⟩
set_option maxRecDepth 100000 in
set_option maxHeartbeats 2000000 in
theorem openLeg_c (s : ByteArray) (r : Rg) (w : World) : Calls Tryd.prog 91 #[.string s, .agg (rgC r)] w fun e w' => e = .returned (.agg (lgC (s, r, noIn))) ∧ G w w' none := by
  have hZ := Bk.newAt (w := w.alloc (.cells (rgC r) 51)) (b := w.heap.size + 1) (by simp) 137 (lgC (⟨#[]⟩, (0, ⟨#[]⟩, 0, 0), (0, ⟨#[]⟩, 0, 0)))
  have hB := (Bk.new w 51 (rgC r)).alloc (.cells (lgC (⟨#[]⟩, (0, ⟨#[]⟩, 0, 0), (0, ⟨#[]⟩, 0, 0))) 137)
  have hG := ((G.refl w none).alloc (.cells (rgC r) 51)).alloc (.cells (lgC (⟨#[]⟩, (0, ⟨#[]⟩, 0, 0), (0, ⟨#[]⟩, 0, 0))) 137)
  obtain ⟨r1, r2, r3, r4⟩ := r
  simp only [rgC, lgC, noIn] at hZ hB hG ⊢
  go_enter Tryd.func91, Tryd.ntmps91
  go_upto_region 1 with fail
  generalize (w.alloc (.cells #[.int .i64 r1, .string r2, .int .i64 r3, .int .i64 r4] 51)).alloc (.cells #[.string ⟨#[]⟩, .int .i64 0, .string ⟨#[]⟩, .int .i64 0, .int .i64 0, .int .i64 0, .string ⟨#[]⟩, .int .i64 0, .int .i64 0] 137) = w2 at hG hB hZ ⊢
  go_wp2_with (first | (refine wpList_load_row rfl 51 _ rfl w.heap.size rfl 51 #[.int .i64 r1, .string r2, .int .i64 r3, .int .i64 r4] (0, 0) _ hB Tryd.underlying51 rfl (rg_info (r1, r2, r3, r4)) ?_) | (refine wpList_store_row rfl 137 _ _ rfl (w.heap.size + 1) #[.string s, .int .i64 r1, .string r2, .int .i64 r3, .int .i64 r4, .int .i64 (-1), .string ⟨#[]⟩, .int .i64 0, .int .i64 0] rfl rfl 137 _ hZ (lg_info (s, (r1, r2, r3, r4), noIn)) rfl (lg_one (s, (r1, r2, r3, r4), noIn)) ?_))
  refine bodyPost_ret (results_cell_row rfl _ _ (w.heap.size + 1) 137 #[.string s, .int .i64 r1, .string r2, .int .i64 r3, .int .i64 r4, .int .i64 (-1), .string ⟨#[]⟩, .int .i64 0, .int .i64 0] (0, 0) _ rfl (hZ.setRow _) Tryd.underlying137 rfl (lg_info (s, (r1, r2, r3, r4), noIn))) rfl ?_
  exact ⟨rfl, hG.setRow (.inl (by omega)) _⟩
end Go.Proofs.YtndeidcddlmhbaaDoor

/- A region that draws its order, told operation by operation: each one's value is told once, whatever the order. No program. -/
namespace Go.Proofs.YtndeidcddlmhbaaDoor
open Go.RowKit

/-- What an operation left. -/
def valOf (a : Act) (o : Oper) : Value := match o.dst with | some d => a.tmps.getD d undef | none => undef
/-- Values put where the operations put theirs. -/
def putAll (f : Nat → Value) : Nat → List Oper → Act → Act
  | _, [], a => a
  | i, o :: r, a => putAll f (i + 1) r (a.put o.dst (f i))
def dstsOf (l : List Oper) : List Nat := l.filterMap (·.dst)
/-- No guards; who is waited for stands ahead; each writes a slot of its own, that there is. -/
def stepsB (md : Region.Mode) (l : List Oper) (n : Nat) : Bool :=
  (l.zipIdx.all fun p => p.1.guard.isNone && (p.1.after.all fun e => !Region.binds md e || decide (e.on < p.2)) && (match p.1.dst with | some d => decide (d < n) | none => true)) && decide (dstsOf l).Nodup
/-- Is number j waited for by o? -/
def predB (md : Region.Mode) (o : Oper) (j : Nat) : Bool := o.after.any fun e => Region.binds md e && e.on == j
def Same (ops : List Oper) (a0 a : Act) : Prop := a.defers = a0.defers ∧ a.tmps.size = a0.tmps.size ∧ ∀ d, d ∉ dstsOf ops → a.tmps.getD d undef = a0.tmps.getD d undef
theorem put_defers (a : Act) (d : Option Tmp) (v : Value) : (a.put d v).defers = a.defers := by cases d <;> rfl
theorem put_size (a : Act) (d : Option Tmp) (v : Value) : (a.put d v).tmps.size = a.tmps.size := by cases d <;> simp [Act.put]
theorem put_getD_ne (a : Act) (d : Option Tmp) (v : Value) (k : Nat) (h : d ≠ some k) : (a.put d v).tmps.getD k undef = a.tmps.getD k undef := by
  cases d with
  | none => rfl
  | some d =>
    have : d ≠ k := fun e => h (by rw [e])
    simp [Act.put, this]
theorem put_getD (a : Act) (d : Nat) (v : Value) (h : d < a.tmps.size) : (a.put (some d) v).tmps.getD d undef = v := by
  simp [Act.put, h]
section
variable {P : Program} {Q : Exit → Act → World → Prop} {md : Region.Mode}
/-- What an operation is asked for. -/
def StepOk (P : Program) (md : Region.Mode) (Q : Exit → Act → World → Prop) (ops : List Oper) (a0 : Act) (J : Nat → World → Prop) (V : Nat → Value → World → Prop) (Kp : World → World → Prop) (i : Nat) (o : Oper) : Prop :=
  ∀ n a w, J n w → Same ops a0 a → (∀ j oj, predB md o j = true → ops[j]? = some oj → V j (valOf a oj) w) → ∀ K : Act → World → Prop, (∀ v w', (o.dst = none → v = undef) → V i v w' → J (n + 1) w' → Kp w w' → K (a.put o.dst v) w') → Oper.wp P o a w K Q
def AllOk (P : Program) (md : Region.Mode) (Q : Exit → Act → World → Prop) (ops : List Oper) (a0 : Act) (J : Nat → World → Prop) (V : Nat → Value → World → Prop) (Kp : World → World → Prop) : Nat → List Oper → Prop
  | _, [] => True
  | i, o :: r => StepOk P md Q ops a0 J V Kp i o ∧ AllOk P md Q ops a0 J V Kp (i + 1) r
theorem allOk_at {ops : List Oper} {a0 : Act} {J : Nat → World → Prop} {V : Nat → Value → World → Prop} {Kp : World → World → Prop} : ∀ (l : List Oper) (b : Nat), AllOk P md Q ops a0 J V Kp b l → ∀ (i : Nat) (o : Oper), l[i]? = some o → StepOk P md Q ops a0 J V Kp (b + i) o
  | [], _, _, i, o, h => by simp at h
  | x :: r, b, hA, i, o, h => by
    cases i with
    | zero => obtain rfl : x = o := by simpa using h
              exact hA.1
    | succ i =>
      have := allOk_at r (b + 1) hA.2 i o (by simpa using h)
      rwa [show b + 1 + i = b + (i + 1) by omega] at this
theorem dst_mem {l : List Oper} {i : Nat} {o : Oper} {d : Nat} (h : l[i]? = some o) (hd : o.dst = some d) : d ∈ dstsOf l :=
  List.mem_filterMap.2 ⟨o, List.mem_of_getElem? h, hd⟩
theorem dst_inj : ∀ {l : List Oper}, (dstsOf l).Nodup → ∀ {i j : Nat} {o p : Oper} {d : Nat}, l[i]? = some o → l[j]? = some p → o.dst = some d → p.dst = some d → i = j
  | [], _, i, _, _, _, _, h, _, _, _ => by simp at h
  | x :: r, hn, i, j, o, p, d, hi, hj, ho, hp => by
    have hr : (dstsOf r).Nodup := by
      unfold dstsOf at hn ⊢
      rw [List.filterMap_cons] at hn
      split at hn
      · exact hn
      · exact (List.nodup_cons.1 hn).2
    have hx : ∀ {k : Nat} {q : Oper}, x.dst = some d → r[k]? = some q → q.dst = some d → False := fun {k q} h1 h2 h3 => by
      unfold dstsOf at hn
      rw [List.filterMap_cons, h1] at hn
      exact (List.nodup_cons.1 hn).1 (dst_mem h2 h3)
    cases i with
    | zero =>
      obtain rfl : x = o := by simpa using hi
      cases j with
      | zero => rfl
      | succ j => exact (hx ho (by simpa using hj) hp).elim
    | succ i =>
      cases j with
      | zero =>
        obtain rfl : x = p := by simpa using hj
        exact (hx hp (by simpa using hi) ho).elim
      | succ j => exact congrArg (· + 1) (dst_inj hr (i := i) (j := j) (by simpa using hi) (by simpa using hj) ho hp)
theorem putAll_same (f : Nat → Value) : ∀ (l : List Oper) (i : Nat) (a : Act), (putAll f i l a).defers = a.defers ∧ (putAll f i l a).tmps.size = a.tmps.size ∧ ∀ d, d ∉ dstsOf l → (putAll f i l a).tmps.getD d undef = a.tmps.getD d undef
  | [], _, a => ⟨rfl, rfl, fun _ _ => rfl⟩
  | o :: r, i, a => by
    obtain ⟨h1, h2, h3⟩ := putAll_same f r (i + 1) (a.put o.dst (f i))
    refine ⟨h1.trans (put_defers _ _ _), h2.trans (put_size _ _ _), fun d hd => ?_⟩
    have hd2 : d ∉ dstsOf r := fun h => hd (by
      unfold dstsOf at h ⊢
      rw [List.filterMap_cons]
      split
      · exact h
      · exact List.mem_cons_of_mem _ h)
    refine (h3 d hd2).trans (put_getD_ne _ _ _ _ fun e => hd ?_)
    unfold dstsOf
    rw [List.filterMap_cons, e]
    exact List.mem_cons_self ..
theorem putAll_at (f : Nat → Value) : ∀ (l : List Oper) (b : Nat) (a : Act), (dstsOf l).Nodup → (∀ d ∈ dstsOf l, d < a.tmps.size) → ∀ (i : Nat) (o : Oper) (d : Nat), l[i]? = some o → o.dst = some d → (putAll f b l a).tmps.getD d undef = f (b + i)
  | [], _, _, _, _, i, o, d, h, _ => by simp at h
  | x :: r, b, a, hn, hlt, i, o, d, h, hd => by
    have hr : (dstsOf r).Nodup := by
      unfold dstsOf at hn ⊢
      rw [List.filterMap_cons] at hn
      split at hn
      · exact hn
      · exact (List.nodup_cons.1 hn).2
    have hltr : ∀ d ∈ dstsOf r, d < (a.put x.dst (f b)).tmps.size := fun d hd => by
      rw [put_size]
      refine hlt d ?_
      unfold dstsOf at hd ⊢
      rw [List.filterMap_cons]
      split
      · exact hd
      · exact List.mem_cons_of_mem _ hd
    cases i with
    | zero =>
      obtain rfl : x = o := by simpa using h
      have hnd : d ∉ dstsOf r := fun hm => by
        unfold dstsOf at hn
        rw [List.filterMap_cons, hd] at hn
        exact (List.nodup_cons.1 hn).1 hm
      show (putAll f (b + 1) r (a.put x.dst (f b))).tmps.getD d undef = f b
      rw [(putAll_same f r (b + 1) _).2.2 d hnd, hd]
      exact put_getD _ _ _ (hlt d (dst_mem (l := x :: r) (i := 0) rfl hd))
    | succ i =>
      have := putAll_at f r (b + 1) (a.put x.dst (f b)) hr hltr i o d (by simpa using h) hd
      rw [show b + 1 + i = b + (i + 1) by omega] at this
      exact this
theorem act_ext {a b : Act} (h1 : a.defers = b.defers) (h2 : a.tmps.size = b.tmps.size) (h3 : ∀ d, a.tmps.getD d undef = b.tmps.getD d undef) : a = b := by
  obtain ⟨t, d⟩ := a
  obtain ⟨t', d'⟩ := b
  dsimp only at h1 h2 h3
  subst h1
  congr 1
  apply Array.ext h2
  intro i hi hj
  have := h3 i
  simpa [hi, hj] using this
theorem act_putAll {ops : List Oper} {a0 a : Act} (hn : (dstsOf ops).Nodup) (hlt : ∀ d ∈ dstsOf ops, d < a0.tmps.size) (h : Same ops a0 a) : a = putAll (fun i => match ops[i]? with | some o => valOf a o | none => undef) 0 ops a0 := by
  obtain ⟨h1, h2, h3⟩ := h
  obtain ⟨k1, k2, k3⟩ := putAll_same (fun i => match ops[i]? with | some o => valOf a o | none => undef) ops 0 a0
  refine act_ext (h1.trans k1.symm) (h2.trans k2.symm) fun d => ?_
  by_cases hd : d ∈ dstsOf ops
  · obtain ⟨o, ho, hod⟩ := List.mem_filterMap.1 hd
    obtain ⟨i, hi⟩ := List.getElem?_of_mem ho
    rw [putAll_at _ ops 0 a0 hn hlt i o d hi hod, Nat.zero_add]
    simp only [hi]
    unfold valOf
    rw [hod]
  · rw [h3 d hd, k3 d hd]
theorem count_set (listed : Array Bool) (i : Nat) (h : listed.getD i true = false) : (listed.setIfInBounds i true).toList.countP (fun b => !b) + 1 = listed.toList.countP (fun b => !b) := by
  have hi : i < listed.size := by
    rcases Nat.lt_or_ge i listed.size with h' | h'
    · exact h'
    · simp [Array.getElem?_eq_none h'] at h
  have hv : listed[i] = false := by simpa [hi] using h
  rw [Array.toList_setIfInBounds, List.countP_set (by simpa using hi)]
  have hp : 0 < listed.toList.countP (fun b => !b) := List.countP_pos_iff.2 ⟨listed[i], by simp, by simp [hv]⟩
  have e : listed.toList[i]'(by simpa using hi) = false := by simpa using hv
  rw [e]
  simp only [Bool.not_false, Bool.not_true, if_true, Bool.false_eq_true, if_false]
  omega
/-- The law. -/
theorem wpAny_steps {l : List Oper} {a0 : Act} (J : Nat → World → Prop) (V : Nat → Value → World → Prop) (Kp : World → World → Prop) (n : Nat) (hn : a0.tmps.size = n) (hB : stepsB md l n = true)
    (keep : ∀ i v w w', Kp w w' → V i v w → V i v w') (step : AllOk P md Q l a0 J V Kp 0 l)
    (fin : ∀ (f : Nat → Value) w, J l.length w → (∀ i, i < l.length → V i (f i) w) → Q .normal (putAll f 0 l a0) w) :
    ∀ (fuel : Nat) (listed : Array Bool) (a : Act) (w : World), listed.size = l.length → listed.toList.countP (fun b => !b) = fuel → Same l a0 a → J (l.length - fuel) w → (∀ i o, l[i]? = some o → listed.getD i true = true → V i (valOf a o) w) → wpAny P md l.toArray Q fuel listed a w := by
  unfold stepsB at hB
  rw [Bool.and_eq_true, decide_eq_true_iff, List.all_eq_true] at hB
  obtain ⟨hB1, hnd⟩ := hB
  have hat : ∀ (i : Nat) (o : Oper), l[i]? = some o → o.guard = none ∧ (∀ e ∈ o.after, Region.binds md e = true → e.on < i) ∧ ∀ d, o.dst = some d → d < n := fun i o h => by
    have := hB1 (o, i) (List.mem_zipIdx_iff_getElem?.2 (by simpa using h))
    simp only [Bool.and_eq_true, Array.all_eq_true', Bool.or_eq_true, Bool.not_eq_true', decide_eq_true_eq] at this
    obtain ⟨⟨h1, h2⟩, h3⟩ := this
    refine ⟨Option.isNone_iff_eq_none.1 h1, fun e he hb => ?_, fun d hd => ?_⟩
    · rcases h2 e he with h | h
      · rw [hb] at h; cases h
      · exact h
    · rw [hd] at h3
      simpa using h3
  have hlt : ∀ d ∈ dstsOf l, d < a0.tmps.size := fun d hd => by
    obtain ⟨o, ho, hod⟩ := List.mem_filterMap.1 hd
    obtain ⟨i, hi⟩ := List.getElem?_of_mem ho
    rw [hn]
    exact (hat i o hi).2.2 d hod
  have done : ∀ (listed : Array Bool) (a : Act) (w : World), listed.size = l.length → (∀ i, i < l.length → listed.getD i true = true) → Same l a0 a → J l.length w → (∀ i o, l[i]? = some o → listed.getD i true = true → V i (valOf a o) w) → Q .normal a w := by
    intro listed a w hs hall hsame hJ hV
    rw [act_putAll hnd hlt hsame]
    refine fin _ w hJ fun i hi => ?_
    have hg : l[i]? = some l[i] := List.getElem?_eq_getElem hi
    rw [hg]
    exact hV i _ hg (hall i hi)
  have alls : ∀ (listed : Array Bool), Region.ready md l.toArray listed = [] → ∀ i, i < l.length → listed.getD i true = true := by
    intro listed hr i
    induction i using Nat.strongRecOn with
    | ind i ih =>
      intro hi
      cases hb : listed.getD i true with
      | true => rfl
      | false =>
        exfalso
        have hg : l[i]? = some l[i] := List.getElem?_eq_getElem hi
        have hm : i ∈ Region.ready md l.toArray listed := mem_ready.2 ⟨hb, l[i], by simp, fun e he hbd => by
          have hlt := (hat i _ hg).2.1 e he hbd
          have h1 := ih e.on hlt (by omega)
          have h2 : i < listed.size := by
            rcases Nat.lt_or_ge i listed.size with h' | h'
            · exact h'
            · simp [Array.getElem?_eq_none h'] at hb
          have h3 : e.on < listed.size := by omega
          simpa [h3] using h1⟩
        rw [hr] at hm
        cases hm
  intro fuel
  induction fuel with
  | zero =>
    intro listed a w hs hc hsame hJ hV
    have hall : ∀ i, i < l.length → listed.getD i true = true := fun i hi => by
      cases hb : listed.getD i true with
      | true => rfl
      | false => have := count_set listed i hb; omega
    refine ⟨?_, done listed a w hs hall hsame hJ hV⟩
    refine List.eq_nil_iff_forall_not_mem.2 fun i hi => ?_
    obtain ⟨h1, o, h2, _⟩ := mem_ready.1 hi
    have h3 : i < l.length := by
      have := (Array.getElem?_eq_some_iff.1 h2).1
      simpa using this
    rw [hall i h3] at h1
    cases h1
  | succ fuel ih =>
    intro listed a w hs hc hsame hJ hV
    have hcl : listed.toList.countP (fun b => !b) ≤ l.length := by
      have := List.countP_le_length (p := fun b => !b) (l := listed.toList)
      simpa [hs] using this
    refine ⟨fun hr => ?_, fun i hi => ?_⟩
    · have hall := alls listed hr
      exfalso
      have h0 : listed.toList.countP (fun b => !b) = 0 := List.countP_eq_zero.2 fun b hb => by
        obtain ⟨k, hk, rfl⟩ := List.getElem_of_mem hb
        have hk' : k < listed.size := by simpa using hk
        have := hall k (by omega)
        simp [hk'] at this
        simp [this]
      omega
    · obtain ⟨hun, o, ho, hafter⟩ := mem_ready.1 hi
      have hol : l[i]? = some o := by simpa using ho
      obtain ⟨hg, hord, hd⟩ := hat i o hol
      have hil : i < listed.size := by
        rcases Nat.lt_or_ge i listed.size with h' | h'
        · exact h'
        · simp [Array.getElem?_eq_none h'] at hun
      refine wpOp_step ho fun K' hK => ?_
      rw [if_pos (by simp [Region.wanted, hg])]
      have hst := allOk_at l 0 step i o hol
      rw [Nat.zero_add] at hst
      refine hst (l.length - (fuel + 1)) a w hJ hsame (fun j oj hp hj => ?_) K' (fun v w' hvu hv hJ' hkp => hK _ _ ?_)
      · unfold predB at hp
        rw [Array.any_eq_true'] at hp
        obtain ⟨e, he, h2⟩ := hp
        rw [Bool.and_eq_true, beq_iff_eq] at h2
        obtain ⟨h2, rfl⟩ := h2
        refine hV e.on oj hj ?_
        have h3 := hafter e he h2
        have h4 : e.on < listed.size := by have := hord e he h2; omega
        simpa [h4] using h3
      · refine ih (listed.setIfInBounds i true) (a.put o.dst v) w' (by simpa using hs) (by have := count_set listed i hun; omega) ?_ ?_ ?_
        · obtain ⟨s1, s2, s3⟩ := hsame
          refine ⟨(put_defers _ _ _).trans s1, (put_size _ _ _).trans s2, fun d hdn => ?_⟩
          rw [put_getD_ne _ _ _ _ (fun e => hdn (dst_mem hol e))]
          exact s3 d hdn
        · rw [show l.length - fuel = l.length - (fuel + 1) + 1 by omega]
          exact hJ'
        · intro j oj hj hl
          by_cases hij : i = j
          · subst hij
            rw [hol] at hj
            obtain rfl := Option.some.inj hj
            cases hod : o.dst with
            | none =>
              have : valOf (a.put none v) o = undef := by unfold valOf; rw [hod]
              rw [this, ← hvu hod]
              exact hv
            | some d =>
              have : valOf (a.put (some d) v) o = v := by
                unfold valOf
                rw [hod]
                exact put_getD a d v (by rw [hsame.2.1, hn]; exact hd d hod)
              rw [this]
              exact hv
          · rw [getD_set_ne true hij] at hl
            have hold := keep j _ w w' hkp (hV j oj hj hl)
            have : valOf (a.put o.dst v) oj = valOf a oj := by
              unfold valOf
              cases hod : oj.dst with
              | none => rfl
              | some d =>
                exact put_getD_ne _ _ _ _ fun e => hij (dst_inj hnd hol hj e hod)
            rw [this]
            exact hold
end
end Go.Proofs.YtndeidcddlmhbaaDoor

/- Hires: Start, StartOf. -/
namespace Go.Proofs.YtndeidcddlmhbaaDoor
open Go.RowKit

theorem RdR.oneLg {w : World} {g : Nat} {b : Lg} (h : Bk w g 137 (lgC b)) : RdR w 9 lgC (.slice (some ⟨g, 0, none⟩) 1 1) [b] := h.rd 9 1 rfl (by omega)
theorem openLeg_l (s : ByteArray) (r : Rg) (w : World) : Calls Tryd.prog 91 #[.string s, .agg #[.int .i64 r.1, .string r.2.1, .int .i64 r.2.2.1, .int .i64 r.2.2.2]] w fun e w' => e = .returned (.agg #[.string s, .int .i64 r.1, .string r.2.1, .int .i64 r.2.2.1, .int .i64 r.2.2.2, .int .i64 (-1), .string ⟨#[]⟩, .int .i64 0, .int .i64 0]) ∧ G w w' none := openLeg_c s r w
set_option maxRecDepth 100000 in
set_option maxHeartbeats 4000000 in
theorem start_c (h : Hh) (s : ByteArray) (r : Rg) (w : World) (hs : Small s) (hsr : Small r.2.1) (hs1 : Small h.1) (hs2 : Small h.2.1) (hb1 : bnd h.2.2.1) (hb2 : bnd h.2.2.2) :
    Calls Tryd.prog 27 #[.string h.1, .string h.2.1, .agg #[.int .i64 h.2.2.1, .int .i64 h.2.2.2], .string s, .agg (rgC r)] w
      (MadePost h [(s, r, noIn)] (fun k => w.heap.size ≤ k) w) := by
  have hb0 : LgOk [(s, r, noIn)] := fun x hx => by
    obtain rfl := List.mem_singleton.1 hx
    exact ⟨hs, hsr, by show Small ⟨#[]⟩; unfold Small; decide⟩
  have hWi := ((Bk.new w 29 #[.int .i64 h.2.2.1, .int .i64 h.2.2.2]).alloc (.cells (rgC r) 51)).alloc (.cells hiZ 55)
  have hRe := (Bk.newAt (w := w.alloc (.cells #[.int .i64 h.2.2.1, .int .i64 h.2.2.2] 29)) (b := w.heap.size + 1) (by simp) 51 (rgC r)).alloc (.cells hiZ 55)
  have hZ := Bk.newAt (w := (w.alloc (.cells #[.int .i64 h.2.2.1, .int .i64 h.2.2.2] 29)).alloc (.cells (rgC r) 51)) (b := w.heap.size + 2) (by simp) 55 hiZ
  have hG := (((G.refl w none).alloc (.cells #[.int .i64 h.2.2.1, .int .i64 h.2.2.2] 29)).alloc (.cells (rgC r) 51)).alloc (.cells hiZ 55)
  simp only [rgC, hiZ, hiC] at hWi hRe hZ hG ⊢
  go_enter Tryd.func27, Tryd.ntmps27
  go_upto_region 1 with fail
  generalize ((w.alloc (.cells #[.int .i64 h.2.2.1, .int .i64 h.2.2.2] 29)).alloc (.cells #[.int .i64 r.1, .string r.2.1, .int .i64 r.2.2.1, .int .i64 r.2.2.2] 51)).alloc (.cells #[.string ⟨#[]⟩, .string ⟨#[]⟩, .int .i64 0, .int .i64 0, .slice none 0 0] 55) = w2 at hWi hRe hZ hG ⊢
  -- @REGION
  have hWi3 := hWi.quiet ((G.refl w2 none).drew)
  have hRe3 := hRe.quiet ((G.refl w2 none).drew)
  have hZ3 := hZ.quiet ((G.refl w2 none).drew)
  have hG3 := hG.drew
  clear hWi hRe hZ hG
  refine wp_region_held_drew (S := (fun w' => w'.cell? ⟨w.heap.size, 0, none⟩ = some (.int .i64 h.2.2.1) ∧ w'.cell? ⟨w.heap.size, 1, none⟩ = some (.int .i64 h.2.2.2) ∧ w'.cell? ⟨w.heap.size + 1, 0, none⟩ = some (.int .i64 r.1) ∧ w'.cell? ⟨w.heap.size + 1, 1, none⟩ = some (.string r.2.1) ∧ w'.cell? ⟨w.heap.size + 1, 2, none⟩ = some (.int .i64 r.2.2.1) ∧ w'.cell? ⟨w.heap.size + 1, 3, none⟩ = some (.int .i64 r.2.2.2))) (by kernel_rfl) ?_ (fun hHeld => ?_)
  · exact ⟨hWi3.cell 0, hWi3.cell 1, hRe3.cell 0, hRe3.cell 1, hRe3.cell 2, hRe3.cell 3⟩
  refine wpAnyH_take (i := 0) (oi := { dst := some 12, op := Op.move (Operand.tmp 0), type := 9, pos := _, after := #[], guard := none }) (v := ?_) rfl (by kernel_rfl) (by kernel_rfl) (by kernel_rfl) (fun _ _ _ h => h) (Or.inl ⟨by rfl, ?_⟩) (by assumption) ?_
  rotate_left
  · (intro w hSw; obtain ⟨s0, s1, s2, s3, s4, s5⟩ := hSw; (go_simp <;> with_reducible rfl))
  try simp only [Act.put, List.setIfInBounds_toArray, List.set_cons_zero, List.set_cons_succ]
  refine wpAnyH_take (i := 1) (oi := { dst := some 13, op := Op.move (Operand.tmp 1), type := 9, pos := _, after := #[], guard := none }) (v := ?_) rfl (by kernel_rfl) (by kernel_rfl) (by kernel_rfl) (fun _ _ _ h => h) (Or.inl ⟨by rfl, ?_⟩) (by assumption) ?_
  rotate_left
  · (intro w hSw; obtain ⟨s0, s1, s2, s3, s4, s5⟩ := hSw; (go_simp <;> with_reducible rfl))
  try simp only [Act.put, List.setIfInBounds_toArray, List.set_cons_zero, List.set_cons_succ]
  refine wpAnyH_take (i := 2) (oi := { dst := some 14, op := Op.load 29 (Operand.tmp 7), type := 29, pos := _, after := #[], guard := none }) (v := ?_) rfl (by kernel_rfl) (by kernel_rfl) (by kernel_rfl) (fun _ _ _ h => h) (Or.inl ⟨by rfl, ?_⟩) (by assumption) ?_
  rotate_left
  · (intro w hSw; obtain ⟨s0, s1, s2, s3, s4, s5⟩ := hSw; (go_simp <;> with_reducible rfl))
  try simp only [Act.put, List.setIfInBounds_toArray, List.set_cons_zero, List.set_cons_succ]
  refine wpAnyH_take (i := 3) (oi := { dst := some 15, op := Op.move (Operand.tmp 3), type := 9, pos := _, after := #[], guard := none }) (v := ?_) rfl (by kernel_rfl) (by kernel_rfl) (by kernel_rfl) (fun _ _ _ h => h) (Or.inl ⟨by rfl, ?_⟩) (by assumption) ?_
  rotate_left
  · (intro w hSw; obtain ⟨s0, s1, s2, s3, s4, s5⟩ := hSw; (go_simp <;> with_reducible rfl))
  try simp only [Act.put, List.setIfInBounds_toArray, List.set_cons_zero, List.set_cons_succ]
  refine wpAnyH_take (i := 4) (oi := { dst := some 16, op := Op.load 51 (Operand.tmp 9), type := 51, pos := _, after := #[], guard := none }) (v := ?_) rfl (by kernel_rfl) (by kernel_rfl) (by kernel_rfl) (fun _ _ _ h => h) (Or.inl ⟨by rfl, ?_⟩) (by assumption) ?_
  rotate_left
  · (intro w hSw; obtain ⟨s0, s1, s2, s3, s4, s5⟩ := hSw; (go_simp <;> with_reducible rfl))
  try simp only [Act.put, List.setIfInBounds_toArray, List.set_cons_zero, List.set_cons_succ]
  refine wpAnyH_ready (rs := [5]) (by kernel_rfl) (by simp) ?_
  refine AllReadyH.cons (o := { dst := some 17, op := Op.call { callee := Callee.value (Operand.func 91), args := #[Operand.tmp 15, Operand.tmp 16], argTypes := #[9, 51] }, type := 137, pos := _, after := #[{ on := 3, ground := Ground.data }, { on := 4, ground := Ground.data }], guard := none }) rfl (fun K hK => ?_) AllReadyH.nil
  go_simp
  refine (openLeg_l s r _).mono ?_
  rintro e w4 ⟨rfl, hH⟩
  have hWi4 := hWi3.quiet hH
  have hRe4 := hRe3.quiet hH
  have hZ4 := hZ3.quiet hH
  have hG4 := hG3.trans hH
  clear hH
  refine hK.out _ _ ?_ (fun hHeld => ?_)
  · exact ⟨hWi4.cell 0, hWi4.cell 1, hRe4.cell 0, hRe4.cell 1, hRe4.cell 2, hRe4.cell 3⟩
  clear hK K
  try simp only [Act.put, List.setIfInBounds_toArray, List.set_cons_zero, List.set_cons_succ]
  refine wpAnyH_ready (rs := [6]) (by kernel_rfl) (by simp) ?_
  refine AllReadyH.cons (o := { dst := some 18, op := Op.buildSlice 53 1 #[(0, Operand.tmp 17)], type := 53, pos := _, after := #[{ on := 5, ground := Ground.data }], guard := none }) rfl (fun K hK => ?_) AllReadyH.nil
  go_simp
  have hH := (G.refl w4 none).alloc (.cells #[.string s, .int .i64 r.1, .string r.2.1, .int .i64 r.2.2.1, .int .i64 r.2.2.2, .int .i64 (-1), .string ⟨#[]⟩, .int .i64 0, .int .i64 0] 137)
  have hWi5 := hWi4.quiet hH
  have hRe5 := hRe4.quiet hH
  have hZ5 := hZ4.quiet hH
  have hG5 := hG4.trans hH
  clear hH
  refine hK.out _ _ ?_ (fun hHeld => ?_)
  · exact ⟨hWi5.cell 0, hWi5.cell 1, hRe5.cell 0, hRe5.cell 1, hRe5.cell 2, hRe5.cell 3⟩
  clear hK K
  try simp only [Act.put, List.setIfInBounds_toArray, List.set_cons_zero, List.set_cons_succ]
  refine wpAnyH_take (i := 7) (oi := { dst := some 19, op := Op.build 55 #[(0, Operand.tmp 12), (1, Operand.tmp 13), (2, Operand.tmp 14), (3, Operand.tmp 18)], type := 55, pos := _, after := #[{ on := 0, ground := Ground.data }, { on := 1, ground := Ground.data }, { on := 2, ground := Ground.data }, { on := 6, ground := Ground.data }], guard := none }) (v := ?_) rfl (by kernel_rfl) (by kernel_rfl) (by kernel_rfl) (fun _ _ _ h => h) (Or.inl ⟨by rfl, ?_⟩) (by assumption) ?_
  rotate_left
  · (intro w hSw; obtain ⟨s0, s1, s2, s3, s4, s5⟩ := hSw; (go_simp <;> with_reducible rfl))
  try simp only [Act.put, List.setIfInBounds_toArray, List.set_cons_zero, List.set_cons_succ]
  refine wpAnyH_ready (rs := [8]) (by kernel_rfl) (by simp) ?_
  refine AllReadyH.cons (o := { dst := some 20, op := Op.call { callee := Callee.value (Operand.func 90), args := #[Operand.tmp 19], argTypes := #[55] }, type := 56, pos := _, after := #[{ on := 7, ground := Ground.data }, { on := 5, ground := Ground.chain }], guard := none }) rfl (fun K hK => ?_) AllReadyH.nil
  go_simp
  refine (right_c h (.slice (some ⟨w4.heap.size, 0, none⟩) 1 1) [(s, r, noIn)] _ (RdR.oneLg (b := (s, r, noIn)) (Bk.new w4 _ _)) hb0 hs1 hs2 hb1 hb2 (by simp)).mono ?_
  rintro e w6 ⟨H, a, n, c, rfl, hHH, hBB, hR6, hH⟩
  have HHH := Lib.hid hHH
  have HBB := Lib.hid hBB
  clear hHH hBB
  have hWi6 := hWi5.quiet hH
  have hRe6 := hRe5.quiet hH
  have hZ6 := hZ5.quiet hH
  have hG6 := hG5.trans hH
  clear hH
  refine hK.out _ _ ?_ (fun hHeld => ?_)
  · exact ⟨hWi6.cell 0, hWi6.cell 1, hRe6.cell 0, hRe6.cell 1, hRe6.cell 2, hRe6.cell 3⟩
  clear hK K
  try simp only [Act.put, List.setIfInBounds_toArray, List.set_cons_zero, List.set_cons_succ]
  refine wpAnyH_take (i := 9) (oi := { dst := some 21, op := Op.extract (Operand.tmp 20) 0, type := 55, pos := _, after := #[{ on := 8, ground := Ground.data }], guard := none }) (v := ?_) rfl (by kernel_rfl) (by kernel_rfl) (by kernel_rfl) (fun _ _ _ h => h) (Or.inl ⟨by rfl, ?_⟩) (by assumption) ?_
  rotate_left
  · (intro w hSw; obtain ⟨s0, s1, s2, s3, s4, s5⟩ := hSw; (go_simp <;> with_reducible rfl))
  try simp only [Act.put, List.setIfInBounds_toArray, List.set_cons_zero, List.set_cons_succ]
  refine wpAnyH_take (i := 10) (oi := { dst := some 22, op := Op.extract (Operand.tmp 20) 1, type := 36, pos := _, after := #[{ on := 8, ground := Ground.data }], guard := none }) (v := ?_) rfl (by kernel_rfl) (by kernel_rfl) (by kernel_rfl) (fun _ _ _ h => h) (Or.inl ⟨by rfl, ?_⟩) (by assumption) ?_
  rotate_left
  · (intro w hSw; obtain ⟨s0, s1, s2, s3, s4, s5⟩ := hSw; (go_simp <;> with_reducible rfl))
  try simp only [Act.put, List.setIfInBounds_toArray, List.set_cons_zero, List.set_cons_succ]
  refine wpAnyH_ready (rs := [11]) (by kernel_rfl) (by simp) ?_
  refine AllReadyH.cons (o := { dst := none, op := Op.store 55 (Operand.tmp 10) (Operand.tmp 21), type := 0, pos := _, after := #[{ on := 9, ground := Ground.data }, { on := 8, ground := Ground.chain }, { on := 0, ground := Ground.phase }, { on := 1, ground := Ground.phase }, { on := 2, ground := Ground.phase }, { on := 3, ground := Ground.phase }, { on := 4, ground := Ground.phase }, { on := 5, ground := Ground.phase }, { on := 6, ground := Ground.phase }, { on := 7, ground := Ground.phase }, { on := 8, ground := Ground.phase }, { on := 9, ground := Ground.phase }, { on := 10, ground := Ground.phase }], guard := none }) rfl (fun K hK => ?_) AllReadyH.nil
  refine st_wp rfl (wp_store_row 55 _ _ rfl (w.heap.size + 2) #[.string H.1, .string H.2.1, .int .i64 H.2.2.1, .int .i64 H.2.2.2, .slice a n c] rfl rfl 55 _ hZ6 (hi_info H _) rfl (hi_one H a n c) ?_)
  have hWi7 := hWi6.farRow (show w.heap.size ≠ w.heap.size + 2 by omega) #[.string H.1, .string H.2.1, .int .i64 H.2.2.1, .int .i64 H.2.2.2, .slice a n c]
  have hRe7 := hRe6.farRow (show w.heap.size + 1 ≠ w.heap.size + 2 by omega) #[.string H.1, .string H.2.1, .int .i64 H.2.2.1, .int .i64 H.2.2.2, .slice a n c]
  refine hK.out _ _ ?_ (fun hHeld => ?_)
  · exact ⟨hWi7.cell 0, hWi7.cell 1, hRe7.cell 0, hRe7.cell 1, hRe7.cell 2, hRe7.cell 3⟩
  clear hK K
  try simp only [Act.put]
  refine wpAnyH_take (i := 12) (oi := { dst := some 11, op := Op.assign (Operand.tmp 22), type := 36, pos := _, after := #[{ on := 10, ground := Ground.data }, { on := 11, ground := Ground.chain }, { on := 0, ground := Ground.phase }, { on := 1, ground := Ground.phase }, { on := 2, ground := Ground.phase }, { on := 3, ground := Ground.phase }, { on := 4, ground := Ground.phase }, { on := 5, ground := Ground.phase }, { on := 6, ground := Ground.phase }, { on := 7, ground := Ground.phase }, { on := 8, ground := Ground.phase }, { on := 9, ground := Ground.phase }, { on := 10, ground := Ground.phase }, { on := 11, ground := Ground.phase }], guard := none }) (v := ?_) rfl (by kernel_rfl) (by kernel_rfl) (by kernel_rfl) (fun _ _ _ h => h) (Or.inl ⟨by rfl, ?_⟩) (by assumption) ?_
  rotate_left
  · (intro w hSw; obtain ⟨s0, s1, s2, s3, s4, s5⟩ := hSw; (go_simp <;> with_reducible rfl))
  try simp only [Act.put, List.setIfInBounds_toArray, List.set_cons_zero, List.set_cons_succ]
  refine wpAnyH_done (by kernel_rfl) ?_ _
  -- @END
  go_wp2_with fail
  refine bodyPost_ret (results_cell_hi rfl _ _ (w.heap.size + 2) 55 #[.string H.1, .string H.2.1, .int .i64 H.2.2.1, .int .i64 H.2.2.2, .slice a n c] (0, 0) _ rfl (hZ6.setRow _) Tryd.underlying55 rfl (hi_info H _)) rfl ?_
  have hw4 := hZ4.lt
  have hk4 : ∀ k, (Value.slice a n c).ownBlock = some k → k = w4.heap.size := fun k hk => by have := HBB.out k hk; cases this; rfl
  exact ⟨H, a, n, c, rfl, HHH.out, fun k hk => by have := hk4 k hk; omega, Rd.grown hR6 ((G.refl w6 (some (w.heap.size + 2))).setRow (.inr rfl) _) (fun k e hk => by cases e; have := hk4 _ hk; omega), hG6.setRow (.inl (by omega)) _⟩
set_option maxRecDepth 100000 in
set_option maxHeartbeats 4000000 in
theorem startOf_c (h : Hh) (s : ByteArray) (r : Rg) (w : World) (hs : Small s) (hsr : Small r.2.1) (hs1 : Small h.1) (hs2 : Small h.2.1) (hb1 : bnd h.2.2.1) (hb2 : bnd h.2.2.2) :
    Calls Tryd.prog 28 #[.string h.1, .string h.2.1, .agg #[.int .i64 h.2.2.1, .int .i64 h.2.2.2], .string s, .agg (rgC r)] w
      (MadePost h [(s, r, noIn)] (fun k => w.heap.size ≤ k) w) := by
  have hb0 : LgOk [(s, r, noIn)] := fun x hx => by
    obtain rfl := List.mem_singleton.1 hx
    exact ⟨hs, hsr, by show Small ⟨#[]⟩; unfold Small; decide⟩
  have hWi := ((Bk.new w 29 #[.int .i64 h.2.2.1, .int .i64 h.2.2.2]).alloc (.cells (rgC r) 51)).alloc (.cells hiZ 55)
  have hRe := (Bk.newAt (w := w.alloc (.cells #[.int .i64 h.2.2.1, .int .i64 h.2.2.2] 29)) (b := w.heap.size + 1) (by simp) 51 (rgC r)).alloc (.cells hiZ 55)
  have hZ := Bk.newAt (w := (w.alloc (.cells #[.int .i64 h.2.2.1, .int .i64 h.2.2.2] 29)).alloc (.cells (rgC r) 51)) (b := w.heap.size + 2) (by simp) 55 hiZ
  have hG := (((G.refl w none).alloc (.cells #[.int .i64 h.2.2.1, .int .i64 h.2.2.2] 29)).alloc (.cells (rgC r) 51)).alloc (.cells hiZ 55)
  simp only [rgC, hiZ, hiC] at hWi hRe hZ hG ⊢
  go_enter Tryd.func28, Tryd.ntmps28
  go_upto_region 1 with fail
  generalize ((w.alloc (.cells #[.int .i64 h.2.2.1, .int .i64 h.2.2.2] 29)).alloc (.cells #[.int .i64 r.1, .string r.2.1, .int .i64 r.2.2.1, .int .i64 r.2.2.2] 51)).alloc (.cells #[.string ⟨#[]⟩, .string ⟨#[]⟩, .int .i64 0, .int .i64 0, .slice none 0 0] 55) = w2 at hWi hRe hZ hG ⊢
  go_wp2_with (first | (refine wpList_load_row rfl 29 _ rfl w.heap.size rfl 29 #[.int .i64 h.2.2.1, .int .i64 h.2.2.2] (0, 0) _ hWi Tryd.underlying29 rfl (wi_info _ _) ?_) | (refine wpList_load_row rfl 51 _ rfl (w.heap.size + 1) rfl 51 #[.int .i64 r.1, .string r.2.1, .int .i64 r.2.2.1, .int .i64 r.2.2.2] (0, 0) _ hRe Tryd.underlying51 rfl (rg_info r) ?_))
  have hZ2 := hZ.alloc (.cells #[.string s, .int .i64 r.1, .string r.2.1, .int .i64 r.2.2.1, .int .i64 r.2.2.2, .int .i64 (-1), .string ⟨#[]⟩, .int .i64 0, .int .i64 0] 137)
  have hG2 := hG.alloc (.cells #[.string s, .int .i64 r.1, .string r.2.1, .int .i64 r.2.2.1, .int .i64 r.2.2.2, .int .i64 (-1), .string ⟨#[]⟩, .int .i64 0, .int .i64 0] 137)
  have hw4 := hZ.lt
  clear hZ hG
  refine (made_c h (.slice (some ⟨w2.heap.size, 0, none⟩) 1 1) [(s, r, noIn)] _ (RdR.oneLg (b := (s, r, noIn)) (Bk.new w2 _ _)) hb0 hs1 hs2 hb1 hb2 (by simp)).mono ?_
  rintro e w6 ⟨H, a, n, c, rfl, hHH, hBB, hR6, hH⟩
  have HHH := Lib.hid hHH
  have HBB := Lib.hid hBB
  have hZ6 := hZ2.quiet hH
  have hG6 := hG2.trans hH
  clear hHH hBB hH hZ2 hG2
  go_wp2_with (refine wpList_store_row rfl 55 _ _ rfl (w.heap.size + 2) #[.string H.1, .string H.2.1, .int .i64 H.2.2.1, .int .i64 H.2.2.2, .slice a n c] rfl rfl 55 _ hZ6 (hi_info H _) rfl (hi_one H a n c) ?_)
  refine bodyPost_ret (results_cell_hi rfl _ _ (w.heap.size + 2) 55 #[.string H.1, .string H.2.1, .int .i64 H.2.2.1, .int .i64 H.2.2.2, .slice a n c] (0, 0) _ rfl (hZ6.setRow _) Tryd.underlying55 rfl (hi_info H _)) rfl ?_
  have hk4 : ∀ k, (Value.slice a n c).ownBlock = some k → k = w2.heap.size := fun k hk => by have := HBB.out k hk; cases this; rfl
  exact ⟨H, a, n, c, rfl, HHH.out, fun k hk => by have := hk4 k hk; omega, Rd.grown hR6 ((G.refl w6 (some (w.heap.size + 2))).setRow (.inr rfl) _) (fun k e hk => by cases e; have := hk4 _ hk; omega), hG6.setRow (.inl (by omega)) _⟩
end Go.Proofs.YtndeidcddlmhbaaDoor

/- Hires: lists of legs, hires compared; hired. -/
namespace Go.Proofs.YtndeidcddlmhbaaDoor
open Go.RowKit

theorem lg_neq (x y : Lg) (w : World) : (binOp .neq 137 (.agg (lgC x)) (.agg (lgC y))).run Tryd.prog w = .ok (.bool (!(decide (x = y)))) w := by
  have ht : Tryd.prog.underlying 137 = some (.struct (Tryd.prog.fieldsOf 137)) := by kernel_rfl
  have hp : Tryd.prog.stoodInHeld 137 = false := by kernel_rfl
  rw [run_neq_struct, run_equalIn_agg w 9999 137 _ _ ht hp]
  obtain ⟨a, ⟨b, c, d, e⟩, f, g, h, i⟩ := x
  obtain ⟨a', ⟨b', c', d', e'⟩, f', g', h', i'⟩ := y
  simp [lgC, Tryd.underlying137, Tryd.underlying51, Tryd.underlying3, Tryd.underlying9, go_sem]
  have tl : ∀ u v : ByteArray, (u.toList = v.toList) ↔ u = v := fun u v => ⟨toList_ext, fun h => by rw [h]⟩
  simp only [tl]
  by_cases h1 : a = a'
  · by_cases h2 : b = b'
    · by_cases h3 : c = c'
      · by_cases h4 : d = d'
        · by_cases h5 : e = e'
          · by_cases h6 : f = f'
            · by_cases h7 : g = g'
              · by_cases h8 : h = h' <;> by_cases h9 : i = i' <;> simp [h1, h2, h3, h4, h5, h6, h7, h8, h9]
              · simp [h1, h2, h3, h4, h5, h6, h7]
            · simp [h1, h2, h3, h4, h5, h6]
          · simp [h1, h2, h3, h4, h5]
        · simp [h1, h2, h3, h4]
      · simp [h1, h2, h3]
    · simp [h1, h2]
  · simp [h1]
def EqlRel (l m : List Lg) (w : World) (i : Value) (wr : World) : Prop := ∃ k n : Nat, k ≤ l.length ∧ i = .int .i64 k ∧ l.take k = m.take k ∧ wr = w.drewN n
theorem take_succ_lg {l m : List Lg} {k : Nat} {x : Lg} (h : l.take k = m.take k) (hx : l[k]? = some x) (hy : m[k]? = some x) : l.take (k + 1) = m.take (k + 1) := by
  rw [List.take_add_one, List.take_add_one, h, hx, hy]
set_option maxRecDepth 100000 in
set_option maxHeartbeats 4000000 in
theorem lgEqual_c (v u : Value) (l m : List Lg) (w : World) (hr : RdR w 9 lgC v l) (hs : RdR w 9 lgC u m) (hn : l.length ≤ 1000000) :
    Calls Tryd.prog 93 #[v, u] w fun e w' => e = .returned (.bool (decide (l = m))) ∧ G w w' none := by
  have HR := Lib.hid hr
  have HS := Lib.hid hs
  obtain ⟨a, cap, rfl, hcap, hm1⟩ := RdR.form hr
  obtain ⟨a2, cap2, rfl, hcap2, hm2⟩ := RdR.form hs
  clear hr hs
  by_cases hlen : l.length = m.length
  · have hlq : ((l.length : Int) != (m.length : Int)) = false := by rw [hlen]; simp
    have hlq2 : ((m.length : Int) != (l.length : Int)) = false := by rw [hlen]; simp
    have HL := Lib.hid hlen
    clear hlen
    go_enter Tryd.func93, Tryd.ntmps93
    go_wp2_with fail
    go_loopw [13] (EqlRel l m w) (fun i _ => l.length - (intOf i).toNat)
    case atStart => exact ⟨0, 0, by omega, rfl, rfl, rfl⟩
    case round =>
      obtain ⟨k, n, hk, rfl, heq, rfl⟩ := hrel
      have HE := Lib.hid heq
      clear heq
      by_cases hlt : k < l.length
      · obtain ⟨x, hx⟩ : ∃ x, l[k]? = some x := ⟨_, List.getElem?_eq_getElem hlt⟩
        obtain ⟨y, hy⟩ : ∃ y, m[k]? = some y := ⟨_, List.getElem?_eq_getElem (by rw [← HL.out]; exact hlt)⟩
        have hlt2 : k < m.length := by have := HL.out; omega
        obtain ⟨bb, bo, rfl, hbb, _⟩ := RdR.elem lgC_sz HR.out (G.refl w none) hx
        obtain ⟨b2, o2, rfl, hb2, _⟩ := RdR.elem lgC_sz HS.out (G.refl w none) hy
        have d0 := RdR.cell lgC_sz HR.out (G.refl w none) hx 0 (.string x.1) rfl
        have d1 := RdR.cell lgC_sz HR.out (G.refl w none) hx 1 (.int .i64 x.2.1.1) rfl
        have d2 := RdR.cell lgC_sz HR.out (G.refl w none) hx 2 (.string x.2.1.2.1) rfl
        have d3 := RdR.cell lgC_sz HR.out (G.refl w none) hx 3 (.int .i64 x.2.1.2.2.1) rfl
        have d4 := RdR.cell lgC_sz HR.out (G.refl w none) hx 4 (.int .i64 x.2.1.2.2.2) rfl
        have d5 := RdR.cell lgC_sz HR.out (G.refl w none) hx 5 (.int .i64 x.2.2.1) rfl
        have d6 := RdR.cell lgC_sz HR.out (G.refl w none) hx 6 (.string x.2.2.2.1) rfl
        have d7 := RdR.cell lgC_sz HR.out (G.refl w none) hx 7 (.int .i64 x.2.2.2.2.1) rfl
        have d8 := RdR.cell lgC_sz HR.out (G.refl w none) hx 8 (.int .i64 x.2.2.2.2.2) rfl
        have e0 := RdR.cell lgC_sz HS.out (G.refl w none) hy 0 (.string y.1) rfl
        have e1 := RdR.cell lgC_sz HS.out (G.refl w none) hy 1 (.int .i64 y.2.1.1) rfl
        have e2 := RdR.cell lgC_sz HS.out (G.refl w none) hy 2 (.string y.2.1.2.1) rfl
        have e3 := RdR.cell lgC_sz HS.out (G.refl w none) hy 3 (.int .i64 y.2.1.2.2.1) rfl
        have e4 := RdR.cell lgC_sz HS.out (G.refl w none) hy 4 (.int .i64 y.2.1.2.2.2) rfl
        have e5 := RdR.cell lgC_sz HS.out (G.refl w none) hy 5 (.int .i64 y.2.2.1) rfl
        have e6 := RdR.cell lgC_sz HS.out (G.refl w none) hy 6 (.string y.2.2.2.1) rfl
        have e7 := RdR.cell lgC_sz HS.out (G.refl w none) hy 7 (.int .i64 y.2.2.2.2.1) rfl
        have e8 := RdR.cell lgC_sz HS.out (G.refl w none) hy 8 (.int .i64 y.2.2.2.2.2) rfl
        simp only [Nat.add_zero] at d0 e0
        have HX := Lib.hid hx
        have HY := Lib.hid hy
        clear hx hy
        by_cases hxy : x = y
        · have hnq : ∀ w : World, (binOp .neq 137 (.agg #[.string x.1, .int .i64 x.2.1.1, .string x.2.1.2.1, .int .i64 x.2.1.2.2.1, .int .i64 x.2.1.2.2.2, .int .i64 x.2.2.1, .string x.2.2.2.1, .int .i64 x.2.2.2.2.1, .int .i64 x.2.2.2.2.2]) (.agg #[.string y.1, .int .i64 y.2.1.1, .string y.2.1.2.1, .int .i64 y.2.1.2.2.1, .int .i64 y.2.1.2.2.2, .int .i64 y.2.2.1, .string y.2.2.2.1, .int .i64 y.2.2.2.2.1, .int .i64 y.2.2.2.2.2])).run Tryd.prog w = .ok (.bool false) w := fun w => by
            have := lg_neq x y w
            rw [decide_eq_true hxy] at this
            exact this
          have HT : Hid (l.take (k + 1) = m.take (k + 1)) := Lib.hid (take_succ_lg HE.out HX.out (by rw [hxy]; exact HY.out))
          clear hxy HX HY
          go_wp2_with fail
          go_quiet (fail)
          go_wp2_with fail
          go_roundw
          case rel => exact ⟨k + 1, _, by omega, by go_num, HT.out, rfl⟩
          case measure => simp [intOf]; omega
        · have hnq : ∀ w : World, (binOp .neq 137 (.agg #[.string x.1, .int .i64 x.2.1.1, .string x.2.1.2.1, .int .i64 x.2.1.2.2.1, .int .i64 x.2.1.2.2.2, .int .i64 x.2.2.1, .string x.2.2.2.1, .int .i64 x.2.2.2.2.1, .int .i64 x.2.2.2.2.2]) (.agg #[.string y.1, .int .i64 y.2.1.1, .string y.2.1.2.1, .int .i64 y.2.1.2.2.1, .int .i64 y.2.1.2.2.2, .int .i64 y.2.2.1, .string y.2.2.2.1, .int .i64 y.2.2.2.2.1, .int .i64 y.2.2.2.2.2])).run Tryd.prog w = .ok (.bool true) w := fun w => by
            have := lg_neq x y w
            rw [decide_eq_false hxy] at this
            exact this
          have HT : Hid (decide (l = m) = false) := Lib.hid (decide_eq_false (fun e => hxy (by have h1 := HX.out; rw [e, HY.out] at h1; exact (Option.some.inj h1).symm)))
          clear hxy HX HY
          go_wp2_with fail
          go_quiet (fail)
          go_wp2_with fail
          go_ret
          exact ⟨ret_bool HT.out.symm, ((G.refl _ _).drewN _).drewN _⟩
      · obtain rfl : k = l.length := by omega
        have HT : Hid (decide (l = m) = true) := Lib.hid (decide_eq_true (by have h := HE.out; rwa [List.take_length, HL.out, List.take_length] at h))
        go_wp2_with fail
        go_ret
        exact ⟨ret_bool HT.out.symm, (G.refl _ _).drewN _⟩
  · have hlq : ((l.length : Int) != (m.length : Int)) = true := by rw [bne_iff_ne]; omega
    have hlq2 : ¬ l.length = m.length := hlen
    have HT : Hid (decide (l = m) = false) := Lib.hid (decide_eq_false (fun e => hlen (by rw [e])))
    clear hlen
    go_enter Tryd.func93, Tryd.ntmps93
    go_wp2_with fail
    go_ret
    exact ⟨ret_bool HT.out.symm, G.refl _ _⟩
theorem wi_eql (x y : Int) (w : World) : (binOp .eql 29 (.agg #[.int .i64 x, .int .i64 y]) (.agg #[.int .i64 x, .int .i64 y])).run Tryd.prog w = .ok (.bool true) w := by
  have ht : Tryd.prog.underlying 29 = some (.struct (Tryd.prog.fieldsOf 29)) := by kernel_rfl
  have hp : Tryd.prog.stoodInHeld 29 = false := by kernel_rfl
  rw [run_eql_struct, run_equalIn_agg w 9999 29 _ _ ht hp]
  simp [Tryd.underlying29, Tryd.underlying3, go_sem]
set_option maxRecDepth 100000 in
set_option maxHeartbeats 2000000 in
theorem sameHire_c (h : Hh) (u v : Value) (l : List Lg) (w : World) (hr : RdR w 9 lgC u l) (hs : RdR w 9 lgC v l) (hn : l.length ≤ 1000) :
    Calls Tryd.prog 29 #[.agg (hiC h u), .agg (hiC h v)] w fun e w' => e = .returned (.bool true) ∧ G w w' none := by
  have hA := (Bk.new w 55 (hiC h u)).alloc (.cells (hiC h v) 55)
  have hB := Bk.newAt (w := w.alloc (.cells (hiC h u) 55)) (b := w.heap.size + 1) (by simp) 55 (hiC h v)
  have hG := ((G.refl w none).alloc (.cells (hiC h u) 55)).alloc (.cells (hiC h v) 55)
  have HR := Lib.hid (hr.quiet hG)
  have HS := Lib.hid (hs.quiet hG)
  obtain ⟨h1, h2, h3, h4⟩ := h
  clear hr hs
  simp only [hiC] at hA hB hG HR HS ⊢
  go_enter Tryd.func29, Tryd.ntmps29
  go_upto_region 1 with fail
  generalize (w.alloc (.cells #[.string h1, .string h2, .int .i64 h3, .int .i64 h4, u] 55)).alloc (.cells #[.string h1, .string h2, .int .i64 h3, .int .i64 h4, v] 55) = w2 at hA hB hG HR HS ⊢
  have a0 : w2.cell? ⟨w.heap.size, 0, none⟩ = some (.string h1) := hA.cell 0
  have a1 : w2.cell? ⟨w.heap.size, 1, none⟩ = some (.string h2) := hA.cell 1
  have a4 : w2.cell? ⟨w.heap.size, 4, none⟩ = some u := hA.cell 4
  have b0 : w2.cell? ⟨w.heap.size + 1, 0, none⟩ = some (.string h1) := hB.cell 0
  have b1 : w2.cell? ⟨w.heap.size + 1, 1, none⟩ = some (.string h2) := hB.cell 1
  have b4 : w2.cell? ⟨w.heap.size + 1, 4, none⟩ = some v := hB.cell 4
  have a2 : w2.cell? ⟨w.heap.size, 2, none⟩ = some (.int .i64 h3) := hA.cell 2
  have a3 : w2.cell? ⟨w.heap.size, 3, none⟩ = some (.int .i64 h4) := hA.cell 3
  have b2 : w2.cell? ⟨w.heap.size + 1, 2, none⟩ = some (.int .i64 h3) := hB.cell 2
  have b3 : w2.cell? ⟨w.heap.size + 1, 3, none⟩ = some (.int .i64 h4) := hB.cell 3
  have hq := wi_eql h3 h4
  go_wp2_with fail
  refine (lgEqual_c u v l l _ HR.out HS.out (by omega)).mono ?_; rintro e w3 ⟨rfl, hG3⟩
  rw [decide_eq_true (rfl : l = l)]
  go_wp2_with fail
  go_ret
  exact ⟨rfl, hG.trans hG3⟩
def h1K : Hh := (⟨#[104]⟩, ⟨#[100]⟩, 5, 9)
def h1R : Rg := (5, ⟨#[115]⟩, 0, 0)
theorem h1_ok : hiE h1K [(⟨#[118]⟩, h1R, noIn)] = 0 := by decide +kernel
set_option maxRecDepth 100000 in
set_option maxHeartbeats 2000000 in
theorem start1_c (w : World) : Calls Tryd.prog 27 #[.string ⟨#[104]⟩, .string ⟨#[100]⟩, .agg #[.int .i64 5, .int .i64 9], .string ⟨#[118]⟩, .agg #[.int .i64 5, .string ⟨#[115]⟩, .int .i64 0, .int .i64 0]] w
    fun e w' => ∃ a c, e = .returned (.tuple #[.agg #[.string ⟨#[104]⟩, .string ⟨#[100]⟩, .int .i64 5, .int .i64 9, .slice a 1 c], .int .i64 0]) ∧ G w w' none := by
  refine (start_c h1K ⟨#[118]⟩ h1R w (small_of (by decide)) (small_of (by decide)) (small_of (by decide)) (small_of (by decide)) (by unfold bnd h1K; dsimp only; omega) (by unfold bnd h1K; dsimp only; omega)).mono ?_
  rintro e w' ⟨H, a, n, c, rfl, hH, -, hR, hG⟩
  rw [h1_ok] at hH hR
  obtain rfl : H = h1K := hH
  obtain ⟨a', c', hv, -, -⟩ := RdR.form hR
  obtain rfl : n = 1 := by cases hv; rfl
  exact ⟨a, c, by rw [h1_ok]; rfl, hG⟩
set_option maxRecDepth 100000 in
set_option maxHeartbeats 2000000 in
theorem hired_c (w : World) : Calls Tryd.prog 30 #[] w fun e w' => e = .returned (.bool true) ∧ G w w' none := by
  go_enter Tryd.func30, Tryd.ntmps30
  go_wp2_with fail
  refine (start1_c _).mono ?_; rintro e w2 ⟨a, c, rfl, hG2⟩
  go_wp2_with fail
  go_ret
  exact ⟨rfl, hG2.alloc _⟩
end Go.Proofs.YtndeidcddlmhbaaDoor
