/- Hir, Hik, Hif, His, Ows, Chg, Chh, Reg, Pck, GenL, Clo. -/
import Derived.Test.YtdcofbciebkfkaaDoorZh1
import Derived.Laws.StructEq
import Derived.Deep.CutRange
import Derived.Deep.RegionHeld3
import Derived.Deep.MidRow
import Derived.RegionTactic
import Derived.Laws.ResultCell
/- Hires: readings, legs; checkReading, checkBegin, isOut, checkEnd. -/
namespace Go.Proofs.YtdcofbciebkfkaaDoor
open Go.RowKit

/-- A reading: at, station, meter, fuel. -/
abbrev Rg := Int × ByteArray × Int × Int
def rgC (x : Rg) : Array Value := #[.int .i64 x.1, .string x.2.1, .int .i64 x.2.2.1, .int .i64 x.2.2.2]
theorem rg_info (x : Rg) : (Tryd.prog.info? 37).map (·.size) = some (rgC x).size := (by kernel_rfl : (Tryd.prog.info? 37).map (·.size) = some 4)
def rgE (x : Rg) : Int := if momB x.1 = false then 1 else if keyB x.2.1 = false then 5 else if inB x.2.2.1 0 999999 = false then 1 else if inB x.2.2.2 0 8 = false then 1 else 0
/-- A leg: vehicle, out, in. -/
abbrev Lg := ByteArray × Rg × Rg
def lgC (x : Lg) : Array Value := #[.string x.1, .int .i64 x.2.1.1, .string x.2.1.2.1, .int .i64 x.2.1.2.2.1, .int .i64 x.2.1.2.2.2, .int .i64 x.2.2.1, .string x.2.2.2.1, .int .i64 x.2.2.2.2.1, .int .i64 x.2.2.2.2.2]
theorem lgC_sz (x : Lg) : (lgC x).size = 9 := rfl
theorem lg_info (x : Lg) : (Tryd.prog.info? 79).map (·.size) = some (lgC x).size := (by kernel_rfl : (Tryd.prog.info? 79).map (·.size) = some 9)
def lgB (x : Lg) : Prop := Small x.1 ∧ Small x.2.1.2.1 ∧ Small x.2.2.2.1
def LgOk (l : List Lg) : Prop := ∀ x ∈ l, lgB x
/-- A hire's head: key, driver, from, to; the cells of a hire. -/
abbrev Hh := ByteArray × ByteArray × Int × Int
def hiC (h : Hh) (v : Value) : Array Value := #[.string h.1, .string h.2.1, .int .i64 h.2.2.1, .int .i64 h.2.2.2, v]
theorem hi_info (h : Hh) (v : Value) : (Tryd.prog.info? 33).map (·.size) = some (hiC h v).size := (by kernel_rfl : (Tryd.prog.info? 33).map (·.size) = some 5)
def noIn : Rg := (-1, ⟨#[]⟩, 0, 0)
def beE (f : Int) (b : Option Lg) (x : Lg) : Int := match b with
  | none => if x.2.1.1 = f then 0 else 7
  | some y => if x.2.1.1 = y.2.2.1 then (if x.1 = y.1 then 16 else if x.2.1.2.1 = y.2.2.2.1 then 0 else 8) else 7
def enE (last : Bool) (x : Lg) : Int := if x.2.2.1 = -1 then (if x.2.2 = noIn then (if last = true then 0 else 11) else 3) else if rgE x.2.2 = 0 then (if x.2.2.1 ≤ x.2.1.1 then 7 else 0) else rgE x.2.2
def lgE (f : Int) (b : Option Lg) (last : Bool) (x : Lg) : Int := if keyB x.1 = false then 5 else if rgE x.2.1 = 0 then (if beE f b x = 0 then enE last x else beE f b x) else rgE x.2.1
def lsE (f : Int) : Option Lg → List Lg → Int
  | _, [] => 0
  | b, x :: r => if lgE f b r.isEmpty x = 0 then lsE f (some x) r else lgE f b r.isEmpty x
def hiE (h : Hh) (l : List Lg) : Int := if keyB h.1 = false then 5 else if keyB h.2.1 = false then 5 else if tE h.2.2.1 h.2.2.2 = 0 then (if l.length = 0 then 3 else if 20 < l.length then 2 else lsE h.2.2.1 none l) else tE h.2.2.1 h.2.2.2
theorem Bk.part {w : World} {g : Nat} {T : TypeId} {cs : Array Value} (h : Bk w g T cs) (k : Nat) (ds : Array Value) (hd : ∀ j u, ds.toList[j]? = some u → cs[k + j]? = some u) : ∀ j u, ds.toList[j]? = some u → w.cell? ((⟨g, k, none⟩ : Addr).add j) = some u := fun j u hu => by
  rw [add_at, h.cell]
  exact hd j u hu
theorem lg_out (x : Lg) : ∀ j u, (#[.int .i64 x.2.1.1, .string x.2.1.2.1, .int .i64 x.2.1.2.2.1, .int .i64 x.2.1.2.2.2] : Array Value).toList[j]? = some u → (lgC x)[1 + j]? = some u := fun j u hu => by
  match j, hu with
  | 0, hu => exact hu
  | 1, hu => exact hu
  | 2, hu => exact hu
  | 3, hu => exact hu
  | n + 4, hu => simp at hu
theorem lg_in (x : Lg) : ∀ j u, (#[.int .i64 x.2.2.1, .string x.2.2.2.1, .int .i64 x.2.2.2.2.1, .int .i64 x.2.2.2.2.2] : Array Value).toList[j]? = some u → (lgC x)[5 + j]? = some u := fun j u hu => by
  match j, hu with
  | 0, hu => exact hu
  | 1, hu => exact hu
  | 2, hu => exact hu
  | 3, hu => exact hu
  | n + 4, hu => simp at hu
theorem lgRow {W w : World} {bb bo n cap : Nat} {l : List Lg} (h : RdR W 9 lgC (.slice (some ⟨bb, bo, none⟩) n cap) l) (hG : G W w none) {k : Nat} {p : Lg} (hp : l[k]? = some p) :
    ∀ j v, (lgC p).toList[j]? = some v → w.cell? ((⟨bb, bo + k * 9, none⟩ : Addr).add j) = some v := fun j v hv => by
  rw [add_at]
  exact RdR.cell lgC_sz h hG hp j v hv
theorem drop_empty {α : Type} (l : List α) (k : Nat) : (l.drop k).isEmpty = decide (l.length ≤ k) := by
  by_cases h : l.length ≤ k
  · rw [List.drop_eq_nil_of_le h, decide_eq_true h]; rfl
  · rw [decide_eq_false h]
    cases hd : l.drop k with
    | nil => have := List.drop_eq_nil_iff.1 hd; omega
    | cons _ _ => rfl
theorem toList_ext {a b : ByteArray} (h : a.toList = b.toList) : a = b := by
  rw [ByteArray.toList_eq, ByteArray.toList_eq] at h
  exact ByteArray.ext (Array.toList_inj.1 h)
theorem rg_neq (x y : Rg) (w : World) : (binOp .neq 37 (.agg #[.int .i64 x.1, .string x.2.1, .int .i64 x.2.2.1, .int .i64 x.2.2.2]) (.agg #[.int .i64 y.1, .string y.2.1, .int .i64 y.2.2.1, .int .i64 y.2.2.2])).run Tryd.prog w = .ok (.bool (!(decide (x = y)))) w := by
  obtain ⟨a, b, c, d⟩ := x
  obtain ⟨e, f, g, h⟩ := y
  have ht : Tryd.prog.underlying 37 = some (.struct (Tryd.prog.fieldsOf 37)) := by kernel_rfl
  have hp : Tryd.prog.stoodInHeld 37 = false := by kernel_rfl
  rw [run_neq_struct, run_equalIn_agg w 9999 37 _ _ ht hp]
  simp [Tryd.underlying37, Tryd.underlying3, Tryd.underlying9, go_sem]
  by_cases h1 : a = e
  · by_cases h2 : b = f
    · subst h2
      by_cases h3 : c = g <;> by_cases h4 : d = h <;> simp [h1, h3, h4]
    · have h2' : ¬ b.toList = f.toList := fun e => h2 (toList_ext e)
      simp [h1, h2, h2']
  · simp [h1]
set_option maxRecDepth 100000 in
set_option maxHeartbeats 2000000 in
theorem checkReading_c (x : Rg) (w : World) (hs : Small x.2.1) :
    Calls Tryd.prog 143 #[.agg (rgC x)] w fun e w' => e = .returned (.int .i64 (rgE x)) ∧ G w w' none := by
  have hG1 := (G.refl w none).alloc (.cells (rgC x) 37)
  unfold Small at hs
  obtain ⟨t, s, m, f⟩ := x
  simp only [rgC] at hG1 hs ⊢
  have HE : Hid (rgE (t, s, m, f) = if momB t = false then 1 else if keyB s = false then 5 else if inB m 0 999999 = false then 1 else if inB f 0 8 = false then 1 else 0) := Lib.hid rfl
  generalize rgE (t, s, m, f) = R at HE ⊢
  go_enter Tryd.func143, Tryd.ntmps143
  go_wp2_with fail
  refine (isMoment_c t _).mono ?_; rintro e w1 ⟨rfl, rfl⟩
  cases k1 : momB t with
  | false =>
    have HF : Hid (R = 1) := Lib.hid (by rw [HE.out, if_pos k1])
    clear k1
    go_wp2_with fail
    go_ret
    exact ⟨ret_int HF.out.symm, hG1⟩
  | true =>
    have HE : Hid (R = if keyB s = false then 5 else if inB m 0 999999 = false then 1 else if inB f 0 8 = false then 1 else 0) := Lib.hid (by rw [HE.out, if_neg (by simp [k1])])
    clear k1
    go_wp2_with fail
    refine (isKey_c s _ hs).mono ?_; rintro e w1 ⟨rfl, rfl⟩
    cases k2 : keyB s with
    | false =>
      have HF : Hid (R = 5) := Lib.hid (by rw [HE.out, if_pos k2])
      clear k2
      go_wp2_with fail
      go_ret
      exact ⟨ret_int HF.out.symm, hG1⟩
    | true =>
      have HE : Hid (R = if inB m 0 999999 = false then 1 else if inB f 0 8 = false then 1 else 0) := Lib.hid (by rw [HE.out, if_neg (by simp [k2])])
      clear k2
      go_wp2_with fail
      refine (within_c m 0 999999 _).mono ?_; rintro e w1 ⟨rfl, rfl⟩
      cases k3 : inB m 0 999999 with
      | false =>
        have HF : Hid (R = 1) := Lib.hid (by rw [HE.out, if_pos k3])
        clear k3
        go_wp2_with fail
        go_ret
        exact ⟨ret_int HF.out.symm, hG1⟩
      | true =>
        have HE : Hid (R = if inB f 0 8 = false then 1 else 0) := Lib.hid (by rw [HE.out, if_neg (by simp [k3])])
        clear k3
        go_wp2_with fail
        refine (within_c f 0 8 _).mono ?_; rintro e w1 ⟨rfl, rfl⟩
        cases k4 : inB f 0 8 with
        | false =>
          have HF : Hid (R = 1) := Lib.hid (by rw [HE.out, if_pos k4])
          clear k4
          go_wp2_with fail
          go_ret
          exact ⟨ret_int HF.out.symm, hG1⟩
        | true =>
          have HF : Hid (R = 0) := Lib.hid (by rw [HE.out, if_neg (by simp [k4])])
          clear k4
          go_wp2_with fail
          go_ret
          exact ⟨ret_int HF.out.symm, hG1⟩
set_option maxRecDepth 100000 in
theorem isOut_c (p : Lg) (w : World) : Calls Tryd.prog 148 #[.agg (lgC p)] w fun e w' => e = .returned (.bool (p.2.2.1 == -1)) ∧ G w w' none := by
  have hG1 := (G.refl w none).alloc (.cells (lgC p) 79)
  obtain ⟨p1, ⟨o1, o2, o3, o4⟩, i1, i2, i3, i4⟩ := p
  simp only [lgC] at hG1 ⊢
  go_enter Tryd.func148, Tryd.ntmps148
  go_wp2_with fail
  go_ret
  exact ⟨rfl, hG1⟩
set_option maxRecDepth 100000 in
set_option maxHeartbeats 4000000 in
theorem checkBegin_c (h : Hh) (v : Value) (l : List Lg) (k : Nat) (p : Lg) (w : World) (hr : RdR w 9 lgC v l) (hp : l[k]? = some p) (hn : l.length ≤ 1000) :
    Calls Tryd.prog 144 #[.agg (hiC h v), .int .i64 k] w fun e w' => e = .returned (.int .i64 (beE h.2.2.1 (prevAt l k) p)) ∧ G w w' none := by
  have hH := Bk.new w 33 (hiC h v)
  have hGH := (G.refl w none).alloc (.cells (hiC h v) 33)
  have HR := Lib.hid (hr.quiet hGH)
  obtain ⟨a, cap, rfl, hcap, hm⟩ := RdR.form hr
  clear hr
  have hk : k < l.length := (List.getElem?_eq_some_iff.1 hp).1
  obtain ⟨bb, bo, rfl, -, -⟩ := RdR.elem lgC_sz HR.out (G.refl _ none) hp
  have HW := Lib.hid (lgRow HR.out (G.refl _ none) hp)
  have HP := Lib.hid hp
  clear hp
  simp only [hiC] at hH hGH HR HW ⊢
  go_enter Tryd.func144, Tryd.ntmps144
  go_upto_if 13 with (refine wpList_load_at rfl 79 _ rfl ⟨bb, bo + k * 9, none⟩ rfl #[.string p.1, .int .i64 p.2.1.1, .string p.2.1.2.1, .int .i64 p.2.1.2.2.1, .int .i64 p.2.1.2.2.2, .int .i64 p.2.2.1, .string p.2.2.2.1, .int .i64 p.2.2.2.2.1, .int .i64 p.2.2.2.2.2] _ HW.out Tryd.underlying79 rfl (lg_info p) ?_)
  have hL : Bk ((w.alloc (.cells #[.string h.1, .string h.2.1, .int .i64 h.2.2.1, .int .i64 h.2.2.2, .slice (some ⟨bb, bo, none⟩) l.length cap] 33)).alloc (.cells #[.string p.1, .int .i64 p.2.1.1, .string p.2.1.2.1, .int .i64 p.2.1.2.2.1, .int .i64 p.2.1.2.2.2, .int .i64 p.2.2.1, .string p.2.2.2.1, .int .i64 p.2.2.2.2.1, .int .i64 p.2.2.2.2.2] 79)) (w.heap.size + 1) 79 (lgC p) := Bk.newAt (by simp) _ _
  have hG := hGH.alloc (.cells #[.string p.1, .int .i64 p.2.1.1, .string p.2.1.2.1, .int .i64 p.2.1.2.2.1, .int .i64 p.2.1.2.2.2, .int .i64 p.2.2.1, .string p.2.2.2.1, .int .i64 p.2.2.2.2.1, .int .i64 p.2.2.2.2.2] 79)
  have hH := hH.alloc (.cells #[.string p.1, .int .i64 p.2.1.1, .string p.2.1.2.1, .int .i64 p.2.1.2.2.1, .int .i64 p.2.1.2.2.2, .int .i64 p.2.2.1, .string p.2.2.2.1, .int .i64 p.2.2.2.2.1, .int .i64 p.2.2.2.2.2] 79)
  have HR := Lib.hid (HR.out.quiet ((G.refl _ none).alloc (.cells #[.string p.1, .int .i64 p.2.1.1, .string p.2.1.2.1, .int .i64 p.2.1.2.2.1, .int .i64 p.2.1.2.2.2, .int .i64 p.2.2.1, .string p.2.2.2.1, .int .i64 p.2.2.2.2.1, .int .i64 p.2.2.2.2.2] 79)))
  clear HW hGH
  generalize (w.alloc (.cells #[.string h.1, .string h.2.1, .int .i64 h.2.2.1, .int .i64 h.2.2.2, .slice (some ⟨bb, bo, none⟩) l.length cap] 33)).alloc (.cells #[.string p.1, .int .i64 p.2.1.1, .string p.2.1.2.1, .int .i64 p.2.1.2.2.1, .int .i64 p.2.1.2.2.2, .int .i64 p.2.2.1, .string p.2.2.2.1, .int .i64 p.2.2.2.2.1, .int .i64 p.2.2.2.2.2] 79) = w2 at hL hG hH HR ⊢
  have c1 : w2.cell? ⟨w.heap.size + 1, 1, none⟩ = some (.int .i64 p.2.1.1) := hL.cell 1
  have d2 : w2.cell? ⟨w.heap.size, 2, none⟩ = some (.int .i64 h.2.2.1) := hH.cell 2
  cases k with
  | zero =>
    by_cases hq : p.2.1.1 = h.2.2.1
    · have HF : Hid (beE h.2.2.1 (prevAt l 0) p = 0) := Lib.hid (if_pos hq)
      go_wp2_with fail
      go_ret
      exact ⟨ret_int HF.out.symm, hG⟩
    · have HF : Hid (beE h.2.2.1 (prevAt l 0) p = 7) := Lib.hid (if_neg hq)
      go_wp2_with fail
      go_ret
      exact ⟨ret_int HF.out.symm, hG⟩
  | succ m =>
    obtain ⟨q, hq2⟩ : ∃ q, l[m]? = some q := ⟨_, List.getElem?_eq_getElem (by omega)⟩
    have HA : Hid (beE h.2.2.1 (prevAt l (m + 1)) p = if p.2.1.1 = q.2.2.1 then (if p.1 = q.1 then 16 else if p.2.1.2.1 = q.2.2.2.1 then 0 else 8) else 7) := Lib.hid (by rw [prevAt_succ l m q hq2]; rfl)
    have hsub : IntKind.i64.wrap (((m + 1 : Nat) : Int) - 1) = (m : Int) := by rw [show ((m + 1 : Nat) : Int) - 1 = (m : Int) by omega]; rw [IntKind.wrap_i64]; omega
    have hsub2 : IntKind.i64.wrap (m : Int) = (m : Int) := by rw [IntKind.wrap_i64]; omega
    have hsub3 : IntKind.i64.wrap ((m : Int) + 1 - 1) = (m : Int) := by rw [IntKind.wrap_i64]; omega
    have hm0 : (0 : Int) ≤ (m : Int) := Int.natCast_nonneg m
    have hml : (m : Int) < (l.length : Int) := by omega
    have hne : (((m + 1 : Nat) : Int) == 0) = false := by simp; omega
    have hne2 : ((m : Int) + 1 == 0) = false := by simp; omega
    have HW := Lib.hid (lgRow HR.out (G.refl _ none) hq2)
    have d4 : w2.cell? ⟨w.heap.size, 4, none⟩ = some (.slice (some ⟨bb, bo, none⟩) l.length cap) := hH.cell 4
    obtain ⟨B, hB⟩ : ∃ B, beE h.2.2.1 (prevAt l (m + 1)) p = B := ⟨_, rfl⟩
    rw [hB] at HA
    have HBB := Lib.hid hB
    clear hB hq2
    go_upto_region 7 with (refine wpList_load_at rfl 79 _ rfl ⟨bb, bo + m * 9, none⟩ rfl #[.string q.1, .int .i64 q.2.1.1, .string q.2.1.2.1, .int .i64 q.2.1.2.2.1, .int .i64 q.2.1.2.2.2, .int .i64 q.2.2.1, .string q.2.2.2.1, .int .i64 q.2.2.2.2.1, .int .i64 q.2.2.2.2.2] _ HW.out Tryd.underlying79 rfl (lg_info q) ?_)
    have hQ := Bk.new w2 79 (lgC q)
    have hG := hG.alloc (.cells (lgC q) 79)
    have hL := hL.alloc (.cells (lgC q) 79)
    rw [show #[.string q.1, .int .i64 q.2.1.1, .string q.2.1.2.1, .int .i64 q.2.1.2.2.1, .int .i64 q.2.1.2.2.2, .int .i64 q.2.2.1, .string q.2.2.2.1, .int .i64 q.2.2.2.2.1, .int .i64 q.2.2.2.2.2] = lgC q from rfl]
    generalize w2.alloc (.cells (lgC q) 79) = w3 at hQ hG hL ⊢
    generalize w2.heap.size = g at hQ ⊢
    have c0 : w3.cell? ⟨w.heap.size + 1, 0, none⟩ = some (.string p.1) := hL.cell 0
    have c1 : w3.cell? ⟨w.heap.size + 1, 1, none⟩ = some (.int .i64 p.2.1.1) := hL.cell 1
    have c2 : w3.cell? ⟨w.heap.size + 1, 2, none⟩ = some (.string p.2.1.2.1) := hL.cell 2
    have q0 : w3.cell? ⟨g, 0, none⟩ = some (.string q.1) := hQ.cell 0
    have q5 : w3.cell? ⟨g, 5, none⟩ = some (.int .i64 q.2.2.1) := hQ.cell 5
    have q6 : w3.cell? ⟨g, 6, none⟩ = some (.string q.2.2.2.1) := hQ.cell 6
    clear hL hQ hH HR d2 d4
    by_cases k1 : p.2.1.1 = q.2.2.1
    · have HA : Hid (B = if p.1 = q.1 then 16 else if p.2.1.2.1 = q.2.2.2.1 then 0 else 8) := Lib.hid (by rw [HA.out, if_pos k1])
      have k1' : (p.2.1.1 != q.2.2.1) = false := by simpa using k1
      clear k1
      by_cases k2 : p.1 = q.1
      · have HF : Hid (B = 16) := Lib.hid (by rw [HA.out, if_pos k2])
        have k2' : (p.1.toList == q.1.toList) = true := by rw [k2]; simp
        clear k2
        go_wp2_with fail
        go_ret
        exact ⟨ret_int (by rw [HBB.out, HF.out]), hG⟩
      · have HA : Hid (B = if p.2.1.2.1 = q.2.2.2.1 then 0 else 8) := Lib.hid (by rw [HA.out, if_neg k2])
        have k2' : (p.1.toList == q.1.toList) = false := by simpa using fun e => k2 (toList_ext e)
        clear k2
        by_cases k3 : p.2.1.2.1 = q.2.2.2.1
        · have HF : Hid (B = 0) := Lib.hid (by rw [HA.out, if_pos k3])
          have k3' : (p.2.1.2.1.toList == q.2.2.2.1.toList) = true := by rw [k3]; simp
          have k3n : (p.2.1.2.1.toList != q.2.2.2.1.toList) = false := by rw [k3]; simp
          clear k3
          go_wp2_with fail
          go_ret
          exact ⟨ret_int (by rw [HBB.out, HF.out]), hG⟩
        · have HF : Hid (B = 8) := Lib.hid (by rw [HA.out, if_neg k3])
          have k3' : (p.2.1.2.1.toList == q.2.2.2.1.toList) = false := by simpa using fun e => k3 (toList_ext e)
          have k3n : (p.2.1.2.1.toList != q.2.2.2.1.toList) = true := by simpa using fun e => k3 (toList_ext e)
          clear k3
          go_wp2_with fail
          go_ret
          exact ⟨ret_int (by rw [HBB.out, HF.out]), hG⟩
    · have HF : Hid (B = 7) := Lib.hid (by rw [HA.out, if_neg k1])
      have k1' : (p.2.1.1 != q.2.2.1) = true := by simpa using k1
      clear k1
      go_wp2_with fail
      go_ret
      exact ⟨ret_int (by rw [HBB.out, HF.out]), hG⟩
set_option maxRecDepth 100000 in
set_option maxHeartbeats 4000000 in
theorem checkEnd_c (h : Hh) (v : Value) (l : List Lg) (k : Nat) (p : Lg) (w : World) (hr : RdR w 9 lgC v l) (hp : l[k]? = some p) (hs : Small p.2.2.2.1) (hn : l.length ≤ 1000) :
    Calls Tryd.prog 145 #[.agg (hiC h v), .int .i64 k] w fun e w' => e = .returned (.int .i64 (enE (l.drop (k + 1)).isEmpty p)) ∧ G w w' none := by
  have hH := Bk.new w 33 (hiC h v)
  have hGH := (G.refl w none).alloc (.cells (hiC h v) 33)
  have HR := Lib.hid (hr.quiet hGH)
  obtain ⟨a, cap, rfl, hcap, hm⟩ := RdR.form hr
  clear hr
  have hk : k < l.length := (List.getElem?_eq_some_iff.1 hp).1
  have hki : (k : Int) < (l.length : Int) := by omega
  obtain ⟨bb, bo, rfl, -, -⟩ := RdR.elem lgC_sz HR.out (G.refl _ none) hp
  have HW := Lib.hid (lgRow HR.out (G.refl _ none) hp)
  clear hp
  have HLA : Hid ((l.drop (k + 1)).isEmpty = decide (l.length ≤ k + 1)) := Lib.hid (drop_empty l (k + 1))
  obtain ⟨E, hE⟩ : ∃ E, enE (l.drop (k + 1)).isEmpty p = E := ⟨_, rfl⟩
  have HE : Hid (E = if p.2.2.1 = -1 then (if p.2.2 = noIn then (if decide (l.length ≤ k + 1) = true then 0 else 11) else 3) else if rgE p.2.2 = 0 then (if p.2.2.1 ≤ p.2.1.1 then 7 else 0) else rgE p.2.2) := Lib.hid (by rw [← hE, HLA.out]; rfl)
  rw [hE]
  clear hE
  simp only [hiC] at hH hGH HR HW ⊢
  go_enter Tryd.func145, Tryd.ntmps145
  go_upto_region 2 with (refine wpList_load_at rfl 79 _ rfl ⟨bb, bo + k * 9, none⟩ rfl #[.string p.1, .int .i64 p.2.1.1, .string p.2.1.2.1, .int .i64 p.2.1.2.2.1, .int .i64 p.2.1.2.2.2, .int .i64 p.2.2.1, .string p.2.2.2.1, .int .i64 p.2.2.2.2.1, .int .i64 p.2.2.2.2.2] _ HW.out Tryd.underlying79 rfl (lg_info p) ?_)
  have hL : Bk ((w.alloc (.cells #[.string h.1, .string h.2.1, .int .i64 h.2.2.1, .int .i64 h.2.2.2, .slice (some ⟨bb, bo, none⟩) l.length cap] 33)).alloc (.cells #[.string p.1, .int .i64 p.2.1.1, .string p.2.1.2.1, .int .i64 p.2.1.2.2.1, .int .i64 p.2.1.2.2.2, .int .i64 p.2.2.1, .string p.2.2.2.1, .int .i64 p.2.2.2.2.1, .int .i64 p.2.2.2.2.2] 79)) (w.heap.size + 1) 79 (lgC p) := Bk.newAt (by simp) _ _
  have hG := hGH.alloc (.cells #[.string p.1, .int .i64 p.2.1.1, .string p.2.1.2.1, .int .i64 p.2.1.2.2.1, .int .i64 p.2.1.2.2.2, .int .i64 p.2.2.1, .string p.2.2.2.1, .int .i64 p.2.2.2.2.1, .int .i64 p.2.2.2.2.2] 79)
  have hH := hH.alloc (.cells #[.string p.1, .int .i64 p.2.1.1, .string p.2.1.2.1, .int .i64 p.2.1.2.2.1, .int .i64 p.2.1.2.2.2, .int .i64 p.2.2.1, .string p.2.2.2.1, .int .i64 p.2.2.2.2.1, .int .i64 p.2.2.2.2.2] 79)
  clear HW hGH HR
  generalize (w.alloc (.cells #[.string h.1, .string h.2.1, .int .i64 h.2.2.1, .int .i64 h.2.2.2, .slice (some ⟨bb, bo, none⟩) l.length cap] 33)).alloc (.cells #[.string p.1, .int .i64 p.2.1.1, .string p.2.1.2.1, .int .i64 p.2.1.2.2.1, .int .i64 p.2.1.2.2.2, .int .i64 p.2.2.1, .string p.2.2.2.1, .int .i64 p.2.2.2.2.1, .int .i64 p.2.2.2.2.2] 79) = w2 at hL hG hH ⊢
  go_wp2_with (refine wpList_load_row rfl 79 _ rfl (w.heap.size + 1) rfl 79 #[.string p.1, .int .i64 p.2.1.1, .string p.2.1.2.1, .int .i64 p.2.1.2.2.1, .int .i64 p.2.1.2.2.2, .int .i64 p.2.2.1, .string p.2.2.2.1, .int .i64 p.2.2.2.2.1, .int .i64 p.2.2.2.2.2] (0, 0) _ hL Tryd.underlying79 rfl (lg_info p) ?_)
  refine (isOut_c p _).mono ?_; rintro e w3 ⟨rfl, hG3⟩
  have hL := hL.quiet hG3
  have hH := hH.quiet hG3
  have hG := hG.trans hG3
  clear hG3
  have HP := Lib.hid (hL.part 5 #[.int .i64 p.2.2.1, .string p.2.2.2.1, .int .i64 p.2.2.2.2.1, .int .i64 p.2.2.2.2.2] (lg_in p))
  have c1 : w3.cell? ⟨w.heap.size + 1, 1, none⟩ = some (.int .i64 p.2.1.1) := hL.cell 1
  have c5 : w3.cell? ⟨w.heap.size + 1, 5, none⟩ = some (.int .i64 p.2.2.1) := hL.cell 5
  have d4 : w3.cell? ⟨w.heap.size, 4, none⟩ = some (.slice (some ⟨bb, bo, none⟩) l.length cap) := hH.cell 4
  clear hH
  by_cases k1 : p.2.2.1 = -1
  · have k1' : (p.2.2.1 == -1) = true := by simpa using k1
    rw [k1']
    have HN := fun w : World => rg_neq p.2.2 noIn w
    by_cases k2 : p.2.2 = noIn
    · have HNN : Hid (∀ w : World, (binOp .neq 37 (.agg #[.int .i64 p.2.2.1, .string p.2.2.2.1, .int .i64 p.2.2.2.2.1, .int .i64 p.2.2.2.2.2]) (.agg #[.int .i64 (-1), .string ⟨#[]⟩, .int .i64 0, .int .i64 0])).run Tryd.prog w = .ok (.bool false) w) := Lib.hid fun w => by
        have := HN w
        rw [decide_eq_true k2] at this
        exact this
      have hnn := HNN.out
      have HE : Hid (E = if decide (l.length ≤ k + 1) = true then 0 else 11) := Lib.hid (by rw [HE.out, if_pos k1, if_pos k2])
      have hl1 : IntKind.i64.wrap ((l.length : Int) - 1) = (l.length : Int) - 1 := by rw [IntKind.wrap_i64]; omega
      clear k1 k1' k2 HN HNN
      by_cases k3 : l.length ≤ k + 1
      · have HF : Hid (E = 0) := Lib.hid (by rw [HE.out, if_pos (decide_eq_true k3)])
        have k3' : ¬ ((k : Int) < (l.length : Int) - 1) := by omega
        clear k3
        go_wp2_with (refine wpList_load_at rfl 37 _ rfl ⟨w.heap.size + 1, 5, none⟩ rfl #[.int .i64 p.2.2.1, .string p.2.2.2.1, .int .i64 p.2.2.2.2.1, .int .i64 p.2.2.2.2.2] _ HP.out Tryd.underlying37 rfl (rg_info p.2.2) ?_)
        go_ret
        exact ⟨ret_int HF.out.symm, hG⟩
      · have HF : Hid (E = 11) := Lib.hid (by rw [HE.out, if_neg (by simpa using k3)])
        have k3' : (k : Int) < (l.length : Int) - 1 := by omega
        clear k3
        go_wp2_with (refine wpList_load_at rfl 37 _ rfl ⟨w.heap.size + 1, 5, none⟩ rfl #[.int .i64 p.2.2.1, .string p.2.2.2.1, .int .i64 p.2.2.2.2.1, .int .i64 p.2.2.2.2.2] _ HP.out Tryd.underlying37 rfl (rg_info p.2.2) ?_)
        go_ret
        exact ⟨ret_int HF.out.symm, hG⟩
    · have HNN : Hid (∀ w : World, (binOp .neq 37 (.agg #[.int .i64 p.2.2.1, .string p.2.2.2.1, .int .i64 p.2.2.2.2.1, .int .i64 p.2.2.2.2.2]) (.agg #[.int .i64 (-1), .string ⟨#[]⟩, .int .i64 0, .int .i64 0])).run Tryd.prog w = .ok (.bool true) w) := Lib.hid fun w => by
        have := HN w
        rw [decide_eq_false k2] at this
        exact this
      have hnn := HNN.out
      have HF : Hid (E = 3) := Lib.hid (by rw [HE.out, if_pos k1, if_neg k2])
      clear HE k1 k1' k2 HN HNN
      go_wp2_with (refine wpList_load_at rfl 37 _ rfl ⟨w.heap.size + 1, 5, none⟩ rfl #[.int .i64 p.2.2.1, .string p.2.2.2.1, .int .i64 p.2.2.2.2.1, .int .i64 p.2.2.2.2.2] _ HP.out Tryd.underlying37 rfl (rg_info p.2.2) ?_)
      go_ret
      exact ⟨ret_int HF.out.symm, hG⟩
  · have k1' : (p.2.2.1 == -1) = false := by simpa using k1
    rw [k1']
    have HE : Hid (E = if rgE p.2.2 = 0 then (if p.2.2.1 ≤ p.2.1.1 then 7 else 0) else rgE p.2.2) := Lib.hid (by rw [HE.out, if_neg k1])
    clear k1 k1'
    go_wp2_with (refine wpList_load_at rfl 37 _ rfl ⟨w.heap.size + 1, 5, none⟩ rfl #[.int .i64 p.2.2.1, .string p.2.2.2.1, .int .i64 p.2.2.2.2.1, .int .i64 p.2.2.2.2.2] _ HP.out Tryd.underlying37 rfl (rg_info p.2.2) ?_)
    refine (checkReading_c p.2.2 _ hs).mono ?_; rintro e w4 ⟨rfl, hG4⟩
    have hL := hL.quiet hG4
    have hG := hG.trans hG4
    clear hG4 c1 c5 d4 HP
    have c1 : w4.cell? ⟨w.heap.size + 1, 1, none⟩ = some (.int .i64 p.2.1.1) := hL.cell 1
    have c5 : w4.cell? ⟨w.heap.size + 1, 5, none⟩ = some (.int .i64 p.2.2.1) := hL.cell 5
    obtain ⟨R, hR⟩ : ∃ R, rgE p.2.2 = R := ⟨_, rfl⟩
    rw [hR] at HE ⊢
    clear hR
    by_cases k2 : R = 0
    · have HE5 : Hid (E = if p.2.2.1 ≤ p.2.1.1 then 7 else 0) := Lib.hid (by rw [HE.out, if_pos k2])
      subst k2
      by_cases k3 : p.2.2.1 ≤ p.2.1.1
      · have HF : Hid (E = 7) := Lib.hid (by rw [HE5.out, if_pos k3])
        go_wp2_with fail
        go_ret
        exact ⟨ret_int HF.out.symm, hG⟩
      · have HF : Hid (E = 0) := Lib.hid (by rw [HE5.out, if_neg k3])
        go_wp2_with fail
        go_ret
        exact ⟨ret_int HF.out.symm, hG⟩
    · have HF : Hid (E = R) := Lib.hid (by rw [HE.out, if_neg k2])
      have k2' : (R != 0) = true := by simpa using k2
      clear k2
      go_wp2_with fail
      go_ret
      exact ⟨ret_int HF.out.symm, hG⟩
end Go.Proofs.YtdcofbciebkfkaaDoor

/- Hires: checkLeg, Check. -/
namespace Go.Proofs.YtdcofbciebkfkaaDoor
open Go.RowKit

theorem hi_time (h : Hh) (v : Value) : ∀ j u, (#[Value.int .i64 h.2.2.1, .int .i64 h.2.2.2] : Array Value).toList[j]? = some u → (hiC h v)[2 + j]? = some u := fun j u hu => by
  match j, hu with
  | 0, hu => exact hu
  | 1, hu => exact hu
  | n + 2, hu => simp at hu
set_option maxRecDepth 100000 in
set_option maxHeartbeats 4000000 in
theorem checkLeg_c (h : Hh) (v : Value) (l : List Lg) (k : Nat) (p : Lg) (w : World) (hr : RdR w 9 lgC v l) (hp : l[k]? = some p) (hs : lgB p) (hn : l.length ≤ 1000) :
    Calls Tryd.prog 88 #[.agg (hiC h v), .int .i64 k] w fun e w' => e = .returned (.int .i64 (lgE h.2.2.1 (prevAt l k) (l.drop (k + 1)).isEmpty p)) ∧ G w w' none := by
  have hH := Bk.new w 33 (hiC h v)
  have hGH := (G.refl w none).alloc (.cells (hiC h v) 33)
  have hR := hr.quiet hGH
  obtain ⟨a, cap, rfl, hcap, hm⟩ := RdR.form hr
  clear hr
  have hk : k < l.length := (List.getElem?_eq_some_iff.1 hp).1
  have hki : (k : Int) < (l.length : Int) := by omega
  obtain ⟨bb, bo, rfl, -, -⟩ := RdR.elem lgC_sz hR (G.refl _ none) hp
  have HW := Lib.hid (lgRow hR (G.refl _ none) hp)
  have HP := Lib.hid hp
  obtain ⟨hs1, hs2, hs3⟩ := hs
  have hs1' := hs1
  unfold Small at hs1'
  clear hp
  obtain ⟨E, hE⟩ : ∃ E, lgE h.2.2.1 (prevAt l k) (l.drop (k + 1)).isEmpty p = E := ⟨_, rfl⟩
  have HE : Hid (E = if keyB p.1 = false then 5 else if rgE p.2.1 = 0 then (if beE h.2.2.1 (prevAt l k) p = 0 then enE (l.drop (k + 1)).isEmpty p else beE h.2.2.1 (prevAt l k) p) else rgE p.2.1) := Lib.hid hE.symm
  rw [hE]
  clear hE
  simp only [hiC] at hH hGH hR HW ⊢
  go_enter Tryd.func88, Tryd.ntmps88
  go_upto_region 2 with (refine wpList_load_at rfl 79 _ rfl ⟨bb, bo + k * 9, none⟩ rfl #[.string p.1, .int .i64 p.2.1.1, .string p.2.1.2.1, .int .i64 p.2.1.2.2.1, .int .i64 p.2.1.2.2.2, .int .i64 p.2.2.1, .string p.2.2.2.1, .int .i64 p.2.2.2.2.1, .int .i64 p.2.2.2.2.2] _ HW.out Tryd.underlying79 rfl (lg_info p) ?_)
  have hL : Bk ((w.alloc (.cells #[.string h.1, .string h.2.1, .int .i64 h.2.2.1, .int .i64 h.2.2.2, .slice (some ⟨bb, bo, none⟩) l.length cap] 33)).alloc (.cells #[.string p.1, .int .i64 p.2.1.1, .string p.2.1.2.1, .int .i64 p.2.1.2.2.1, .int .i64 p.2.1.2.2.2, .int .i64 p.2.2.1, .string p.2.2.2.1, .int .i64 p.2.2.2.2.1, .int .i64 p.2.2.2.2.2] 79)) (w.heap.size + 1) 79 (lgC p) := Bk.newAt (by simp) _ _
  have hG := hGH.alloc (.cells #[.string p.1, .int .i64 p.2.1.1, .string p.2.1.2.1, .int .i64 p.2.1.2.2.1, .int .i64 p.2.1.2.2.2, .int .i64 p.2.2.1, .string p.2.2.2.1, .int .i64 p.2.2.2.2.1, .int .i64 p.2.2.2.2.2] 79)
  have hH := hH.alloc (.cells #[.string p.1, .int .i64 p.2.1.1, .string p.2.1.2.1, .int .i64 p.2.1.2.2.1, .int .i64 p.2.1.2.2.2, .int .i64 p.2.2.1, .string p.2.2.2.1, .int .i64 p.2.2.2.2.1, .int .i64 p.2.2.2.2.2] 79)
  have hR := hR.quiet ((G.refl _ none).alloc (.cells #[.string p.1, .int .i64 p.2.1.1, .string p.2.1.2.1, .int .i64 p.2.1.2.2.1, .int .i64 p.2.1.2.2.2, .int .i64 p.2.2.1, .string p.2.2.2.1, .int .i64 p.2.2.2.2.1, .int .i64 p.2.2.2.2.2] 79))
  clear HW hGH
  generalize (w.alloc (.cells #[.string h.1, .string h.2.1, .int .i64 h.2.2.1, .int .i64 h.2.2.2, .slice (some ⟨bb, bo, none⟩) l.length cap] 33)).alloc (.cells #[.string p.1, .int .i64 p.2.1.1, .string p.2.1.2.1, .int .i64 p.2.1.2.2.1, .int .i64 p.2.1.2.2.2, .int .i64 p.2.2.1, .string p.2.2.2.1, .int .i64 p.2.2.2.2.1, .int .i64 p.2.2.2.2.2] 79) = w2 at hL hG hH hR ⊢
  have c0 : w2.cell? ⟨w.heap.size + 1, 0, none⟩ = some (.string p.1) := hL.cell 0
  have HO := Lib.hid (hL.part 1 #[.int .i64 p.2.1.1, .string p.2.1.2.1, .int .i64 p.2.1.2.2.1, .int .i64 p.2.1.2.2.2] (lg_out p))
  go_wp2_with fail
  refine (isKey_c _ _ hs1').mono ?_; rintro e w' ⟨rfl, rfl⟩
  cases k1 : keyB p.1 with
  | false =>
    have HF : Hid (E = 5) := Lib.hid (by rw [HE.out, if_pos k1])
    clear k1
    go_wp2_with fail
    go_ret
    exact ⟨ret_int HF.out.symm, hG⟩
  | true =>
    have HE1 : Hid (E = if rgE p.2.1 = 0 then (if beE h.2.2.1 (prevAt l k) p = 0 then enE (l.drop (k + 1)).isEmpty p else beE h.2.2.1 (prevAt l k) p) else rgE p.2.1) := Lib.hid (by rw [HE.out, if_neg (by simp [k1])])
    clear k1 HE
    go_wp2_with (refine wpList_load_at rfl 37 _ rfl ⟨w.heap.size + 1, 1, none⟩ rfl #[.int .i64 p.2.1.1, .string p.2.1.2.1, .int .i64 p.2.1.2.2.1, .int .i64 p.2.1.2.2.2] _ HO.out Tryd.underlying37 rfl (rg_info p.2.1) ?_)
    refine (checkReading_c p.2.1 _ hs2).mono ?_; rintro e w4 ⟨rfl, hG4⟩
    have hL := hL.quiet hG4
    have hH := hH.quiet hG4
    have hR := hR.quiet hG4
    have hG := hG.trans hG4
    clear hG4 c0 HO
    obtain ⟨R, hRR⟩ : ∃ R, rgE p.2.1 = R := ⟨_, rfl⟩
    rw [hRR] at HE1 ⊢
    clear hRR
    by_cases k2 : R = 0
    · have HE2 : Hid (E = if beE h.2.2.1 (prevAt l k) p = 0 then enE (l.drop (k + 1)).isEmpty p else beE h.2.2.1 (prevAt l k) p) := Lib.hid (by rw [HE1.out, if_pos k2])
      subst k2
      clear HE1
      go_wp2_with (refine wpList_load_row rfl 33 _ rfl w.heap.size rfl 33 #[.string h.1, .string h.2.1, .int .i64 h.2.2.1, .int .i64 h.2.2.2, .slice (some ⟨bb, bo, none⟩) l.length cap] (0, 0) _ hH Tryd.underlying33 rfl (hi_info h _) ?_)
      refine (checkBegin_c h _ l k p _ hR HP.out hn).mono ?_; rintro e w5 ⟨rfl, hG5⟩
      have hH := hH.quiet hG5
      have hR := hR.quiet hG5
      have hG := hG.trans hG5
      clear hG5
      obtain ⟨B, hB⟩ : ∃ B, beE h.2.2.1 (prevAt l k) p = B := ⟨_, rfl⟩
      rw [hB] at HE2 ⊢
      clear hB
      by_cases k3 : B = 0
      · have HF : Hid (E = enE (l.drop (k + 1)).isEmpty p) := Lib.hid (by rw [HE2.out, if_pos k3])
        subst k3
        clear HE2
        go_wp2_with (refine wpList_load_row rfl 33 _ rfl w.heap.size rfl 33 #[.string h.1, .string h.2.1, .int .i64 h.2.2.1, .int .i64 h.2.2.2, .slice (some ⟨bb, bo, none⟩) l.length cap] (0, 0) _ hH Tryd.underlying33 rfl (hi_info h _) ?_)
        refine (checkEnd_c h _ l k p _ hR HP.out hs3 hn).mono ?_; rintro e w6 ⟨rfl, hG6⟩
        have hG := hG.trans hG6
        rw [← HF.out]
        go_wp2_with fail
        go_ret
        exact ⟨rfl, hG⟩
      · have HF : Hid (E = B) := Lib.hid (by rw [HE2.out, if_neg k3])
        have k3' : (B != 0) = true := by simpa using k3
        clear k3 HE2
        go_wp2_with fail
        go_ret
        exact ⟨ret_int HF.out.symm, hG⟩
    · have HF : Hid (E = R) := Lib.hid (by rw [HE1.out, if_neg k2])
      have k2' : (R != 0) = true := by simpa using k2
      clear k2 HE1
      go_wp2_with fail
      go_ret
      exact ⟨ret_int HF.out.symm, hG⟩
def LsRel (w : World) (f : Int) (l : List Lg) (i : Value) (wr : World) : Prop :=
  ∃ k : Nat, k ≤ l.length ∧ i = .int .i64 k ∧ lsE f none l = lsE f (prevAt l k) (l.drop k) ∧ G w wr none
set_option maxRecDepth 100000 in
set_option maxHeartbeats 4000000 in
theorem check_c (h : Hh) (v : Value) (l : List Lg) (w : World) (hr : RdR w 9 lgC v l) (hl : LgOk l) (hs1 : Small h.1) (hs2 : Small h.2.1) (hb1 : bnd h.2.2.1) (hb2 : bnd h.2.2.2) (hn : l.length ≤ 1000) :
    Calls Tryd.prog 18 #[.agg (hiC h v)] w fun e w' => e = .returned (.int .i64 (hiE h l)) ∧ G w w' none := by
  have hH := Bk.new w 33 (hiC h v)
  have hG := (G.refl w none).alloc (.cells (hiC h v) 33)
  have hR := hr.quiet hG
  obtain ⟨a, cap, rfl, hcap, hm⟩ := RdR.form hr
  clear hr
  unfold Small at hs1 hs2
  obtain ⟨E, hE⟩ : ∃ E, hiE h l = E := ⟨_, rfl⟩
  have HE : Hid (E = if keyB h.1 = false then 5 else if keyB h.2.1 = false then 5 else if tE h.2.2.1 h.2.2.2 = 0 then (if l.length = 0 then 3 else if 20 < l.length then 2 else lsE h.2.2.1 none l) else tE h.2.2.1 h.2.2.2) := Lib.hid hE.symm
  rw [hE]
  clear hE
  simp only [hiC] at hH hG hR ⊢
  go_enter Tryd.func18, Tryd.ntmps18
  go_upto_region 1 with fail
  generalize w.alloc (.cells #[.string h.1, .string h.2.1, .int .i64 h.2.2.1, .int .i64 h.2.2.2, .slice a l.length cap] 33) = w2 at hG hH hR ⊢
  have hg := hH.lt
  generalize w.heap.size = g at hH hg ⊢
  have c0 : w2.cell? ⟨g, 0, none⟩ = some (.string h.1) := hH.cell 0
  have c1 : w2.cell? ⟨g, 1, none⟩ = some (.string h.2.1) := hH.cell 1
  go_wp2_with fail
  refine (isKey_c _ _ hs1).mono ?_; rintro e w' ⟨rfl, rfl⟩
  cases k1 : keyB h.1 with
  | false =>
    have HF : Hid (E = 5) := Lib.hid (by rw [HE.out, if_pos k1])
    clear k1
    go_wp2_with fail
    go_ret
    exact ⟨ret_int HF.out.symm, hG⟩
  | true =>
    have K1 := Lib.hid k1
    clear k1
    go_wp2_with fail
    refine (isKey_c _ _ hs2).mono ?_; rintro e w' ⟨rfl, rfl⟩
    cases k2 : keyB h.2.1 with
    | false =>
      have HF : Hid (E = 5) := Lib.hid (by rw [HE.out, if_neg (by simp [K1.out]), if_pos k2])
      clear k2
      go_wp2_with fail
      go_ret
      exact ⟨ret_int HF.out.symm, hG⟩
    | true =>
      have HE1 : Hid (E = if tE h.2.2.1 h.2.2.2 = 0 then (if l.length = 0 then 3 else if 20 < l.length then 2 else lsE h.2.2.1 none l) else tE h.2.2.1 h.2.2.2) := Lib.hid (by rw [HE.out, if_neg (by simp [K1.out]), if_neg (by simp [k2])])
      clear k2 HE
      have HT := Lib.hid (hH.part 2 #[.int .i64 h.2.2.1, .int .i64 h.2.2.2] (hi_time h _))
      go_wp2_with (refine wpList_load_at rfl 30 _ rfl ⟨g, 2, none⟩ rfl #[.int .i64 h.2.2.1, .int .i64 h.2.2.2] _ HT.out Tryd.underlying30 rfl (wi_info _ _) ?_)
      refine (days_c _ _ _ hb1 hb2).mono ?_; rintro e w3 ⟨rfl, hG3⟩
      have hH := hH.quiet hG3
      have hR := hR.quiet hG3
      have hG := hG.trans hG3
      clear hG3 c0 c1 HT
      obtain ⟨T, hT⟩ : ∃ T, tE h.2.2.1 h.2.2.2 = T := ⟨_, rfl⟩
      rw [hT] at HE1 ⊢
      clear hT
      generalize tN h.2.2.1 h.2.2.2 = N
      by_cases k3 : T = 0
      · have HE2 : Hid (E = if l.length = 0 then 3 else if 20 < l.length then 2 else lsE h.2.2.1 none l) := Lib.hid (by rw [HE1.out, if_pos k3])
        subst k3
        clear HE1
        have c4 : w3.cell? ⟨g, 4, none⟩ = some (.slice a l.length cap) := hH.cell 4
        by_cases k4 : l.length = 0
        · have HF : Hid (E = 3) := Lib.hid (by rw [HE2.out, if_pos k4])
          have k4' : ((l.length : Int) == 0) = true := by rw [k4]; rfl
          clear k4
          go_wp2_with fail
          go_ret
          exact ⟨ret_int HF.out.symm, hG⟩
        · have k4' : ((l.length : Int) == 0) = false := by rw [beq_eq_false_iff_ne]; omega
          by_cases k5 : 20 < l.length
          · have HF : Hid (E = 2) := Lib.hid (by rw [HE2.out, if_neg k4, if_pos k5])
            have k5' : (20 : Int) < (l.length : Int) := by omega
            clear k5 k4
            go_wp2_with fail
            go_ret
            exact ⟨ret_int HF.out.symm, hG⟩
          · have HE3 : Hid (E = lsE h.2.2.1 none l) := Lib.hid (by rw [HE2.out, if_neg k4, if_neg k5])
            have k5' : ¬ (20 : Int) < (l.length : Int) := by omega
            clear k5 k4 HE2
            have HHH := Lib.hid hH
            have HRR := Lib.hid hR
            clear hH hR
            go_wp2_with fail
            go_loopw [37] (LsRel w3 h.2.2.1 l) (fun i _ => l.length - (intOf i).toNat)
            case atStart => exact ⟨0, by omega, rfl, rfl, G.refl _ _⟩
            case round =>
              obtain ⟨k, hkl, rfl, heq, hGr⟩ := hrel
              have HEq := Lib.hid heq
              clear heq c4
              have hH := HHH.out.quiet hGr
              have hR := HRR.out.quiet hGr
              by_cases hk : k < l.length
              · obtain ⟨p, hp⟩ : ∃ p, l[k]? = some p := ⟨_, List.getElem?_eq_getElem hk⟩
                have hdrop : l.drop k = p :: l.drop (k + 1) := by rw [List.drop_eq_getElem_cons hk, ← (List.getElem?_eq_some_iff.1 hp).2]
                have HS : Hid (lsE h.2.2.1 none l = if lgE h.2.2.1 (prevAt l k) (l.drop (k + 1)).isEmpty p = 0 then lsE h.2.2.1 (some p) (l.drop (k + 1)) else lgE h.2.2.1 (prevAt l k) (l.drop (k + 1)).isEmpty p) := Lib.hid (by rw [HEq.out, hdrop]; rfl)
                have hpb := hl p (List.mem_of_getElem? hp)
                have HP := Lib.hid hp
                have HK := Lib.hid hk
                have hki : (k : Int) < (l.length : Int) := by omega
                clear hdrop hp
                go_wp2_with (refine wpList_load_row rfl 33 _ rfl g rfl 33 #[.string h.1, .string h.2.1, .int .i64 h.2.2.1, .int .i64 h.2.2.2, .slice a l.length cap] (0, 0) _ hH Tryd.underlying33 rfl (hi_info h _) ?_)
                refine (checkLeg_c h _ l k p _ hR HP.out hpb hn).mono ?_; rintro e w5 ⟨rfl, hG5⟩
                have hGr5 := hGr.trans hG5
                clear hG5 hGr hH hR hpb
                obtain ⟨L, hL⟩ : ∃ L, lgE h.2.2.1 (prevAt l k) (l.drop (k + 1)).isEmpty p = L := ⟨_, rfl⟩
                rw [hL] at HS ⊢
                clear hL
                by_cases k6 : L = 0
                · have HF : Hid (lsE h.2.2.1 none l = lsE h.2.2.1 (prevAt l (k + 1)) (l.drop (k + 1))) := Lib.hid (by rw [HS.out, if_pos k6, prevAt_succ l k p HP.out])
                  subst k6
                  clear HS
                  go_wp2_with fail
                  go_roundw
                  case rel => exact ⟨k + 1, by omega, by go_num, HF.out, hGr5⟩
                  case measure => have := HK.out; simp [intOf]; omega
                · have HF : Hid (E = L) := Lib.hid (by rw [HE3.out, HS.out, if_neg k6])
                  have k6' : (L != 0) = true := by simpa using k6
                  clear k6 HS
                  go_wp2_with fail
                  go_ret
                  exact ⟨ret_int HF.out.symm, hG.trans hGr5⟩
              · obtain rfl : k = l.length := by omega
                have HF : Hid (E = 0) := Lib.hid (by rw [HE3.out, HEq.out, List.drop_length]; rfl)
                go_wp2_with fail
                go_ret
                exact ⟨ret_int HF.out.symm, hG.trans hGr⟩
      · have HF : Hid (E = T) := Lib.hid (by rw [HE1.out, if_neg k3])
        have k3' : (T != 0) = true := by simpa using k3
        clear k3 HE1
        go_wp2_with fail
        go_ret
        exact ⟨ret_int HF.out.symm, hG⟩
end Go.Proofs.YtdcofbciebkfkaaDoor

/- Hires: the reference's readingFault, legFault, HireFault. -/
namespace Go.Proofs.YtdcofbciebkfkaaDoor
open Go.RowKit

set_option maxRecDepth 100000 in
set_option maxHeartbeats 2000000 in
theorem readingFault_c (x : Rg) (w : World) (hs : Small x.2.1) :
    Calls Tryd.prog 138 #[.agg (rgC x)] w fun e w' => e = .returned (.int .i64 (rgE x)) ∧ G w w' none := by
  have hG1 := (G.refl w none).alloc (.cells (rgC x) 37)
  have hB1 := Bk.new w 37 (rgC x)
  unfold Small at hs
  obtain ⟨t, s, m, f⟩ := x
  simp only [rgC] at hG1 hB1 hs ⊢
  have HE : Hid (rgE (t, s, m, f) = if momB t = false then 1 else if keyB s = false then 5 else if inB m 0 999999 = false then 1 else if inB f 0 8 = false then 1 else 0) := Lib.hid rfl
  generalize rgE (t, s, m, f) = R at HE ⊢
  go_enter Tryd.func138, Tryd.ntmps138
  go_wp2_with fail
  refine (rMoment_c t _).mono ?_; rintro e w1 ⟨rfl, rfl⟩
  cases k1 : momB t with
  | false =>
    have HF : Hid (R = 1) := Lib.hid (by rw [HE.out, if_pos k1])
    clear k1
    go_wp2_with fail
    go_ret
    exact ⟨ret_int HF.out.symm, hG1⟩
  | true =>
    have HE : Hid (R = if keyB s = false then 5 else if inB m 0 999999 = false then 1 else if inB f 0 8 = false then 1 else 0) := Lib.hid (by rw [HE.out, if_neg (by simp [k1])])
    clear k1
    go_wp2_with fail
    refine (rkey_c s _ hs).mono ?_; rintro e w1 ⟨rfl, hGk⟩
    have hB1 := hB1.quiet hGk
    have hG1 := hG1.trans hGk
    clear hGk
    have d2 : w1.cell? ⟨w.heap.size, 2, none⟩ = some (.int .i64 m) := hB1.cell 2
    have d3 : w1.cell? ⟨w.heap.size, 3, none⟩ = some (.int .i64 f) := hB1.cell 3
    cases k2 : keyB s with
    | false =>
      have HF : Hid (R = 5) := Lib.hid (by rw [HE.out, if_pos k2])
      clear k2
      go_wp2_with fail
      go_ret
      exact ⟨ret_int HF.out.symm, hG1⟩
    | true =>
      have HE : Hid (R = if inB m 0 999999 = false then 1 else if inB f 0 8 = false then 1 else 0) := Lib.hid (by rw [HE.out, if_neg (by simp [k2])])
      clear k2
      go_wp2_with fail
      refine (in_c m 0 999999 _).mono ?_; rintro e w1 ⟨rfl, rfl⟩
      cases k3 : inB m 0 999999 with
      | false =>
        have HF : Hid (R = 1) := Lib.hid (by rw [HE.out, if_pos k3])
        clear k3
        go_wp2_with fail
        go_ret
        exact ⟨ret_int HF.out.symm, hG1⟩
      | true =>
        have HE : Hid (R = if inB f 0 8 = false then 1 else 0) := Lib.hid (by rw [HE.out, if_neg (by simp [k3])])
        clear k3
        go_wp2_with fail
        refine (in_c f 0 8 _).mono ?_; rintro e w1 ⟨rfl, rfl⟩
        cases k4 : inB f 0 8 with
        | false =>
          have HF : Hid (R = 1) := Lib.hid (by rw [HE.out, if_pos k4])
          clear k4
          go_wp2_with fail
          go_ret
          exact ⟨ret_int HF.out.symm, hG1⟩
        | true =>
          have HF : Hid (R = 0) := Lib.hid (by rw [HE.out, if_neg (by simp [k4])])
          clear k4
          go_wp2_with fail
          go_ret
          exact ⟨ret_int HF.out.symm, hG1⟩
set_option maxRecDepth 100000 in
set_option maxHeartbeats 8000000 in
theorem legFault_c (h : Hh) (v : Value) (l : List Lg) (k : Nat) (p : Lg) (w : World) (hr : RdR w 9 lgC v l) (hp : l[k]? = some p) (hs : lgB p) (hn : l.length ≤ 1000) :
    Calls Tryd.prog 83 #[.agg (hiC h v), .int .i64 k] w fun e w' => e = .returned (.int .i64 (lgE h.2.2.1 (prevAt l k) (l.drop (k + 1)).isEmpty p)) ∧ G w w' none := by
  have hH := Bk.new w 33 (hiC h v)
  have hGH := (G.refl w none).alloc (.cells (hiC h v) 33)
  have hR := hr.quiet hGH
  obtain ⟨a, cap, rfl, hcap, hm⟩ := RdR.form hr
  clear hr
  have hk : k < l.length := (List.getElem?_eq_some_iff.1 hp).1
  have hki : (k : Int) < (l.length : Int) := by omega
  obtain ⟨bb, bo, rfl, -, -⟩ := RdR.elem lgC_sz hR (G.refl _ none) hp
  have HW := Lib.hid (lgRow hR (G.refl _ none) hp)
  obtain ⟨hs1, hs2, hs3⟩ := hs
  have hs1' := hs1
  unfold Small at hs1'
  clear hp
  obtain ⟨E, hE⟩ : ∃ E, lgE h.2.2.1 (prevAt l k) (l.drop (k + 1)).isEmpty p = E := ⟨_, rfl⟩
  have HE : Hid (E = if keyB p.1 = false then 5 else if rgE p.2.1 = 0 then (if beE h.2.2.1 (prevAt l k) p = 0 then enE (l.drop (k + 1)).isEmpty p else beE h.2.2.1 (prevAt l k) p) else rgE p.2.1) := Lib.hid hE.symm
  rw [hE]
  clear hE
  simp only [hiC] at hH hGH hR HW ⊢
  go_enter Tryd.func83, Tryd.ntmps83
  go_upto_region 2 with (refine wpList_load_at rfl 79 _ rfl ⟨bb, bo + k * 9, none⟩ rfl #[.string p.1, .int .i64 p.2.1.1, .string p.2.1.2.1, .int .i64 p.2.1.2.2.1, .int .i64 p.2.1.2.2.2, .int .i64 p.2.2.1, .string p.2.2.2.1, .int .i64 p.2.2.2.2.1, .int .i64 p.2.2.2.2.2] _ HW.out Tryd.underlying79 rfl (lg_info p) ?_)
  have hL : Bk ((w.alloc (.cells #[.string h.1, .string h.2.1, .int .i64 h.2.2.1, .int .i64 h.2.2.2, .slice (some ⟨bb, bo, none⟩) l.length cap] 33)).alloc (.cells #[.string p.1, .int .i64 p.2.1.1, .string p.2.1.2.1, .int .i64 p.2.1.2.2.1, .int .i64 p.2.1.2.2.2, .int .i64 p.2.2.1, .string p.2.2.2.1, .int .i64 p.2.2.2.2.1, .int .i64 p.2.2.2.2.2] 79)) (w.heap.size + 1) 79 (lgC p) := Bk.newAt (by simp) _ _
  have hG := hGH.alloc (.cells #[.string p.1, .int .i64 p.2.1.1, .string p.2.1.2.1, .int .i64 p.2.1.2.2.1, .int .i64 p.2.1.2.2.2, .int .i64 p.2.2.1, .string p.2.2.2.1, .int .i64 p.2.2.2.2.1, .int .i64 p.2.2.2.2.2] 79)
  have hH := hH.alloc (.cells #[.string p.1, .int .i64 p.2.1.1, .string p.2.1.2.1, .int .i64 p.2.1.2.2.1, .int .i64 p.2.1.2.2.2, .int .i64 p.2.2.1, .string p.2.2.2.1, .int .i64 p.2.2.2.2.1, .int .i64 p.2.2.2.2.2] 79)
  have hR := hR.quiet ((G.refl _ none).alloc (.cells #[.string p.1, .int .i64 p.2.1.1, .string p.2.1.2.1, .int .i64 p.2.1.2.2.1, .int .i64 p.2.1.2.2.2, .int .i64 p.2.2.1, .string p.2.2.2.1, .int .i64 p.2.2.2.2.1, .int .i64 p.2.2.2.2.2] 79))
  clear HW hGH
  generalize (w.alloc (.cells #[.string h.1, .string h.2.1, .int .i64 h.2.2.1, .int .i64 h.2.2.2, .slice (some ⟨bb, bo, none⟩) l.length cap] 33)).alloc (.cells #[.string p.1, .int .i64 p.2.1.1, .string p.2.1.2.1, .int .i64 p.2.1.2.2.1, .int .i64 p.2.1.2.2.2, .int .i64 p.2.2.1, .string p.2.2.2.1, .int .i64 p.2.2.2.2.1, .int .i64 p.2.2.2.2.2] 79) = w2 at hL hG hH hR ⊢
  have c0 : w2.cell? ⟨w.heap.size + 1, 0, none⟩ = some (.string p.1) := hL.cell 0
  go_wp2_with fail
  refine (rkey_c _ _ hs1').mono ?_; rintro e w' ⟨rfl, hGk⟩
  have hL := hL.quiet hGk
  have hH := hH.quiet hGk
  have hR := hR.quiet hGk
  have hG := hG.trans hGk
  clear hGk c0
  have HO := Lib.hid (hL.part 1 #[.int .i64 p.2.1.1, .string p.2.1.2.1, .int .i64 p.2.1.2.2.1, .int .i64 p.2.1.2.2.2] (lg_out p))
  cases k1 : keyB p.1 with
  | false =>
    have HF : Hid (E = 5) := Lib.hid (by rw [HE.out, if_pos k1])
    clear k1
    go_wp2_with fail
    go_ret
    exact ⟨ret_int HF.out.symm, hG⟩
  | true =>
    have HE1 : Hid (E = if rgE p.2.1 = 0 then (if beE h.2.2.1 (prevAt l k) p = 0 then enE (l.drop (k + 1)).isEmpty p else beE h.2.2.1 (prevAt l k) p) else rgE p.2.1) := Lib.hid (by rw [HE.out, if_neg (by simp [k1])])
    clear k1 HE
    go_wp2_with (refine wpList_load_at rfl 37 _ rfl ⟨w.heap.size + 1, 1, none⟩ rfl #[.int .i64 p.2.1.1, .string p.2.1.2.1, .int .i64 p.2.1.2.2.1, .int .i64 p.2.1.2.2.2] _ HO.out Tryd.underlying37 rfl (rg_info p.2.1) ?_)
    refine (readingFault_c p.2.1 _ hs2).mono ?_; rintro e w4 ⟨rfl, hG4⟩
    have hL := hL.quiet hG4
    have hH := hH.quiet hG4
    have hR := hR.quiet hG4
    have hG := hG.trans hG4
    clear hG4 HO
    obtain ⟨R, hRR⟩ : ∃ R, rgE p.2.1 = R := ⟨_, rfl⟩
    rw [hRR] at HE1 ⊢
    clear hRR
    by_cases k2 : R = 0
    · have HE2 : Hid (E = if beE h.2.2.1 (prevAt l k) p = 0 then enE (l.drop (k + 1)).isEmpty p else beE h.2.2.1 (prevAt l k) p) := Lib.hid (by rw [HE1.out, if_pos k2])
      subst k2
      clear HE1
      obtain ⟨B, hB⟩ : ∃ B, beE h.2.2.1 (prevAt l k) p = B := ⟨_, rfl⟩
      rw [hB] at HE2
      have HBB := Lib.hid hB
      clear hB
      -- the beginning: meets again where it is none
      have c0 : w4.cell? ⟨w.heap.size + 1, 0, none⟩ = some (.string p.1) := hL.cell 0
      have c1 : w4.cell? ⟨w.heap.size + 1, 1, none⟩ = some (.int .i64 p.2.1.1) := hL.cell 1
      have c2 : w4.cell? ⟨w.heap.size + 1, 2, none⟩ = some (.string p.2.1.2.1) := hL.cell 2
      have d2 : w4.cell? ⟨w.heap.size, 2, none⟩ = some (.int .i64 h.2.2.1) := hH.cell 2
      have d4 : w4.cell? ⟨w.heap.size, 4, none⟩ = some (.slice (some ⟨bb, bo, none⟩) l.length cap) := hH.cell 4
      go_upto_if 25 with fail
      go_cut [] from 26 (fun w5 => B = 0 ∧ Bk w5 (w.heap.size + 1) 79 (lgC p) ∧ Bk w5 w.heap.size 33 #[.string h.1, .string h.2.1, .int .i64 h.2.2.1, .int .i64 h.2.2.2, .slice (some ⟨bb, bo, none⟩) l.length cap] ∧ G w w5 none)
      case first =>
        cases k with
        | zero =>
          by_cases hq : p.2.1.1 = h.2.2.1
          · have HF : Hid (B = 0) := Lib.hid (by rw [← HBB.out]; exact if_pos hq)
            go_wp2_with fail
            go_meet
            case rel => exact ⟨HF.out, hL, hH, hG⟩
          · have hB : B = 7 := by rw [← HBB.out]; exact if_neg hq
            have HF : Hid (E = 7) := Lib.hid (by rw [HE2.out, hB, if_neg (by decide)])
            clear hB
            go_wp2_with fail
            go_ret
            exact ⟨ret_int HF.out.symm, hG⟩
        | succ m =>
          obtain ⟨q, hq2⟩ : ∃ q, l[m]? = some q := ⟨_, List.getElem?_eq_getElem (by omega)⟩
          have HA : Hid (B = if p.2.1.1 = q.2.2.1 then (if p.1 = q.1 then 16 else if p.2.1.2.1 = q.2.2.2.1 then 0 else 8) else 7) := Lib.hid (by rw [← HBB.out, prevAt_succ l m q hq2]; rfl)
          have hsub : IntKind.i64.wrap (((m + 1 : Nat) : Int) - 1) = (m : Int) := by rw [show ((m + 1 : Nat) : Int) - 1 = (m : Int) by omega]; rw [IntKind.wrap_i64]; omega
          have hsub2 : IntKind.i64.wrap (m : Int) = (m : Int) := by rw [IntKind.wrap_i64]; omega
          have hsub3 : IntKind.i64.wrap ((m : Int) + 1 - 1) = (m : Int) := by rw [IntKind.wrap_i64]; omega
          have hm0 : (0 : Int) ≤ (m : Int) := Int.natCast_nonneg m
          have hml : (m : Int) < (l.length : Int) := by omega
          have hne : (((m + 1 : Nat) : Int) == 0) = false := by simp; omega
          have hne2 : ((m : Int) + 1 == 0) = false := by simp; omega
          have HW := Lib.hid (lgRow hR (G.refl _ none) hq2)
          have hHH := Lib.hid hH
          clear HBB hq2 c0 c1 c2 d2 hH
          go_upto_region 11 with (refine wpList_load_at rfl 79 _ rfl ⟨bb, bo + m * 9, none⟩ rfl #[.string q.1, .int .i64 q.2.1.1, .string q.2.1.2.1, .int .i64 q.2.1.2.2.1, .int .i64 q.2.1.2.2.2, .int .i64 q.2.2.1, .string q.2.2.2.1, .int .i64 q.2.2.2.2.1, .int .i64 q.2.2.2.2.2] _ HW.out Tryd.underlying79 rfl (lg_info q) ?_)
          have hQ := Bk.new w4 79 (lgC q)
          have hG := hG.alloc (.cells (lgC q) 79)
          have hL := hL.alloc (.cells (lgC q) 79)
          have hH := hHH.out.alloc (.cells (lgC q) 79)
          rw [show #[.string q.1, .int .i64 q.2.1.1, .string q.2.1.2.1, .int .i64 q.2.1.2.2.1, .int .i64 q.2.1.2.2.2, .int .i64 q.2.2.1, .string q.2.2.2.1, .int .i64 q.2.2.2.2.1, .int .i64 q.2.2.2.2.2] = lgC q from rfl]
          generalize w4.alloc (.cells (lgC q) 79) = w3 at hQ hG hL hH ⊢
          generalize w4.heap.size = g at hQ ⊢
          have c0 : w3.cell? ⟨w.heap.size + 1, 0, none⟩ = some (.string p.1) := hL.cell 0
          have c1 : w3.cell? ⟨w.heap.size + 1, 1, none⟩ = some (.int .i64 p.2.1.1) := hL.cell 1
          have c2 : w3.cell? ⟨w.heap.size + 1, 2, none⟩ = some (.string p.2.1.2.1) := hL.cell 2
          have q0 : w3.cell? ⟨g, 0, none⟩ = some (.string q.1) := hQ.cell 0
          have q5 : w3.cell? ⟨g, 5, none⟩ = some (.int .i64 q.2.2.1) := hQ.cell 5
          have q6 : w3.cell? ⟨g, 6, none⟩ = some (.string q.2.2.2.1) := hQ.cell 6
          clear hQ d4
          by_cases k1 : p.2.1.1 = q.2.2.1
          · have HA1 : Hid (B = if p.1 = q.1 then 16 else if p.2.1.2.1 = q.2.2.2.1 then 0 else 8) := Lib.hid (by rw [HA.out, if_pos k1])
            have k1' : (p.2.1.1 != q.2.2.1) = false := by simpa using k1
            clear k1 HA
            by_cases k2 : p.1 = q.1
            · have hB : B = 16 := by rw [HA1.out, if_pos k2]
              have k2' : (p.1.toList == q.1.toList) = true := by rw [k2]; simp
              clear k2
              have HF : Hid (E = 16) := Lib.hid (by rw [HE2.out, hB, if_neg (by decide)])
              clear hB
              go_wp2_with fail
              go_ret
              exact ⟨ret_int HF.out.symm, hG⟩
            · have HA2 : Hid (B = if p.2.1.2.1 = q.2.2.2.1 then 0 else 8) := Lib.hid (by rw [HA1.out, if_neg k2])
              have k2' : (p.1.toList == q.1.toList) = false := by simpa using fun e => k2 (toList_ext e)
              clear k2 HA1
              by_cases k3 : p.2.1.2.1 = q.2.2.2.1
              · have HF : Hid (B = 0) := Lib.hid (by rw [HA2.out, if_pos k3])
                have k3' : (p.2.1.2.1.toList == q.2.2.2.1.toList) = true := by rw [k3]; simp
                have k3n : (p.2.1.2.1.toList != q.2.2.2.1.toList) = false := by rw [k3]; simp
                clear k3
                go_wp2_with fail
                go_meet
                case rel => exact ⟨HF.out, hL, hH, hG⟩
              · have hB : B = 8 := by rw [HA2.out, if_neg k3]
                have k3' : (p.2.1.2.1.toList == q.2.2.2.1.toList) = false := by simpa using fun e => k3 (toList_ext e)
                have k3n : (p.2.1.2.1.toList != q.2.2.2.1.toList) = true := by simpa using fun e => k3 (toList_ext e)
                clear k3
                have HF : Hid (E = 8) := Lib.hid (by rw [HE2.out, hB, if_neg (by decide)])
                clear hB
                go_wp2_with fail
                go_ret
                exact ⟨ret_int HF.out.symm, hG⟩
          · have hB : B = 7 := by rw [HA.out, if_neg k1]
            have k1' : (p.2.1.1 != q.2.2.1) = true := by simpa using k1
            clear k1
            have HF : Hid (E = 7) := Lib.hid (by rw [HE2.out, hB, if_neg (by decide)])
            clear hB
            go_wp2_with fail
            go_ret
            exact ⟨ret_int HF.out.symm, hG⟩
      case rest =>
        obtain ⟨hB0, hL, hH, hG⟩ := hcut
        have HE : Hid (E = if p.2.2.1 = -1 then (if p.2.2 = noIn then (if decide (l.length ≤ k + 1) = true then 0 else 11) else 3) else if rgE p.2.2 = 0 then (if p.2.2.1 ≤ p.2.1.1 then 7 else 0) else rgE p.2.2) := Lib.hid (by rw [HE2.out, if_pos hB0, drop_empty]; rfl)
        clear hB0 HE2 HBB c0 c1 c2 d2 d4 hR
        generalize wc = w3 at hL hH hG ⊢
        have HP := Lib.hid (hL.part 5 #[.int .i64 p.2.2.1, .string p.2.2.2.1, .int .i64 p.2.2.2.2.1, .int .i64 p.2.2.2.2.2] (lg_in p))
        have c1 : w3.cell? ⟨w.heap.size + 1, 1, none⟩ = some (.int .i64 p.2.1.1) := hL.cell 1
        have c5 : w3.cell? ⟨w.heap.size + 1, 5, none⟩ = some (.int .i64 p.2.2.1) := hL.cell 5
        have d4 : w3.cell? ⟨w.heap.size, 4, none⟩ = some (.slice (some ⟨bb, bo, none⟩) l.length cap) := hH.cell 4
        clear hH
        by_cases k1 : p.2.2.1 = -1
        · have k1' : (p.2.2.1 == -1) = true := by simpa using k1
          have HN := fun w : World => rg_neq p.2.2 noIn w
          by_cases k2 : p.2.2 = noIn
          · have HNN : Hid (∀ w : World, (binOp .neq 37 (.agg #[.int .i64 p.2.2.1, .string p.2.2.2.1, .int .i64 p.2.2.2.2.1, .int .i64 p.2.2.2.2.2]) (.agg #[.int .i64 (-1), .string ⟨#[]⟩, .int .i64 0, .int .i64 0])).run Tryd.prog w = .ok (.bool false) w) := Lib.hid fun w => by
              have := HN w
              rw [decide_eq_true k2] at this
              exact this
            have hnn := HNN.out
            have HE : Hid (E = if decide (l.length ≤ k + 1) = true then 0 else 11) := Lib.hid (by rw [HE.out, if_pos k1, if_pos k2])
            have hl1 : IntKind.i64.wrap ((l.length : Int) - 1) = (l.length : Int) - 1 := by rw [IntKind.wrap_i64]; omega
            clear k1 k2 HN HNN
            by_cases k3 : l.length ≤ k + 1
            · have HF : Hid (E = 0) := Lib.hid (by rw [HE.out, if_pos (decide_eq_true k3)])
              have k3' : ¬ ((k : Int) < (l.length : Int) - 1) := by omega
              clear k3
              go_wp2_with (refine wpList_load_at rfl 37 _ rfl ⟨w.heap.size + 1, 5, none⟩ rfl #[.int .i64 p.2.2.1, .string p.2.2.2.1, .int .i64 p.2.2.2.2.1, .int .i64 p.2.2.2.2.2] _ HP.out Tryd.underlying37 rfl (rg_info p.2.2) ?_)
              go_ret
              exact ⟨ret_int HF.out.symm, hG⟩
            · have HF : Hid (E = 11) := Lib.hid (by rw [HE.out, if_neg (by simpa using k3)])
              have k3' : (k : Int) < (l.length : Int) - 1 := by omega
              clear k3
              go_wp2_with (refine wpList_load_at rfl 37 _ rfl ⟨w.heap.size + 1, 5, none⟩ rfl #[.int .i64 p.2.2.1, .string p.2.2.2.1, .int .i64 p.2.2.2.2.1, .int .i64 p.2.2.2.2.2] _ HP.out Tryd.underlying37 rfl (rg_info p.2.2) ?_)
              go_ret
              exact ⟨ret_int HF.out.symm, hG⟩
          · have HNN : Hid (∀ w : World, (binOp .neq 37 (.agg #[.int .i64 p.2.2.1, .string p.2.2.2.1, .int .i64 p.2.2.2.2.1, .int .i64 p.2.2.2.2.2]) (.agg #[.int .i64 (-1), .string ⟨#[]⟩, .int .i64 0, .int .i64 0])).run Tryd.prog w = .ok (.bool true) w) := Lib.hid fun w => by
              have := HN w
              rw [decide_eq_false k2] at this
              exact this
            have hnn := HNN.out
            have HF : Hid (E = 3) := Lib.hid (by rw [HE.out, if_pos k1, if_neg k2])
            clear HE k1 k2 HN HNN
            go_wp2_with (refine wpList_load_at rfl 37 _ rfl ⟨w.heap.size + 1, 5, none⟩ rfl #[.int .i64 p.2.2.1, .string p.2.2.2.1, .int .i64 p.2.2.2.2.1, .int .i64 p.2.2.2.2.2] _ HP.out Tryd.underlying37 rfl (rg_info p.2.2) ?_)
            go_ret
            exact ⟨ret_int HF.out.symm, hG⟩
        · have k1' : (p.2.2.1 == -1) = false := by simpa using k1
          have HE : Hid (E = if rgE p.2.2 = 0 then (if p.2.2.1 ≤ p.2.1.1 then 7 else 0) else rgE p.2.2) := Lib.hid (by rw [HE.out, if_neg k1])
          clear k1
          go_wp2_with (refine wpList_load_at rfl 37 _ rfl ⟨w.heap.size + 1, 5, none⟩ rfl #[.int .i64 p.2.2.1, .string p.2.2.2.1, .int .i64 p.2.2.2.2.1, .int .i64 p.2.2.2.2.2] _ HP.out Tryd.underlying37 rfl (rg_info p.2.2) ?_)
          refine (readingFault_c p.2.2 _ hs3).mono ?_; rintro e w4 ⟨rfl, hG4⟩
          have hL := hL.quiet hG4
          have hG := hG.trans hG4
          clear hG4 c1 c5 d4 HP
          have c1 : w4.cell? ⟨w.heap.size + 1, 1, none⟩ = some (.int .i64 p.2.1.1) := hL.cell 1
          have c5 : w4.cell? ⟨w.heap.size + 1, 5, none⟩ = some (.int .i64 p.2.2.1) := hL.cell 5
          obtain ⟨R, hR⟩ : ∃ R, rgE p.2.2 = R := ⟨_, rfl⟩
          rw [hR] at HE ⊢
          clear hR
          by_cases k2 : R = 0
          · have HE5 : Hid (E = if p.2.2.1 ≤ p.2.1.1 then 7 else 0) := Lib.hid (by rw [HE.out, if_pos k2])
            subst k2
            by_cases k3 : p.2.2.1 ≤ p.2.1.1
            · have HF : Hid (E = 7) := Lib.hid (by rw [HE5.out, if_pos k3])
              go_wp2_with fail
              go_ret
              exact ⟨ret_int HF.out.symm, hG⟩
            · have HF : Hid (E = 0) := Lib.hid (by rw [HE5.out, if_neg k3])
              go_wp2_with fail
              go_ret
              exact ⟨ret_int HF.out.symm, hG⟩
          · have HF : Hid (E = R) := Lib.hid (by rw [HE.out, if_neg k2])
            have k2' : (R != 0) = true := by simpa using k2
            clear k2
            go_wp2_with fail
            go_ret
            exact ⟨ret_int HF.out.symm, hG⟩
    · have HF : Hid (E = R) := Lib.hid (by rw [HE1.out, if_neg k2])
      have k2' : (R != 0) = true := by simpa using k2
      clear k2 HE1
      go_wp2_with fail
      go_ret
      exact ⟨ret_int HF.out.symm, hG⟩
set_option maxRecDepth 100000 in
set_option maxHeartbeats 4000000 in
theorem hireFault_c (h : Hh) (v : Value) (l : List Lg) (w : World) (hr : RdR w 9 lgC v l) (hl : LgOk l) (hs1 : Small h.1) (hs2 : Small h.2.1) (hb1 : bnd h.2.2.1) (hb2 : bnd h.2.2.2) (hn : l.length ≤ 1000) :
    Calls Tryd.prog 15 #[.agg (hiC h v)] w fun e w' => e = .returned (.int .i64 (hiE h l)) ∧ G w w' none := by
  have hH := Bk.new w 33 (hiC h v)
  have hG := (G.refl w none).alloc (.cells (hiC h v) 33)
  have hR := hr.quiet hG
  obtain ⟨a, cap, rfl, hcap, hm⟩ := RdR.form hr
  clear hr
  unfold Small at hs1 hs2
  obtain ⟨E, hE⟩ : ∃ E, hiE h l = E := ⟨_, rfl⟩
  have HE : Hid (E = if keyB h.1 = false then 5 else if keyB h.2.1 = false then 5 else if tE h.2.2.1 h.2.2.2 = 0 then (if l.length = 0 then 3 else if 20 < l.length then 2 else lsE h.2.2.1 none l) else tE h.2.2.1 h.2.2.2) := Lib.hid hE.symm
  rw [hE]
  clear hE
  simp only [hiC] at hH hG hR ⊢
  go_enter Tryd.func15, Tryd.ntmps15
  go_upto_region 1 with fail
  generalize w.alloc (.cells #[.string h.1, .string h.2.1, .int .i64 h.2.2.1, .int .i64 h.2.2.2, .slice a l.length cap] 33) = w2 at hG hH hR ⊢
  have hg := hH.lt
  generalize w.heap.size = g at hH hg ⊢
  have c0 : w2.cell? ⟨g, 0, none⟩ = some (.string h.1) := hH.cell 0
  have c1 : w2.cell? ⟨g, 1, none⟩ = some (.string h.2.1) := hH.cell 1
  go_wp2_with fail
  refine (rkey_c _ _ hs1).mono ?_; rintro e w' ⟨rfl, hGk⟩
  have hH := hH.quiet hGk
  have hR := hR.quiet hGk
  have hG := hG.trans hGk
  clear hGk c0 c1
  have c1 : w'.cell? ⟨g, 1, none⟩ = some (.string h.2.1) := hH.cell 1
  cases k1 : keyB h.1 with
  | false =>
    have HF : Hid (E = 5) := Lib.hid (by rw [HE.out, if_pos k1])
    clear k1
    go_wp2_with fail
    go_ret
    exact ⟨ret_int HF.out.symm, hG⟩
  | true =>
    have K1 := Lib.hid k1
    clear k1
    go_wp2_with fail
    refine (rkey_c _ _ hs2).mono ?_; rintro e w4 ⟨rfl, hGk⟩
    have hH := hH.quiet hGk
    have hR := hR.quiet hGk
    have hG := hG.trans hGk
    clear hGk c1
    cases k2 : keyB h.2.1 with
    | false =>
      have HF : Hid (E = 5) := Lib.hid (by rw [HE.out, if_neg (by simp [K1.out]), if_pos k2])
      clear k2
      go_wp2_with fail
      go_ret
      exact ⟨ret_int HF.out.symm, hG⟩
    | true =>
      have HE1 : Hid (E = if tE h.2.2.1 h.2.2.2 = 0 then (if l.length = 0 then 3 else if 20 < l.length then 2 else lsE h.2.2.1 none l) else tE h.2.2.1 h.2.2.2) := Lib.hid (by rw [HE.out, if_neg (by simp [K1.out]), if_neg (by simp [k2])])
      clear k2 HE
      have HT := Lib.hid (hH.part 2 #[.int .i64 h.2.2.1, .int .i64 h.2.2.2] (hi_time h _))
      go_wp2_with (refine wpList_load_at rfl 30 _ rfl ⟨g, 2, none⟩ rfl #[.int .i64 h.2.2.1, .int .i64 h.2.2.2] _ HT.out Tryd.underlying30 rfl (wi_info _ _) ?_)
      refine (timeFault_c _ _ _ hb1 hb2).mono ?_; rintro e w3 ⟨rfl, hG3⟩
      have hH := hH.quiet hG3
      have hR := hR.quiet hG3
      have hG := hG.trans hG3
      clear hG3 HT
      obtain ⟨T, hT⟩ : ∃ T, tE h.2.2.1 h.2.2.2 = T := ⟨_, rfl⟩
      rw [hT] at HE1 ⊢
      clear hT
      by_cases k3 : T = 0
      · have HE2 : Hid (E = if l.length = 0 then 3 else if 20 < l.length then 2 else lsE h.2.2.1 none l) := Lib.hid (by rw [HE1.out, if_pos k3])
        subst k3
        clear HE1
        have c4 : w3.cell? ⟨g, 4, none⟩ = some (.slice a l.length cap) := hH.cell 4
        by_cases k4 : l.length = 0
        · have HF : Hid (E = 3) := Lib.hid (by rw [HE2.out, if_pos k4])
          have k4' : ((l.length : Int) == 0) = true := by rw [k4]; rfl
          clear k4
          go_wp2_with fail
          go_ret
          exact ⟨ret_int HF.out.symm, hG⟩
        · have k4' : ((l.length : Int) == 0) = false := by rw [beq_eq_false_iff_ne]; omega
          by_cases k5 : 20 < l.length
          · have HF : Hid (E = 2) := Lib.hid (by rw [HE2.out, if_neg k4, if_pos k5])
            have k5' : (20 : Int) < (l.length : Int) := by omega
            clear k5 k4
            go_wp2_with fail
            go_ret
            exact ⟨ret_int HF.out.symm, hG⟩
          · have HE3 : Hid (E = lsE h.2.2.1 none l) := Lib.hid (by rw [HE2.out, if_neg k4, if_neg k5])
            have k5' : ¬ (20 : Int) < (l.length : Int) := by omega
            clear k5 k4 HE2
            have HHH := Lib.hid hH
            have HRR := Lib.hid hR
            clear hH hR
            go_wp2_with fail
            go_loopw [35] (LsRel w3 h.2.2.1 l) (fun i _ => l.length - (intOf i).toNat)
            case atStart => exact ⟨0, by omega, rfl, rfl, G.refl _ _⟩
            case round =>
              obtain ⟨k, hkl, rfl, heq, hGr⟩ := hrel
              have HEq := Lib.hid heq
              clear heq c4
              have hH := HHH.out.quiet hGr
              have hR := HRR.out.quiet hGr
              by_cases hk : k < l.length
              · obtain ⟨p, hp⟩ : ∃ p, l[k]? = some p := ⟨_, List.getElem?_eq_getElem hk⟩
                have hdrop : l.drop k = p :: l.drop (k + 1) := by rw [List.drop_eq_getElem_cons hk, ← (List.getElem?_eq_some_iff.1 hp).2]
                have HS : Hid (lsE h.2.2.1 none l = if lgE h.2.2.1 (prevAt l k) (l.drop (k + 1)).isEmpty p = 0 then lsE h.2.2.1 (some p) (l.drop (k + 1)) else lgE h.2.2.1 (prevAt l k) (l.drop (k + 1)).isEmpty p) := Lib.hid (by rw [HEq.out, hdrop]; rfl)
                have hpb := hl p (List.mem_of_getElem? hp)
                have HP := Lib.hid hp
                have HK := Lib.hid hk
                have hki : (k : Int) < (l.length : Int) := by omega
                clear hdrop hp
                go_wp2_with (refine wpList_load_row rfl 33 _ rfl g rfl 33 #[.string h.1, .string h.2.1, .int .i64 h.2.2.1, .int .i64 h.2.2.2, .slice a l.length cap] (0, 0) _ hH Tryd.underlying33 rfl (hi_info h _) ?_)
                refine (legFault_c h _ l k p _ hR HP.out hpb hn).mono ?_; rintro e w5 ⟨rfl, hG5⟩
                have hGr5 := hGr.trans hG5
                clear hG5 hGr hH hR hpb
                obtain ⟨L, hL⟩ : ∃ L, lgE h.2.2.1 (prevAt l k) (l.drop (k + 1)).isEmpty p = L := ⟨_, rfl⟩
                rw [hL] at HS ⊢
                clear hL
                by_cases k6 : L = 0
                · have HF : Hid (lsE h.2.2.1 none l = lsE h.2.2.1 (prevAt l (k + 1)) (l.drop (k + 1))) := Lib.hid (by rw [HS.out, if_pos k6, prevAt_succ l k p HP.out])
                  subst k6
                  clear HS
                  go_wp2_with fail
                  go_roundw
                  case rel => exact ⟨k + 1, by omega, by go_num, HF.out, hGr5⟩
                  case measure => have := HK.out; simp [intOf]; omega
                · have HF : Hid (E = L) := Lib.hid (by rw [HE3.out, HS.out, if_neg k6])
                  have k6' : (L != 0) = true := by simpa using k6
                  clear k6 HS
                  go_wp2_with fail
                  go_ret
                  exact ⟨ret_int HF.out.symm, hG.trans hGr5⟩
              · obtain rfl : k = l.length := by omega
                have HF : Hid (E = 0) := Lib.hid (by rw [HE3.out, HEq.out, List.drop_length]; rfl)
                go_wp2_with fail
                go_ret
                exact ⟨ret_int HF.out.symm, hG.trans hGr⟩
      · have HF : Hid (E = T) := Lib.hid (by rw [HE1.out, if_neg k3])
        have k3' : (T != 0) = true := by simpa using k3
        clear k3 HE1
        go_wp2_with fail
        go_ret
        exact ⟨ret_int HF.out.symm, hG⟩
end Go.Proofs.YtdcofbciebkfkaaDoor

/- Hires: openLeg, right, Start; made, StartOf. -/
namespace Go.Proofs.YtdcofbciebkfkaaDoor
open Go.RowKit

def hiZ : Array Value := hiC (⟨#[]⟩, ⟨#[]⟩, 0, 0) (.slice none 0 0)
/-- What is returned of a hire: itself, or none. -/
def hiH (E : Int) (h : Hh) : Hh := if E = 0 then h else (⟨#[]⟩, ⟨#[]⟩, 0, 0)
def hiL (E : Int) (l : List Lg) : List Lg := if E = 0 then l else []
def MadePost (h : Hh) (l : List Lg) (B : Nat → Prop) (w : World) (e : Ending) (w' : World) : Prop :=
  ∃ (H : Hh) (a : Option Addr) (n c : Nat), e = .returned (.tuple #[.agg #[.string H.1, .string H.2.1, .int .i64 H.2.2.1, .int .i64 H.2.2.2, .slice a n c], .int .i64 (hiE h l)]) ∧ H = hiH (hiE h l) h ∧ (∀ k, (Value.slice a n c).ownBlock = some k → B k) ∧ RdR w' 9 lgC (.slice a n c) (hiL (hiE h l) l) ∧ G w w' none
/-- A row's block is there. -/
theorem Rd.blk {w : World} {z : Nat} {v : Value} {n : Nat} {cs : List Value} (h : Rd w z v n cs) : ∀ k, v.ownBlock = some k → k < w.heap.size := by
  obtain ⟨a, c, rfl, h1, h2, h3, h4, h5⟩ := h
  intro k hk
  cases a with
  | none => cases hk
  | some b =>
    have := (h5 b rfl).2.1
    cases hk
    exact this
theorem hi_one (h : Hh) (a : Option Addr) (n c : Nat) : (hiC h (.slice a n c)).all (·.oneCell') = true := by simp [hiC, Value.oneCell']
theorem lg_one (x : Lg) : (lgC x).all (·.oneCell') = true := by simp [lgC, Value.oneCell']
/-- Two results, the first a struct that lies in memory. -/
theorem results_cell_hi {P : Program} {fn : Func} {p u : Tmp} {ty : TypeId} (h : fn.results = #[.cell p ty, .tmp u]) (tmps : Array Value) (w : World) (g : Nat) (t : TypeId) (cs : Array Value) (fr : Nat × Nat) (d : TypeDesc)
    (hp : tmps.getD p undef = .pointer (some ⟨g, 0, none⟩)) (hg : w.heap[g]? = some (.cells cs t fr))
    (hu : P.underlying ty = some d) (hd : (match d with | .struct _ | .array _ _ => true | _ => false) = true) (hi : (P.info? ty).map (·.size) = some cs.size) :
    (results fn tmps).run P w = .ok (.tuple #[.agg cs, tmps.getD u undef]) w := by
  have hp' : tmps[p]?.getD undef = .pointer (some ⟨g, 0, none⟩) := by simpa using hp
  simp [results, h, hp', asAddr, run_loadVar_row w g t ty cs fr d hg hu hd hi]
set_option maxRecDepth 100000 in
set_option maxHeartbeats 4000000 in
theorem right_c (h : Hh) (v : Value) (l : List Lg) (w : World) (hr : RdR w 9 lgC v l) (hl : LgOk l) (hs1 : Small h.1) (hs2 : Small h.2.1) (hb1 : bnd h.2.2.1) (hb2 : bnd h.2.2.2) (hn : l.length ≤ 1000) :
    Calls Tryd.prog 89 #[.agg (hiC h v)] w (MadePost h l (fun k => v.ownBlock = some k) w) := by
  have hH := (Bk.new w 33 (hiC h v)).alloc (.cells hiZ 33)
  have hG := ((G.refl w none).alloc (.cells (hiC h v) 33)).alloc (.cells hiZ 33)
  have hZ := Bk.newAt (w := w.alloc (.cells (hiC h v) 33)) (b := w.heap.size + 1) (by simp) 33 hiZ
  have hR := hr.quiet hG
  have HLO := Lib.hid hr.blk
  obtain ⟨a, cap, rfl, hcap, hm⟩ := RdR.form hr
  clear hr
  simp only [hiC, hiZ] at hH hG hR hZ ⊢
  go_enter Tryd.func89, Tryd.ntmps89
  go_upto_region 1 with fail
  generalize (w.alloc (.cells #[.string h.1, .string h.2.1, .int .i64 h.2.2.1, .int .i64 h.2.2.2, .slice a l.length cap] 33)).alloc (.cells #[.string ⟨#[]⟩, .string ⟨#[]⟩, .int .i64 0, .int .i64 0, .slice none 0 0] 33) = w2 at hG hH hR hZ ⊢
  go_wp2_with (refine wpList_load_row rfl 33 _ rfl w.heap.size rfl 33 #[.string h.1, .string h.2.1, .int .i64 h.2.2.1, .int .i64 h.2.2.2, .slice a l.length cap] (0, 0) _ hH Tryd.underlying33 rfl (hi_info h _) ?_)
  refine (check_c h _ l _ hR hl hs1 hs2 hb1 hb2 hn).mono ?_; rintro e w3 ⟨rfl, hG3⟩
  have hH := hH.quiet hG3
  have hZ := hZ.quiet hG3
  have hG := hG.trans hG3
  have hR := hR.quiet hG3
  clear hG3
  obtain ⟨E, hE⟩ : ∃ E, hiE h l = E := ⟨_, rfl⟩
  have HFIN : Hid (hiE h l = E) := Lib.hid hE
  rw [hE]
  clear hE
  by_cases k1 : E = 0
  · subst k1
    go_wp2_with (first | (refine wpList_load_row rfl 33 _ rfl w.heap.size rfl 33 #[.string h.1, .string h.2.1, .int .i64 h.2.2.1, .int .i64 h.2.2.2, .slice a l.length cap] (0, 0) _ hH Tryd.underlying33 rfl (hi_info h _) ?_) | (refine wpList_store_row rfl 33 _ _ rfl (w.heap.size + 1) #[.string h.1, .string h.2.1, .int .i64 h.2.2.1, .int .i64 h.2.2.2, .slice a l.length cap] rfl rfl 33 _ hZ (hi_info _ _) rfl (hi_one h _ _ _) ?_))
    refine bodyPost_ret (results_cell_hi rfl _ _ (w.heap.size + 1) 33 #[.string h.1, .string h.2.1, .int .i64 h.2.2.1, .int .i64 h.2.2.2, .slice a l.length cap] (0, 0) _ rfl (hZ.setRow _) Tryd.underlying33 rfl (hi_info h _)) rfl ?_
    exact ⟨h, a, l.length, cap, by rw [HFIN.out]; rfl, by rw [HFIN.out]; rfl, fun _ hk => hk, by rw [HFIN.out]; exact hR.grown ((G.refl w3 (some (w.heap.size + 1))).setRow (.inr rfl) _) (fun k e hk => by cases e; have := HLO.out _ hk; omega), hG.setRow (.inl (by omega)) _⟩
  · have k1' : (E != 0) = true := by simpa using k1
    have K1 := Lib.hid k1
    clear k1
    go_wp2_with (refine wpList_store_row rfl 33 _ _ rfl (w.heap.size + 1) #[.string ⟨#[]⟩, .string ⟨#[]⟩, .int .i64 0, .int .i64 0, .slice none 0 0] rfl rfl 33 _ hZ (hi_info (⟨#[]⟩, ⟨#[]⟩, 0, 0) (.slice none 0 0)) rfl (hi_one (⟨#[]⟩, ⟨#[]⟩, 0, 0) _ _ _) ?_)
    refine bodyPost_ret (results_cell_hi rfl _ _ (w.heap.size + 1) 33 #[.string ⟨#[]⟩, .string ⟨#[]⟩, .int .i64 0, .int .i64 0, .slice none 0 0] (0, 0) _ rfl (hZ.setRow _) Tryd.underlying33 rfl (hi_info (⟨#[]⟩, ⟨#[]⟩, 0, 0) (.slice none 0 0))) rfl ?_
    exact ⟨(⟨#[]⟩, ⟨#[]⟩, 0, 0), none, 0, 0, by rw [HFIN.out]; rfl, by rw [HFIN.out, hiH, if_neg K1.out], fun _ hk => (by cases hk), by rw [HFIN.out, hiL, if_neg K1.out]; exact RdR.nil _ _ _, hG.setRow (.inl (by omega)) _⟩
set_option maxRecDepth 100000 in
set_option maxHeartbeats 4000000 in
theorem made_c (h : Hh) (v : Value) (l : List Lg) (w : World) (hr : RdR w 9 lgC v l) (hl : LgOk l) (hs1 : Small h.1) (hs2 : Small h.2.1) (hb1 : bnd h.2.2.1) (hb2 : bnd h.2.2.2) (hn : l.length ≤ 1000) :
    Calls Tryd.prog 146 #[.agg (hiC h v)] w (MadePost h l (fun k => v.ownBlock = some k) w) := by
  have hH := (Bk.new w 33 (hiC h v)).alloc (.cells hiZ 33)
  have hG := ((G.refl w none).alloc (.cells (hiC h v) 33)).alloc (.cells hiZ 33)
  have hZ := Bk.newAt (w := w.alloc (.cells (hiC h v) 33)) (b := w.heap.size + 1) (by simp) 33 hiZ
  have hR := hr.quiet hG
  have HLO := Lib.hid hr.blk
  obtain ⟨a, cap, rfl, hcap, hm⟩ := RdR.form hr
  clear hr
  simp only [hiC, hiZ] at hH hG hR hZ ⊢
  go_enter Tryd.func146, Tryd.ntmps146
  go_upto_region 1 with fail
  generalize (w.alloc (.cells #[.string h.1, .string h.2.1, .int .i64 h.2.2.1, .int .i64 h.2.2.2, .slice a l.length cap] 33)).alloc (.cells #[.string ⟨#[]⟩, .string ⟨#[]⟩, .int .i64 0, .int .i64 0, .slice none 0 0] 33) = w2 at hG hH hR hZ ⊢
  go_wp2_with (refine wpList_load_row rfl 33 _ rfl w.heap.size rfl 33 #[.string h.1, .string h.2.1, .int .i64 h.2.2.1, .int .i64 h.2.2.2, .slice a l.length cap] (0, 0) _ hH Tryd.underlying33 rfl (hi_info h _) ?_)
  refine (hireFault_c h _ l _ hR hl hs1 hs2 hb1 hb2 hn).mono ?_; rintro e w3 ⟨rfl, hG3⟩
  have hH := hH.quiet hG3
  have hZ := hZ.quiet hG3
  have hG := hG.trans hG3
  have hR := hR.quiet hG3
  clear hG3
  obtain ⟨E, hE⟩ : ∃ E, hiE h l = E := ⟨_, rfl⟩
  have HFIN : Hid (hiE h l = E) := Lib.hid hE
  rw [hE]
  clear hE
  by_cases k1 : E = 0
  · subst k1
    go_wp2_with (first | (refine wpList_load_row rfl 33 _ rfl w.heap.size rfl 33 #[.string h.1, .string h.2.1, .int .i64 h.2.2.1, .int .i64 h.2.2.2, .slice a l.length cap] (0, 0) _ hH Tryd.underlying33 rfl (hi_info h _) ?_) | (refine wpList_store_row rfl 33 _ _ rfl (w.heap.size + 1) #[.string h.1, .string h.2.1, .int .i64 h.2.2.1, .int .i64 h.2.2.2, .slice a l.length cap] rfl rfl 33 _ hZ (hi_info _ _) rfl (hi_one h _ _ _) ?_))
    refine bodyPost_ret (results_cell_hi rfl _ _ (w.heap.size + 1) 33 #[.string h.1, .string h.2.1, .int .i64 h.2.2.1, .int .i64 h.2.2.2, .slice a l.length cap] (0, 0) _ rfl (hZ.setRow _) Tryd.underlying33 rfl (hi_info h _)) rfl ?_
    exact ⟨h, a, l.length, cap, by rw [HFIN.out]; rfl, by rw [HFIN.out]; rfl, fun _ hk => hk, by rw [HFIN.out]; exact hR.grown ((G.refl w3 (some (w.heap.size + 1))).setRow (.inr rfl) _) (fun k e hk => by cases e; have := HLO.out _ hk; omega), hG.setRow (.inl (by omega)) _⟩
  · have k1' : (E != 0) = true := by simpa using k1
    have K1 := Lib.hid k1
    clear k1
    go_wp2_with (refine wpList_store_row rfl 33 _ _ rfl (w.heap.size + 1) #[.string ⟨#[]⟩, .string ⟨#[]⟩, .int .i64 0, .int .i64 0, .slice none 0 0] rfl rfl 33 _ hZ (hi_info (⟨#[]⟩, ⟨#[]⟩, 0, 0) (.slice none 0 0)) rfl (hi_one (⟨#[]⟩, ⟨#[]⟩, 0, 0) _ _ _) ?_)
    refine bodyPost_ret (results_cell_hi rfl _ _ (w.heap.size + 1) 33 #[.string ⟨#[]⟩, .string ⟨#[]⟩, .int .i64 0, .int .i64 0, .slice none 0 0] (0, 0) _ rfl (hZ.setRow _) Tryd.underlying33 rfl (hi_info (⟨#[]⟩, ⟨#[]⟩, 0, 0) (.slice none 0 0))) rfl ?_
    exact ⟨(⟨#[]⟩, ⟨#[]⟩, 0, 0), none, 0, 0, by rw [HFIN.out]; rfl, by rw [HFIN.out, hiH, if_neg K1.out], fun _ hk => (by cases hk), by rw [HFIN.out, hiL, if_neg K1.out]; exact RdR.nil _ _ _, hG.setRow (.inl (by omega)) _⟩
set_option maxRecDepth 100000 in
set_option maxHeartbeats 2000000 in
theorem openLeg_c (s : ByteArray) (r : Rg) (w : World) : Calls Tryd.prog 90 #[.string s, .agg (rgC r)] w fun e w' => e = .returned (.agg (lgC (s, r, noIn))) ∧ G w w' none := by
  have hZ := Bk.newAt (w := w.alloc (.cells (rgC r) 37)) (b := w.heap.size + 1) (by simp) 79 (lgC (⟨#[]⟩, (0, ⟨#[]⟩, 0, 0), (0, ⟨#[]⟩, 0, 0)))
  have hB := (Bk.new w 37 (rgC r)).alloc (.cells (lgC (⟨#[]⟩, (0, ⟨#[]⟩, 0, 0), (0, ⟨#[]⟩, 0, 0))) 79)
  have hG := ((G.refl w none).alloc (.cells (rgC r) 37)).alloc (.cells (lgC (⟨#[]⟩, (0, ⟨#[]⟩, 0, 0), (0, ⟨#[]⟩, 0, 0))) 79)
  obtain ⟨r1, r2, r3, r4⟩ := r
  simp only [rgC, lgC, noIn] at hZ hB hG ⊢
  go_enter Tryd.func90, Tryd.ntmps90
  go_upto_region 1 with fail
  generalize (w.alloc (.cells #[.int .i64 r1, .string r2, .int .i64 r3, .int .i64 r4] 37)).alloc (.cells #[.string ⟨#[]⟩, .int .i64 0, .string ⟨#[]⟩, .int .i64 0, .int .i64 0, .int .i64 0, .string ⟨#[]⟩, .int .i64 0, .int .i64 0] 79) = w2 at hG hB hZ ⊢
  go_wp2_with (first | (refine wpList_load_row rfl 37 _ rfl w.heap.size rfl 37 #[.int .i64 r1, .string r2, .int .i64 r3, .int .i64 r4] (0, 0) _ hB Tryd.underlying37 rfl (rg_info (r1, r2, r3, r4)) ?_) | (refine wpList_store_row rfl 79 _ _ rfl (w.heap.size + 1) #[.string s, .int .i64 r1, .string r2, .int .i64 r3, .int .i64 r4, .int .i64 (-1), .string ⟨#[]⟩, .int .i64 0, .int .i64 0] rfl rfl 79 _ hZ (lg_info (s, (r1, r2, r3, r4), noIn)) rfl (lg_one (s, (r1, r2, r3, r4), noIn)) ?_))
  refine bodyPost_ret (results_cell_row rfl _ _ (w.heap.size + 1) 79 #[.string s, .int .i64 r1, .string r2, .int .i64 r3, .int .i64 r4, .int .i64 (-1), .string ⟨#[]⟩, .int .i64 0, .int .i64 0] (0, 0) _ rfl (hZ.setRow _) Tryd.underlying79 rfl (lg_info (s, (r1, r2, r3, r4), noIn))) rfl ?_
  exact ⟨rfl, hG.setRow (.inl (by omega)) _⟩
end Go.Proofs.YtdcofbciebkfkaaDoor

/- Rows of structs that a call owns, of whatever make; prefixes of lists of strings. No program. -/
namespace Go.Proofs.YtdcofbciebkfkaaDoor
open Go.RowKit

abbrev OwnX {α : Type} (T : TypeId) (z : Nat) (c : α → Array Value) (w : World) (base : Nat) (v : Value) (l : List α) : Prop := w.ownsRow base T z v l.length (rowL c l)
structure RowOk {α : Type} (P : Program) (T TS : TypeId) (z bytes : Nat) (zv : Value) (c : α → Array Value) : Prop where
  row : (P.info? T).map (fun i => (i.zero, i.size, i.bytes)) = some (some zv, z, bytes)
  slice : P.underlying TS = some (.slice T)
  one : ∀ r, ∀ u ∈ (c r).toList, u.oneCell' = true
  sz : ∀ p, (c p).size = z
  zv : zv.cells.size = z
  pos : 0 < z
  few : bytes ≤ 100000
section
variable {α : Type} {T : TypeId} {z : Nat} {c : α → Array Value}
theorem bk_at {w : World} {g : Nat} {cs : Array Value} (h : Bk w g T cs) : ∀ j u, cs.toList[j]? = some u → w.cell? ((⟨g, 0, none⟩ : Addr).add j) = some u := fun j u hu => by
  rw [add_at, Nat.zero_add, h.cell]
  simpa using hu
theorem wp_append_x {P : Program} {TS : TypeId} {bytes : Nat} {zv : Value} (hk : RowOk P T TS z bytes zv c) {w : World} {o : Oper} {a : Act} {K : Act → World → Prop} {Q : Exit → Act → World → Prop} (s x : Operand)
    (ho : o.op = .call { callee := .builtin .append, args := #[s, x], argTypes := #[TS, TS] }) (base : Nat) (v : Value) (l : List α) (hs : a.eval s = v) (hown : OwnX T z c w base v l)
    (g : Nat) (r : α) (hx : a.eval x = .slice (some ⟨g, 0, none⟩) 1 1) (hb : Bk w g T (c r)) (hl : l.length ≤ 1000) (hbase : base ≤ w.heap.size)
    (hK : ∀ v' w', OwnX T z c w' base v' (l ++ [r]) → w.grownBy w' v.ownBlock → K (a.put o.dst v') w') : o.wp P a w K Q := by
  obtain ⟨i0, hi, hz0, hz1, hz2⟩ := info_parts hk.row
  have hm : (l.length + 1) * bytes ≤ 1001 * 100000 := Nat.mul_le_mul (by omega) hk.few
  refine wp_append_own w s x TS ho base T i0 zv z bytes hk.slice hi hz0 hz1 hz2 hk.zv hk.pos v l.length (rowL c l) hs hown ⟨g, 0, none⟩ 1 1 (c r).toList hx (by rw [Array.length_toList, hk.sz, Nat.one_mul]) (bk_at hb) (hk.one r) (by unfold maxLen; omega) (by omega) hbase ?_
  intro v' w' h1 h2 _
  refine hK v' w' ?_ h2
  unfold OwnX
  rw [List.length_append, rowL_snoc]
  exact h1
theorem OwnX.alloc {w : World} {base : Nat} {v : Value} {l : List α} (h : OwnX T z c w base v l) (o : Obj) : OwnX T z c (w.alloc o) base v l := World.ownsRow.alloc h o
theorem OwnX.kept {w w' : World} {base : Nat} {v : Value} {l : List α} {s : Nat} (h : OwnX T z c w base v l) (hg : G w w' (some s)) (hs : s < base) : OwnX T z c w' base v l := by
  refine World.ownsRow.kept h hg (.inr fun e => ?_)
  have := (World.ownsRow.lt h s e).1
  omega
theorem OwnX.quiet {w w' : World} {base : Nat} {v : Value} {l : List α} (h : OwnX T z c w base v l) (hg : G w w' none) : OwnX T z c w' base v l := World.ownsRow.kept h hg (Classical.em _)
theorem OwnX.drew {w : World} {base : Nat} {v : Value} {l : List α} (h : OwnX T z c w base v l) : OwnX T z c w.drew base v l := h.quiet ((G.refl w none).drew)
theorem OwnX.ne {w : World} {base : Nat} {v : Value} {l : List α} (h : OwnX T z c w base v l) {r : Nat} (hr : r < base ∨ w.heap.size ≤ r) : some r ≠ v.ownBlock := fun e => by
  have := World.ownsRow.lt h r e.symm
  omega
theorem OwnX.far {w : World} {base : Nat} {v : Value} {l : List α} (h : OwnX T z c w base v l) {p : Addr} (hp : some p.block ≠ v.ownBlock) (u : Value) : OwnX T z c (w.setCell p u) base v l := World.ownsRow.kept h (grownBy_setCell_row w p u) (.inr hp.symm)
theorem OwnX.low {w : World} {base : Nat} {v : Value} {l : List α} (h : OwnX T z c w base v l) : ∀ r, v.ownBlock = some r → base ≤ r := fun r e => (World.ownsRow.lt h r e).1
theorem OwnX.down {w : World} {base b : Nat} {v : Value} {l : List α} (h : OwnX T z c w base v l) (hb : b ≤ base) : OwnX T z c w b v l := by
  obtain ⟨h1, h2⟩ := h
  rcases h2 with ⟨rfl, h3⟩ | ⟨g, cap, cur, rfl, h3, h4, h5, h6, h7, h8⟩
  · exact ⟨h1, .inl ⟨rfl, h3⟩⟩
  · exact ⟨h1, .inr ⟨g, cap, cur, rfl, Nat.le_trans hb h3, h4, h5, h6, h7, h8⟩⟩
theorem OwnX.set (hz : ∀ p, (c p).size = z) {w : World} {base g n cap : Nat} {l : List α} {k : Nat} {p q : α} (h : w.ownsRow base T z (.slice (some ⟨g, 0, none⟩) n cap) n (rowL c l)) (hp : l[k]? = some p) (j : Nat) (u : Value) (hj : j < z) (hq : (c q).toList = (c p).toList.set j u) :
    (w.setCell ⟨g, k * z + j, none⟩ u).ownsRow base T z (.slice (some ⟨g, 0, none⟩) n cap) n (rowL c (l.set k q)) := by
  rw [← rowL_set hz l k p q hp j u hj hq]
  exact ownsRow_set h _ _
end
/-- The first of a list of strings. -/
theorem rdS_prefix {w : World} {a : Option Addr} {n cap : Nat} {l : List ByteArray} (h : Rd w 1 (.slice a n cap) l.length (l.map Value.string)) (m : Nat) (hm : m ≤ l.length) : Rd w 1 (.slice a m cap) (l.take m).length ((l.take m).map Value.string) := by
  obtain ⟨a', c', e, h1, h2, h3, h4, h5⟩ := h
  obtain ⟨rfl, rfl, rfl⟩ : a = a' ∧ n = l.length ∧ cap = c' := by cases e; exact ⟨rfl, rfl, rfl⟩
  have hlt : (l.take m).length = m := by rw [List.length_take]; omega
  refine ⟨a, cap, by rw [hlt], by omega, h2, by simp, fun e => ⟨by have := (h4 e).1; omega, (h4 e).2⟩, fun b hb => ?_⟩
  obtain ⟨q1, q2, q3⟩ := h5 b hb
  refine ⟨q1, q2, fun j u hj => q3 j u ?_⟩
  rw [List.map_take] at hj
  rw [← hj, List.getElem?_take]
  have hjl := (List.getElem?_eq_some_iff.1 hj).1
  simp at hjl
  rw [if_pos (by omega)]
end Go.Proofs.YtdcofbciebkfkaaDoor

/- Hires: slices.Clone of legs, the last leg, whether it is open; a change to a copy of an open hire. -/
namespace Go.Proofs.YtdcofbciebkfkaaDoor
open Go.RowKit

/-- Nothing that was there has turned, but the blocks of S. -/
structure GS (S : Nat → Prop) (a b : World) : Prop where
  os : b.os = a.os
  tape : b.tape = a.tape
  output : b.output = a.output
  size : a.heap.size ≤ b.heap.size
  block : ∀ k, k < a.heap.size → ¬ S k → b.heap[k]? = a.heap[k]?
theorem GS.of_G {S : Nat → Prop} {a b : World} (h : G a b none) : GS S a b := ⟨h.os, h.tape, h.output, h.size, fun k hk _ => h.block k hk (by simp)⟩
theorem GS.of_Gs {S : Nat → Prop} {a b : World} {s : Nat} (h : G a b (some s)) (hs : S s) : GS S a b := ⟨h.os, h.tape, h.output, h.size, fun k hk hS => h.block k hk (fun e => by cases e; exact hS hs)⟩
theorem GS.trans {S : Nat → Prop} {a b c : World} (h : GS S a b) (k : GS S b c) : GS S a c :=
  ⟨k.os.trans h.os, k.tape.trans h.tape, k.output.trans h.output, Nat.le_trans h.size k.size, fun j hj hS => (k.block j (Nat.lt_of_lt_of_le hj h.size) hS).trans (h.block j hj hS)⟩
theorem GS.mono {S T : Nat → Prop} {a b : World} (h : GS S a b) (hST : ∀ k, k < a.heap.size → S k → T k) : GS T a b := ⟨h.os, h.tape, h.output, h.size, fun k hk hT => h.block k hk (fun hS => hT (hST k hk hS))⟩
/-- The blocks that were written were made since. -/
theorem GS.own {S : Nat → Prop} {A a b : World} (hG : G A a none) (h : GS S a b) (hS : ∀ k, S k → A.heap.size ≤ k) : G A b none :=
  ⟨h.os.trans hG.os, h.tape.trans hG.tape, h.output.trans hG.output, Nat.le_trans hG.size h.size, fun k hk _ => (h.block k (Nat.lt_of_lt_of_le hk hG.size) (fun hs => by have := hS k hs; omega)).trans (hG.block k hk (by simp))⟩
theorem Bk.gs {S : Nat → Prop} {w w' : World} {g : Nat} {T : TypeId} {cs : Array Value} (h : Bk w g T cs) (hg : GS S w w') (hs : ¬ S g) : Bk w' g T cs := (hg.block g h.lt hs).trans h

theorem lg_oneL (r : Lg) : ∀ u ∈ (lgC r).toList, u.oneCell' = true := by
  intro u hu
  simp [lgC] at hu
  rcases hu with rfl | rfl | rfl | rfl | rfl | rfl | rfl | rfl | rfl <;> rfl
theorem lg_rowOk : RowOk Tryd.prog 79 31 9 96 (.agg (lgC (⟨#[]⟩, (0, ⟨#[]⟩, 0, 0), (0, ⟨#[]⟩, 0, 0)))) lgC := ⟨by kernel_rfl, Tryd.underlying31, lg_oneL, lgC_sz, rfl, by omega, by omega⟩
abbrev OwnLg (w : World) (base : Nat) (v : Value) (l : List Lg) : Prop := OwnX 79 9 lgC w base v l
theorem rowL_one {α : Type} {c : α → Array Value} (h : ∀ r, ∀ u ∈ (c r).toList, u.oneCell' = true) (l : List α) : ∀ u ∈ rowL c l, u.oneCell' = true := by
  intro u hu
  obtain ⟨x, _, hx⟩ := List.mem_flatMap.1 hu
  exact h x u hx

set_option maxRecDepth 100000 in
set_option maxHeartbeats 2000000 in
theorem cloneLg_c (v : Value) (l : List Lg) (w : World) (hr : RdR w 9 lgC v l) (hn : l.length ≤ 1000) :
    Calls Tryd.prog 80 #[v] w fun e w' => ∃ v', e = .returned v' ∧ OwnLg w' w.heap.size v' l ∧ G w w' none := by
  have q22 : ∀ (w : World) (a : Option Addr) (n c n' c' : Nat), (binOp .eql 31 (.slice a n c) (.slice none n' c')).run Tryd.prog w = .ok (.bool a.isNone) w := fun w a n c n' c' => Lib.run_eql_slice_nil w _ _ a n c n' c' Tryd.underlying31
  obtain ⟨a, cap, rfl, h1, h2, h3, h4, h5⟩ := hr
  cases a with
  | none =>
    obtain ⟨hz, hc⟩ := h4 rfl
    subst hc
    have hl : l = [] := List.eq_nil_of_length_eq_zero hz
    subst hl
    clear h1 h2 h3 h4 h5 hn
    go_enter Tryd.func80, Tryd.ntmps80
    go_wp2_with fail
    go_ret
    exact ⟨_, rfl, World.ownsRow_nil _ _ _ _, G.refl _ _⟩
  | some ad =>
    obtain ⟨b, o, s⟩ := ad
    obtain ⟨e1, e2, e3⟩ := h5 _ rfl
    dsimp only at e1 e2 e3
    subst e1
    obtain ⟨i0, hi, hz0, hz1, hz2⟩ := info_parts lg_rowOk.row
    have E3 := Lib.hid e3
    clear e3 h4 h5
    go_enter Tryd.func80, Tryd.ntmps80
    go_wp2_with (at_builtin; refine wpList_append_own _ rfl _ _ 31 rfl w.heap.size 79 i0 (.agg (lgC (⟨#[]⟩, (0, ⟨#[]⟩, 0, 0), (0, ⟨#[]⟩, 0, 0)))) 9 96 Tryd.underlying31 hi hz0 hz1 hz2 rfl (by omega) _ _ _ rfl (World.ownsRow_made w #[] 0 (Nat.le_refl _) (Nat.zero_le _) (by simp)) ⟨b, o, none⟩ l.length cap (rowL lgC l) rfl ?qc1 ?qc2 ?qc3 ?qc4 ?qc5 ?qc6 ?_)
    case qc1 => exact h3
    case qc2 =>
      intro j u hj
      rw [add_at]
      exact Lib.cell?_alloc_some _ (E3.out j u hj)
    case qc3 => exact rowL_one lg_oneL l
    case qc4 => unfold maxLen; omega
    case qc5 => omega
    case qc6 => simp
    intro v' w1 hown hgrow hnil
    go_wp2_with fail
    go_ret
    refine ⟨v', rfl, by simpa using hown, ?_⟩
    exact ((G.refl w none).alloc _).other hgrow (fun k hk => by simp [Value.ownBlock] at hk; omega)
/-- Whether the last leg is still out. -/
def ioB (l : List Lg) : Bool := match l[l.length - 1]? with
  | some x => x.2.2.1 == -1
  | none => false
theorem ioB_pos {l : List Lg} (h : ioB l = true) : 0 < l.length := by
  cases l with
  | nil => cases h
  | cons a r => simp
set_option maxRecDepth 100000 in
set_option maxHeartbeats 1000000 in
theorem lastOf_c (h : Hh) (bb bo n cap : Nat) (w : World) (hn : 0 < n) (hn2 : n ≤ 1000) :
    Calls Tryd.prog 93 #[.agg (hiC h (.slice (some ⟨bb, bo, none⟩) n cap))] w fun e w' => e = .returned (.pointer (some ⟨bb, bo + (n - 1) * 9, none⟩)) ∧ G w w' none := by
  have hG := (G.refl w none).alloc (.cells (hiC h (.slice (some ⟨bb, bo, none⟩) n cap)) 33)
  obtain ⟨m, rfl⟩ : ∃ m, n = m + 1 := ⟨n - 1, by omega⟩
  have e1 : m + 1 - 1 = m := by omega
  have hw : IntKind.i64.wrap (((m + 1 : Nat) : Int) - 1) = (m : Int) := by rw [IntKind.wrap_i64]; omega
  have hlt : m < m + 1 := by omega
  rw [e1]
  simp only [hiC] at hG ⊢
  go_enter Tryd.func93, Tryd.ntmps93
  go_wp2_with fail
  go_ret
  exact ⟨rfl, hG⟩
set_option maxRecDepth 100000 in
set_option maxHeartbeats 1000000 in
theorem isOpen_h (h : Hh) (v : Value) (l : List Lg) (w : World) (hr : RdR w 9 lgC v l) (h0 : 0 < l.length) (hn : l.length ≤ 1000) :
    Calls Tryd.prog 106 #[.agg (hiC h v)] w fun e w' => e = .returned (.bool (ioB l)) ∧ G w w' none := by
  obtain ⟨a, cap, rfl, hcap, hm⟩ := RdR.form hr
  obtain ⟨p, hp⟩ : ∃ p, l[l.length - 1]? = some p := ⟨_, List.getElem?_eq_getElem (by omega)⟩
  obtain ⟨bb, bo, rfl, hbb, -⟩ := RdR.elem lgC_sz hr (G.refl w none) hp
  have H : Hid (ioB l = (p.2.2.1 == -1)) := Lib.hid (by unfold ioB; rw [hp])
  have hH := Bk.new w 33 (hiC h (.slice (some ⟨bb, bo, none⟩) l.length cap))
  have hG := (G.refl w none).alloc (.cells (hiC h (.slice (some ⟨bb, bo, none⟩) l.length cap)) 33)
  have HR := Lib.hid (hr.quiet hG)
  have HP := Lib.hid hp
  clear hr hp
  simp only [hiC] at hH hG HR ⊢
  go_enter Tryd.func106, Tryd.ntmps106
  go_upto_region 1 with fail
  generalize w.alloc (.cells #[.string h.1, .string h.2.1, .int .i64 h.2.2.1, .int .i64 h.2.2.2, .slice (some ⟨bb, bo, none⟩) l.length cap] 33) = w2 at hG hH HR ⊢
  go_wp2_with (refine wpList_load_row rfl 33 _ rfl w.heap.size rfl 33 #[.string h.1, .string h.2.1, .int .i64 h.2.2.1, .int .i64 h.2.2.2, .slice (some ⟨bb, bo, none⟩) l.length cap] (0, 0) _ hH Tryd.underlying33 rfl (hi_info h _) ?_)
  refine (lastOf_c h bb bo l.length cap _ h0 hn).mono ?_; rintro e w3 ⟨rfl, hG3⟩
  have HROW := Lib.hid (lgRow HR.out hG3 HP.out)
  go_wp2_with (refine wpList_load_at rfl 79 _ rfl ⟨bb, bo + (l.length - 1) * 9, none⟩ rfl (lgC p) _ HROW.out Tryd.underlying79 rfl (lg_info p) ?_)
  refine (isOut_c p _).mono ?_; rintro e w4 ⟨rfl, hG4⟩
  go_wp2_with fail
  go_ret
  exact ⟨ret_bool H.out.symm, (hG.trans hG3).trans hG4⟩
set_option maxRecDepth 100000 in
set_option maxHeartbeats 1000000 in
theorem isOpenR_c (h : Hh) (v : Value) (l : List Lg) (w : World) (hr : RdR w 9 lgC v l) (hn : l.length ≤ 1000) :
    Calls Tryd.prog 30 #[.agg (hiC h v)] w fun e w' => e = .returned (.bool (ioB l)) ∧ G w w' none := by
  obtain ⟨a, cap, rfl, hcap, hm⟩ := RdR.form hr
  have hH := Bk.new w 33 (hiC h (.slice a l.length cap))
  have hG := (G.refl w none).alloc (.cells (hiC h (.slice a l.length cap)) 33)
  have HR := Lib.hid (hr.quiet hG)
  clear hr
  simp only [hiC] at hH hG HR ⊢
  go_enter Tryd.func30, Tryd.ntmps30
  go_upto_region 1 with fail
  generalize w.alloc (.cells #[.string h.1, .string h.2.1, .int .i64 h.2.2.1, .int .i64 h.2.2.2, .slice a l.length cap] 33) = w2 at hG hH HR ⊢
  have c4 : w2.cell? ⟨w.heap.size, 4, none⟩ = some (.slice a l.length cap) := hH.cell 4
  by_cases h0 : 0 < l.length
  · obtain ⟨p, hp⟩ : ∃ p, l[l.length - 1]? = some p := ⟨_, List.getElem?_eq_getElem (by omega)⟩
    obtain ⟨bb, bo, rfl, hbb, -⟩ := RdR.elem lgC_sz HR.out (G.refl w2 none) hp
    have H : Hid (ioB l = (p.2.2.1 == -1)) := Lib.hid (by unfold ioB; rw [hp])
    have d5 := RdR.cell lgC_sz HR.out (G.refl w2 none) hp 5 (.int .i64 p.2.2.1) rfl
    have h0i : (0 : Int) < (l.length : Int) := by omega
    have hw : IntKind.i64.wrap ((l.length : Int) - 1) = ((l.length - 1 : Nat) : Int) := by rw [IntKind.wrap_i64]; omega
    have hlt : l.length - 1 < l.length := by omega
    generalize l.length - 1 = m at hw hlt d5
    clear hp
    go_wp2_with fail
    go_ret
    exact ⟨ret_bool H.out.symm, hG⟩
  · have hl : l = [] := List.eq_nil_of_length_eq_zero (by omega)
    subst hl
    go_wp2_with fail
    go_ret
    exact ⟨rfl, hG⟩
end Go.Proofs.YtdcofbciebkfkaaDoor

/- Hires: a change to a copy of an open hire (hire.changed, rentref1.changed), whatever the function is that changes it. -/
namespace Go.Proofs.YtdcofbciebkfkaaDoor
open Go.RowKit

/-- What a function that makes a hire returns. -/
def ChPost (E : Int) (h : Hh) (l : List Lg) (w : World) (e : Ending) (w' : World) : Prop :=
  ∃ (H : Hh) (a : Option Addr) (n c : Nat), e = .returned (.tuple #[.agg #[.string H.1, .string H.2.1, .int .i64 H.2.2.1, .int .i64 H.2.2.2, .slice a n c], .int .i64 E]) ∧ H = hiH E h ∧ (∀ k, (Value.slice a n c).ownBlock = some k → w.heap.size ≤ k) ∧ RdR w' 9 lgC (.slice a n c) (hiL E l) ∧ G w w' none
def S2 (g : Nat) (v : Value) (k : Nat) : Prop := k = g ∨ v.ownBlock = some k
/-- A function that changes a hire which it is handed by its address: h, l become h2, l2. -/
def ChFn (F : FuncId) (caps : Array Value) (h : Hh) (l : List Lg) (h2 : Hh) (l2 : List Lg) (A : World) : Prop :=
  ∀ (w1 : World) (g base : Nat) (v1 : Value), G A w1 none → OwnLg w1 base v1 l → Bk w1 g 33 (hiC h v1) → A.heap.size ≤ g → g < base → base ≤ w1.heap.size →
    Calls Tryd.prog F (#[.pointer (some ⟨g, 0, none⟩)] ++ caps) w1 fun e w2 => e = .returned (.tuple #[]) ∧ ∃ v2, Bk w2 g 33 (hiC h2 v2) ∧ RdR w2 9 lgC v2 l2 ∧ (∀ k, v2.ownBlock = some k → base ≤ k) ∧ GS (S2 g v1) w1 w2
/-- The error of a change: of a hire that may not be right; of one that is. -/
def chE (h : Hh) (l : List Lg) (h2 : Hh) (l2 : List Lg) : Int := if hiE h l = 0 then (if ioB l = true then hiE h2 l2 else 11) else hiE h l
def chR (l : List Lg) (h2 : Hh) (l2 : List Lg) : Int := if ioB l = true then hiE h2 l2 else 11
theorem hiE_pos {h : Hh} {l : List Lg} (e : hiE h l = 0) : 0 < l.length ∧ l.length ≤ 20 := by
  unfold hiE at e
  split at e
  · cases e
  split at e
  · cases e
  split at e
  · split at e
    · cases e
    · split at e
      · cases e
      · omega
  · contradiction
theorem ch_none {w w' : World} {E : Int} (hE : E ≠ 0) (h : Hh) (l : List Lg) (hG : G w w' none) : ChPost E h l w (.returned (.tuple #[.agg #[.string ⟨#[]⟩, .string ⟨#[]⟩, .int .i64 0, .int .i64 0, .slice none 0 0], .int .i64 E])) w' :=
  ⟨(⟨#[]⟩, ⟨#[]⟩, 0, 0), none, 0, 0, rfl, by rw [hiH, if_neg hE], fun _ hk => (by cases hk), by rw [hiL, if_neg hE]; exact RdR.nil _ _ _, hG⟩
set_option maxRecDepth 100000 in
set_option maxHeartbeats 4000000 in
theorem changed_c (F : FuncId) (caps : Array Value) (h : Hh) (v : Value) (l : List Lg) (h2 : Hh) (l2 : List Lg) (w : World) (hcf : ∀ (args : Array Value) (w : World), (callFunc F args).run Tryd.prog w = .ok (.enter F args) w) (hcl : 0 < l.length → ChFn F caps h l h2 l2 w) (hr : RdR w 9 lgC v l) (hl : LgOk l) (hs1 : Small h.1) (hs2 : Small h.2.1) (hb1 : bnd h.2.2.1) (hb2 : bnd h.2.2.2) (hn : l.length ≤ 1000)
    (hl2 : LgOk l2) (hs12 : Small h2.1) (hs22 : Small h2.2.1) (hb12 : bnd h2.2.2.1) (hb22 : bnd h2.2.2.2) (hn2 : l2.length ≤ 1000) :
    Calls Tryd.prog 91 #[.agg (hiC h v), .func (.func F) #[] caps] w (ChPost (chE h l h2 l2) h2 l2 w) := by
  have hH := (Bk.new w 33 (hiC h v)).alloc (.cells hiZ 33)
  have hG := ((G.refl w none).alloc (.cells (hiC h v) 33)).alloc (.cells hiZ 33)
  have hZ := Bk.newAt (w := w.alloc (.cells (hiC h v) 33)) (b := w.heap.size + 1) (by simp) 33 hiZ
  have hR := hr.quiet hG
  have HLO := Lib.hid hr.blk
  obtain ⟨a, cap, rfl, hcap, hm⟩ := RdR.form hr
  clear hr
  have hgs := hH.lt
  have hzs := hZ.lt
  simp only [hiC, hiZ] at hH hG hR hZ hgs hzs ⊢
  go_enter Tryd.func91, Tryd.ntmps91
  go_upto_region 1 with fail
  generalize (w.alloc (.cells #[.string h.1, .string h.2.1, .int .i64 h.2.2.1, .int .i64 h.2.2.2, .slice a l.length cap] 33)).alloc (.cells #[.string ⟨#[]⟩, .string ⟨#[]⟩, .int .i64 0, .int .i64 0, .slice none 0 0] 33) = w2 at hG hH hR hZ hgs hzs ⊢
  go_wp2_with (refine wpList_load_row rfl 33 _ rfl w.heap.size rfl 33 #[.string h.1, .string h.2.1, .int .i64 h.2.2.1, .int .i64 h.2.2.2, .slice a l.length cap] (0, 0) _ hH Tryd.underlying33 rfl (hi_info h _) ?_)
  refine (check_c h _ l _ hR hl hs1 hs2 hb1 hb2 hn).mono ?_; rintro e w3 ⟨rfl, hG3⟩
  have hH := hH.quiet hG3
  have hZ := hZ.quiet hG3
  have hz3 : w2.heap.size ≤ w3.heap.size := hG3.size
  have hG := hG.trans hG3
  have hR := hR.quiet hG3
  clear hG3
  obtain ⟨E, hE⟩ : ∃ E, hiE h l = E := ⟨_, rfl⟩
  have HT : Hid (E = 0 → ioB l = true → chE h l h2 l2 = hiE h2 l2) := Lib.hid fun p q => by unfold chE; rw [hE, if_pos p, if_pos q]
  have HF : Hid (E = 0 → ioB l = false → chE h l h2 l2 = 11) := Lib.hid fun p q => by unfold chE; rw [hE, if_pos p, if_neg (by rw [q]; simp)]
  have HN : Hid (E ≠ 0 → chE h l h2 l2 = E) := Lib.hid fun p => by unfold chE; rw [hE, if_neg p]
  have HPOS : Hid (E = 0 → 0 < l.length) := Lib.hid (fun e => (hiE_pos (hE.trans e)).1)
  rw [hE]
  clear hE
  by_cases k1 : E = 0
  · subst k1
    have hpos := HPOS.out rfl
    have HF0 := Lib.hid (HF.out rfl)
    have HT0 := Lib.hid (HT.out rfl)
    clear HF HT HN HPOS
    go_wp2_with (refine wpList_load_row rfl 33 _ rfl w.heap.size rfl 33 #[.string h.1, .string h.2.1, .int .i64 h.2.2.1, .int .i64 h.2.2.2, .slice a l.length cap] (0, 0) _ hH Tryd.underlying33 rfl (hi_info h _) ?_)
    refine (isOpen_h h _ l _ hR hpos hn).mono ?_; rintro e w4 ⟨rfl, hG4⟩
    have hH := hH.quiet hG4
    have hZ := hZ.quiet hG4
    have hz4 : w2.heap.size ≤ w4.heap.size := Nat.le_trans hz3 hG4.size
    have hG := hG.trans hG4
    have hR := hR.quiet hG4
    clear hG4 hz3
    obtain ⟨B, hB⟩ : ∃ B, ioB l = B := ⟨_, rfl⟩
    have HF := Lib.hid (fun e => HF0.out (hB.trans e))
    have HT := Lib.hid (fun e => HT0.out (hB.trans e))
    clear HF0 HT0
    rw [hB]
    clear hB
    cases B with
    | false =>
      have HX := Lib.hid (HF.out rfl)
      clear HF HT
      go_wp2_with (refine wpList_store_row rfl 33 _ _ rfl (w.heap.size + 1) #[.string ⟨#[]⟩, .string ⟨#[]⟩, .int .i64 0, .int .i64 0, .slice none 0 0] rfl rfl 33 _ hZ (hi_info (⟨#[]⟩, ⟨#[]⟩, 0, 0) (.slice none 0 0)) rfl (hi_one (⟨#[]⟩, ⟨#[]⟩, 0, 0) _ _ _) ?_)
      refine bodyPost_ret (results_cell_hi rfl _ _ (w.heap.size + 1) 33 #[.string ⟨#[]⟩, .string ⟨#[]⟩, .int .i64 0, .int .i64 0, .slice none 0 0] (0, 0) _ rfl (hZ.setRow _) Tryd.underlying33 rfl (hi_info (⟨#[]⟩, ⟨#[]⟩, 0, 0) (.slice none 0 0))) rfl ?_
      rw [HX.out]
      exact ch_none (by omega) h2 l2 (hG.setRow (.inl (by omega)) _)
    | true =>
      have HX := Lib.hid (HT.out rfl)
      clear HF HT
      have c4 : w4.cell? ⟨w.heap.size, 4, none⟩ = some (.slice a l.length cap) := hH.cell 4
      go_wp2_with fail
      refine (cloneLg_c _ l _ hR hn).mono ?_; rintro e w5 ⟨v1, rfl, hown, hG5⟩
      obtain ⟨a1, cap1, rfl, -, -⟩ := RdR.form (Rd.of_owns hown)
      have hz5 : w4.heap.size ≤ w5.heap.size := hG5.size
      have hH5 := hH.quiet hG5
      have hZ5 := hZ.quiet hG5
      have hG5 := hG.trans hG5
      have x4 := hH5.free 4
      have c5 : w5.cell? ⟨w.heap.size, 4, none⟩ = some (.slice a l.length cap) := hH5.cell 4
      clear hH hZ hG hR c4
      have hH6 : Bk (w5.setCell ⟨w.heap.size, 4, none⟩ (.slice a1 l.length cap1)) w.heap.size 33 (hiC h (.slice a1 l.length cap1)) := hH5.set 4 (.slice a1 l.length cap1)
      have hZ6 := hZ5.far (p := ⟨w.heap.size, 4, none⟩) (show w.heap.size + 1 ≠ w.heap.size by omega) (.slice a1 l.length cap1)
      have hG6 := hG5.setCell (p := ⟨w.heap.size, 4, none⟩) (.inl (Nat.le_refl _)) (.slice a1 l.length cap1)
      have hown6 : OwnLg (w5.setCell ⟨w.heap.size, 4, none⟩ (.slice a1 l.length cap1)) w4.heap.size (.slice a1 l.length cap1) l := OwnX.far hown (p := ⟨w.heap.size, 4, none⟩) (hown.ne (.inl (by show w.heap.size < w4.heap.size; omega))) (.slice a1 l.length cap1)
      have hz6 : w4.heap.size ≤ (w5.setCell ⟨w.heap.size, 4, none⟩ (.slice a1 l.length cap1)).heap.size := by simp [World.setCell]; exact hz5
      go_upto_region 7 with fail
      generalize w5.setCell ⟨w.heap.size, 4, none⟩ (.slice a1 l.length cap1) = w6 at hH6 hZ6 hG6 hown6 hz6 ⊢
      clear hH5 hZ5 hG5 hown c5 x4
      have HC := Lib.hid (hcl hpos w6 w.heap.size w4.heap.size (.slice a1 l.length cap1) hG6 hown6 hH6 (Nat.le_refl _) (by omega) hz6)
      go_wp2_with fail
      refine HC.out.mono ?_; rintro e w7 ⟨rfl, v2, hH7, hR7, hv2, hS⟩
      have hown7 := fun k (e : (Value.slice a1 l.length cap1).ownBlock = some k) => OwnX.low hown6 k e
      have hZ7 := hZ6.gs hS (fun e => by
        rcases e with e | e
        · omega
        · have := hown7 _ e; omega)
      have hG7 := GS.own hG6 hS (fun k e => by
        rcases e with e | e
        · omega
        · have := hown7 _ e; omega)
      obtain ⟨a2, cap2, rfl, -, -⟩ := RdR.form hR7
      have HV2 := Lib.hid hv2
      clear hH6 hZ6 hG6 hown6 hS HC hown7 hv2
      simp only [hiC] at hH7
      go_wp2_with (refine wpList_load_row rfl 33 _ rfl w.heap.size rfl 33 #[.string h2.1, .string h2.2.1, .int .i64 h2.2.2.1, .int .i64 h2.2.2.2, .slice a2 l2.length cap2] (0, 0) _ hH7 Tryd.underlying33 rfl (hi_info h2 _) ?_)
      refine (right_c h2 _ l2 _ hR7 hl2 hs12 hs22 hb12 hb22 hn2).mono ?_; rintro e w8 ⟨H, a3, n3, c3, rfl, hHH, hBB, hR8, hG8⟩
      have hZ8 := hZ7.quiet hG8
      have hG08 := hG7.trans hG8
      have HHH := Lib.hid hHH
      have HB3 : Hid (∀ k, (Value.slice a3 n3 c3).ownBlock = some k → w4.heap.size ≤ k) := Lib.hid fun k e => HV2.out k (hBB k e)
      have HR8 := Lib.hid hR8
      clear hHH hBB hR8 hG8 hG7 hZ7 hH7 hR7
      go_wp2_with (refine wpList_store_row rfl 33 _ _ rfl (w.heap.size + 1) #[.string H.1, .string H.2.1, .int .i64 H.2.2.1, .int .i64 H.2.2.2, .slice a3 n3 c3] rfl rfl 33 _ hZ8 (hi_info H _) rfl (hi_one H _ _ _) ?_)
      refine bodyPost_ret (results_cell_hi rfl _ _ (w.heap.size + 1) 33 #[.string H.1, .string H.2.1, .int .i64 H.2.2.1, .int .i64 H.2.2.2, .slice a3 n3 c3] (0, 0) _ rfl (hZ8.setRow _) Tryd.underlying33 rfl (hi_info H _)) rfl ?_
      exact ⟨H, a3, n3, c3, by rw [HX.out]; rfl, by rw [HX.out]; exact HHH.out, fun k e => by have := HB3.out k e; omega, by rw [HX.out]; exact Rd.grown HR8.out ((G.refl w8 (some (w.heap.size + 1))).setRow (.inr rfl) _) (fun k e hk => by cases e; have := HB3.out _ hk; omega), hG08.setRow (.inl (by omega)) _⟩
  · have k1' : (E != 0) = true := by simpa using k1
    have K1 := Lib.hid k1
    have HX := Lib.hid (HN.out k1)
    clear k1 HF HT HN
    go_wp2_with (refine wpList_store_row rfl 33 _ _ rfl (w.heap.size + 1) #[.string ⟨#[]⟩, .string ⟨#[]⟩, .int .i64 0, .int .i64 0, .slice none 0 0] rfl rfl 33 _ hZ (hi_info (⟨#[]⟩, ⟨#[]⟩, 0, 0) (.slice none 0 0)) rfl (hi_one (⟨#[]⟩, ⟨#[]⟩, 0, 0) _ _ _) ?_)
    refine bodyPost_ret (results_cell_hi rfl _ _ (w.heap.size + 1) 33 #[.string ⟨#[]⟩, .string ⟨#[]⟩, .int .i64 0, .int .i64 0, .slice none 0 0] (0, 0) _ rfl (hZ.setRow _) Tryd.underlying33 rfl (hi_info (⟨#[]⟩, ⟨#[]⟩, 0, 0) (.slice none 0 0))) rfl ?_
    rw [HX.out]
    exact ch_none K1.out h2 l2 (hG.setRow (.inl (by omega)) _)
set_option maxRecDepth 100000 in
set_option maxHeartbeats 4000000 in
theorem changedR_c (F : FuncId) (caps : Array Value) (h : Hh) (v : Value) (l : List Lg) (h2 : Hh) (l2 : List Lg) (w : World) (hcf : ∀ (args : Array Value) (w : World), (callFunc F args).run Tryd.prog w = .ok (.enter F args) w) (hcl : 0 < l.length → ChFn F caps h l h2 l2 w) (hr : RdR w 9 lgC v l) (hn : l.length ≤ 1000)
    (hl2 : LgOk l2) (hs12 : Small h2.1) (hs22 : Small h2.2.1) (hb12 : bnd h2.2.2.1) (hb22 : bnd h2.2.2.2) (hn2 : l2.length ≤ 1000) :
    Calls Tryd.prog 96 #[.agg (hiC h v), .func (.func F) #[] caps] w (ChPost (chR l h2 l2) h2 l2 w) := by
  have hH := (Bk.new w 33 (hiC h v)).alloc (.cells hiZ 33)
  have hG := ((G.refl w none).alloc (.cells (hiC h v) 33)).alloc (.cells hiZ 33)
  have hZ := Bk.newAt (w := w.alloc (.cells (hiC h v) 33)) (b := w.heap.size + 1) (by simp) 33 hiZ
  have hR := hr.quiet hG
  have HLO := Lib.hid hr.blk
  obtain ⟨a, cap, rfl, hcap, hm⟩ := RdR.form hr
  clear hr
  have hgs := hH.lt
  have hzs := hZ.lt
  simp only [hiC, hiZ] at hH hG hR hZ hgs hzs ⊢
  go_enter Tryd.func96, Tryd.ntmps96
  go_upto_region 1 with fail
  generalize (w.alloc (.cells #[.string h.1, .string h.2.1, .int .i64 h.2.2.1, .int .i64 h.2.2.2, .slice a l.length cap] 33)).alloc (.cells #[.string ⟨#[]⟩, .string ⟨#[]⟩, .int .i64 0, .int .i64 0, .slice none 0 0] 33) = w2 at hG hH hR hZ hgs hzs ⊢
  go_wp2_with (refine wpList_load_row rfl 33 _ rfl w.heap.size rfl 33 #[.string h.1, .string h.2.1, .int .i64 h.2.2.1, .int .i64 h.2.2.2, .slice a l.length cap] (0, 0) _ hH Tryd.underlying33 rfl (hi_info h _) ?_)
  refine (isOpenR_c h _ l _ hR hn).mono ?_; rintro e w4 ⟨rfl, hG4⟩
  have hH := hH.quiet hG4
  have hZ := hZ.quiet hG4
  have hz4 : w2.heap.size ≤ w4.heap.size := hG4.size
  have hG := hG.trans hG4
  have hR := hR.quiet hG4
  clear hG4
  obtain ⟨B, hB⟩ : ∃ B, ioB l = B := ⟨_, rfl⟩
  have HF : Hid (B = false → chR l h2 l2 = 11) := Lib.hid (fun e => by unfold chR; rw [hB, e, if_neg (by simp)])
  have HP : Hid (B = true → 0 < l.length) := Lib.hid (fun e => ioB_pos (hB.trans e))
  have HT : Hid (B = true → chR l h2 l2 = hiE h2 l2) := Lib.hid (fun e => by unfold chR; rw [hB, e, if_pos rfl])
  rw [hB]
  clear hB
  cases B with
  | false =>
    have HX := Lib.hid (HF.out rfl)
    clear HF HT
    go_wp2_with (refine wpList_store_row rfl 33 _ _ rfl (w.heap.size + 1) #[.string ⟨#[]⟩, .string ⟨#[]⟩, .int .i64 0, .int .i64 0, .slice none 0 0] rfl rfl 33 _ hZ (hi_info (⟨#[]⟩, ⟨#[]⟩, 0, 0) (.slice none 0 0)) rfl (hi_one (⟨#[]⟩, ⟨#[]⟩, 0, 0) _ _ _) ?_)
    refine bodyPost_ret (results_cell_hi rfl _ _ (w.heap.size + 1) 33 #[.string ⟨#[]⟩, .string ⟨#[]⟩, .int .i64 0, .int .i64 0, .slice none 0 0] (0, 0) _ rfl (hZ.setRow _) Tryd.underlying33 rfl (hi_info (⟨#[]⟩, ⟨#[]⟩, 0, 0) (.slice none 0 0))) rfl ?_
    rw [HX.out]
    exact ch_none (by omega) h2 l2 (hG.setRow (.inl (by omega)) _)
  | true =>
    have HX := Lib.hid (HT.out rfl)
    have hpos := HP.out rfl
    clear HF HT HP
    have c4 : w4.cell? ⟨w.heap.size, 4, none⟩ = some (.slice a l.length cap) := hH.cell 4
    go_wp2_with fail
    refine (cloneLg_c _ l _ hR hn).mono ?_; rintro e w5 ⟨v1, rfl, hown, hG5⟩
    obtain ⟨a1, cap1, rfl, -, -⟩ := RdR.form (Rd.of_owns hown)
    have hz5 : w4.heap.size ≤ w5.heap.size := hG5.size
    have hH5 := hH.quiet hG5
    have hZ5 := hZ.quiet hG5
    have hG5 := hG.trans hG5
    have x4 := hH5.free 4
    have c5 : w5.cell? ⟨w.heap.size, 4, none⟩ = some (.slice a l.length cap) := hH5.cell 4
    clear hH hZ hG hR c4
    have hH6 : Bk (w5.setCell ⟨w.heap.size, 4, none⟩ (.slice a1 l.length cap1)) w.heap.size 33 (hiC h (.slice a1 l.length cap1)) := hH5.set 4 (.slice a1 l.length cap1)
    have hZ6 := hZ5.far (p := ⟨w.heap.size, 4, none⟩) (show w.heap.size + 1 ≠ w.heap.size by omega) (.slice a1 l.length cap1)
    have hG6 := hG5.setCell (p := ⟨w.heap.size, 4, none⟩) (.inl (Nat.le_refl _)) (.slice a1 l.length cap1)
    have hown6 : OwnLg (w5.setCell ⟨w.heap.size, 4, none⟩ (.slice a1 l.length cap1)) w4.heap.size (.slice a1 l.length cap1) l := OwnX.far hown (p := ⟨w.heap.size, 4, none⟩) (hown.ne (.inl (by show w.heap.size < w4.heap.size; omega))) (.slice a1 l.length cap1)
    have hz6 : w4.heap.size ≤ (w5.setCell ⟨w.heap.size, 4, none⟩ (.slice a1 l.length cap1)).heap.size := by simp [World.setCell]; exact hz5
    go_upto_region 4 with fail
    generalize w5.setCell ⟨w.heap.size, 4, none⟩ (.slice a1 l.length cap1) = w6 at hH6 hZ6 hG6 hown6 hz6 ⊢
    clear hH5 hZ5 hG5 hown c5 x4
    have HC := Lib.hid (hcl hpos w6 w.heap.size w4.heap.size (.slice a1 l.length cap1) hG6 hown6 hH6 (Nat.le_refl _) (by omega) hz6)
    go_wp2_with fail
    refine HC.out.mono ?_; rintro e w7 ⟨rfl, v2, hH7, hR7, hv2, hS⟩
    have hown7 := fun k (e : (Value.slice a1 l.length cap1).ownBlock = some k) => OwnX.low hown6 k e
    have hZ7 := hZ6.gs hS (fun e => by
      rcases e with e | e
      · omega
      · have := hown7 _ e; omega)
    have hG7 := GS.own hG6 hS (fun k e => by
      rcases e with e | e
      · omega
      · have := hown7 _ e; omega)
    obtain ⟨a2, cap2, rfl, -, -⟩ := RdR.form hR7
    have HV2 := Lib.hid hv2
    clear hH6 hZ6 hG6 hown6 hS HC hown7 hv2
    simp only [hiC] at hH7
    go_wp2_with (refine wpList_load_row rfl 33 _ rfl w.heap.size rfl 33 #[.string h2.1, .string h2.2.1, .int .i64 h2.2.2.1, .int .i64 h2.2.2.2, .slice a2 l2.length cap2] (0, 0) _ hH7 Tryd.underlying33 rfl (hi_info h2 _) ?_)
    refine (made_c h2 _ l2 _ hR7 hl2 hs12 hs22 hb12 hb22 hn2).mono ?_; rintro e w8 ⟨H, a3, n3, c3, rfl, hHH, hBB, hR8, hG8⟩
    have hZ8 := hZ7.quiet hG8
    have hG08 := hG7.trans hG8
    have HHH := Lib.hid hHH
    have HB3 : Hid (∀ k, (Value.slice a3 n3 c3).ownBlock = some k → w4.heap.size ≤ k) := Lib.hid fun k e => HV2.out k (hBB k e)
    have HR8 := Lib.hid hR8
    clear hHH hBB hR8 hG8 hG7 hZ7 hH7 hR7
    go_wp2_with (refine wpList_store_row rfl 33 _ _ rfl (w.heap.size + 1) #[.string H.1, .string H.2.1, .int .i64 H.2.2.1, .int .i64 H.2.2.2, .slice a3 n3 c3] rfl rfl 33 _ hZ8 (hi_info H _) rfl (hi_one H _ _ _) ?_)
    refine bodyPost_ret (results_cell_hi rfl _ _ (w.heap.size + 1) 33 #[.string H.1, .string H.2.1, .int .i64 H.2.2.1, .int .i64 H.2.2.2, .slice a3 n3 c3] (0, 0) _ rfl (hZ8.setRow _) Tryd.underlying33 rfl (hi_info H _)) rfl ?_
    exact ⟨H, a3, n3, c3, by rw [HX.out]; rfl, by rw [HX.out]; exact HHH.out, fun k e => by have := HB3.out k e; omega, by rw [HX.out]; exact Rd.grown HR8.out ((G.refl w8 (some (w.heap.size + 1))).setRow (.inr rfl) _) (fun k e hk => by cases e; have := HB3.out _ hk; omega), hG08.setRow (.inl (by omega)) _⟩
end Go.Proofs.YtdcofbciebkfkaaDoor

/- Steps of a region that draws its order, by hand. No program. -/
namespace Go.Proofs.YtdcofbciebkfkaaDoor
open Go.RowKit
section
variable {P : Program} {ops : Array Oper} {o : Oper} {a : Act} {w : World} {K : Act → World → Prop} {Q : Exit → Act → World → Prop} {E : Prop}
theorem st_val (hg : o.guard = none) {v : Value} {w' : World} (hr : (execOp a.eval o).run P w = .ok (.value v) w') (hK : K (a.put o.dst v) w') : if Region.wanted o (yielded ops a.tmps) = true then Oper.wp P o a w K Q else E := by
  rw [if_pos (by simp [Region.wanted, hg])]
  unfold Oper.wp
  rw [hr]
  exact hK
theorem st_wp (hg : o.guard = none) (h : Oper.wp P o a w K Q) : if Region.wanted o (yielded ops a.tmps) = true then Oper.wp P o a w K Q else E := by
  rw [if_pos (by simp [Region.wanted, hg])]
  exact h
theorem st_call (hg : o.guard = none) {f : FuncId} {args : Array Value} {w1 : World} (hr : (execOp a.eval o).run P w = .ok (.enter f args) w1) (hc : Calls P f args w1 fun e w' => ∃ v, e = .returned v ∧ K (a.put o.dst v) w') : if Region.wanted o (yielded ops a.tmps) = true then Oper.wp P o a w K Q else E := by
  rw [if_pos (by simp [Region.wanted, hg])]
  unfold Oper.wp
  rw [hr]
  refine hc.mono ?_
  rintro e w' ⟨v, rfl, hK⟩
  exact hK
theorem run_load_row {ty : TypeId} {x : Operand} (ho : o.op = .load ty x) (g : Nat) (hx : a.eval x = .pointer (some ⟨g, 0, none⟩)) (t : TypeId) (cs : Array Value) (d : TypeDesc) (hg : Bk w g t cs)
    (hu : P.underlying ty = some d) (hd : (match d with | .struct _ | .array _ _ => true | _ => false) = true) (hi : (P.info? ty).map (·.size) = some cs.size) : (execOp a.eval o).run P w = .ok (.value (.agg cs)) w := by
  unfold execOp
  simp only [ho, hx, Instr.loadAt, Instr.sureAddr, Sem.run_bind, Sem.run_pure, Result.andThen_ok, run_loadVar_row w g t ty cs (0, 0) d hg hu hd hi]
/-- One that may come up, and it alone. -/
theorem ready_one {md : Region.Mode} {fuel : Nat} {listed : Array Bool} {i : Nat} (hr : Region.ready md ops listed = [i]) (ho : ops[i]? = some o)
    (h : ∀ K' : Act → World → Prop, (∀ a w, wpAny P md ops Q fuel (listed.setIfInBounds i true) a w → K' a w) → if Region.wanted o (yielded ops a.tmps) = true then Oper.wp P o a w K' Q else K' (a.put o.dst undef) w) : wpAny P md ops Q (fuel + 1) listed a w :=
  wpAny_ready hr (by simp) (AllReady.cons ho h AllReady.nil)
theorem ready_two {md : Region.Mode} {fuel : Nat} {listed : Array Bool} {i j : Nat} {o2 : Oper} (hr : Region.ready md ops listed = [i, j]) (ho : ops[i]? = some o) (ho2 : ops[j]? = some o2)
    (h : ∀ K' : Act → World → Prop, (∀ a w, wpAny P md ops Q fuel (listed.setIfInBounds i true) a w → K' a w) → if Region.wanted o (yielded ops a.tmps) = true then Oper.wp P o a w K' Q else K' (a.put o.dst undef) w)
    (h2 : ∀ K' : Act → World → Prop, (∀ a w, wpAny P md ops Q fuel (listed.setIfInBounds j true) a w → K' a w) → if Region.wanted o2 (yielded ops a.tmps) = true then Oper.wp P o2 a w K' Q else K' (a.put o2.dst undef) w) : wpAny P md ops Q (fuel + 1) listed a w :=
  wpAny_ready hr (by simp) (AllReady.cons ho h (AllReady.cons ho2 h2 AllReady.nil))
end
end Go.Proofs.YtdcofbciebkfkaaDoor

/- What was picked; a block as a row; 'when' at literals. -/
namespace Go.Proofs.YtdcofbciebkfkaaDoor
open Go.RowKit

theorem small_of {s : ByteArray} (h : s.size ≤ 100) : Small s := by unfold Small; omega
theorem bnd_pick {zs : List Int} {r : Int} (h : r ∈ zs) (hz : zs.all (fun z => decide (-1099511627776 ≤ z ∧ z ≤ 1099511627776)) = true) : bnd r := by
  unfold bnd
  exact of_decide_eq_true (List.all_eq_true.1 hz r h)
theorem small_pick {zs : List ByteArray} {r : ByteArray} (h : r ∈ zs) (hz : zs.all (fun z => decide (z.size ≤ 100)) = true) : Small r := small_of (of_decide_eq_true (List.all_eq_true.1 hz r h))
theorem Bk.rd {w : World} {g : Nat} {T : TypeId} {cs : Array Value} (h : Bk w g T cs) (z n : Nat) (hc : cs.size = n * z) (hn : n ≤ 1000) : Rd w z (.slice (some ⟨g, 0, none⟩) n n) n cs.toList := by
  refine ⟨_, n, rfl, Nat.le_refl _, by unfold maxLen; omega, by simpa using hc, (fun e => by cases e), fun b hb => ?_⟩
  obtain rfl := Option.some.inj hb
  refine ⟨rfl, h.lt, fun j u hj => ?_⟩
  rw [Nat.zero_add, h.cell]
  simpa using hj
theorem when_t (n : Int) (w : World) : Calls Tryd.prog 107 #[.bool true, .int .i64 n] w fun e w' => e = .returned (.int .i64 n) ∧ w = w' := by simpa using when_c true n w
theorem when_f (n : Int) (w : World) : Calls Tryd.prog 107 #[.bool false, .int .i64 n] w fun e w' => e = .returned (.int .i64 0) ∧ w = w' := by simpa using when_c false n w
end Go.Proofs.YtdcofbciebkfkaaDoor

/- Generator: a reading. -/
namespace Go.Proofs.YtdcofbciebkfkaaDoor
open Go.RowKit

def bnd2 (n : Int) : Prop := -2199023255552 ≤ n ∧ n ≤ 2199023255552
def rgB (x : Rg) : Prop := bnd2 x.1 ∧ Small x.2.1 ∧ bnd x.2.2.1 ∧ bnd x.2.2.2
def ReadingPost (s K : Nat) (w : World) (e : Ending) (w' : World) : Prop :=
  ∃ r : Rg, e = .returned (.agg (rgC r)) ∧ rgB r ∧ SB w' s (K + 12) ∧ G w w' (some s)
theorem rg_one (x : Rg) : (rgC x).all (·.oneCell') = true := by simp [rgC, Value.oneCell']
theorem reading_fin {w w3 : World} {s K : Nat} {r : Rg} (hs : s < w.heap.size) (hr : rgB r) (hSB : SB w3 s (K + 12)) (hG : G w w3 (some s)) :
    ReadingPost s K w (.returned (.agg (rgC r))) (w3.setRow w.heap.size (rgC r)) :=
  ⟨r, rfl, hr, hSB.setRow hs _, hG.setRow (.inl (Nat.le_refl _)) _⟩
set_option maxRecDepth 100000 in
set_option maxHeartbeats 4000000 in
theorem reading_c (t : Int) (w : World) (s : Nat) (K : Nat) (ht : bnd t) (hs : SB w s K) (hk : K ≤ 900000000000) :
    Calls Tryd.prog 13 #[.pointer (some ⟨s, 0, none⟩), .int .i64 t] w (ReadingPost s K w) := by
  have hslt := hs.lt
  unfold bnd at ht
  have HT := Lib.hid ht
  obtain ⟨ht0, ht1⟩ := ht
  go_enter Tryd.func13, Tryd.ntmps13
  go_wp2_with fail
  refine (some_c _ _ _ [⟨#[115, 49]⟩, ⟨#[115, 49]⟩, ⟨#[115, 50]⟩, ⟨#[115, 51]⟩] _ _ K ((hs.alloc _).alloc _) (by omega) (by decide) (by decide) (Rd.newAt _ (by simp) rfl (by decide)) (hs.newAt _ _ _ (by omega))).mono ?_
  rintro e w2 ⟨k, rfl, hp, hSB2, hG2⟩
  have HK := Lib.hid (small_pick hp (by decide))
  have hz2 : w.heap.size + 2 ≤ w2.heap.size := by have := hG2.size; simp at this; omega
  have hB2 := ((Bk.new w 37 #[.int .i64 0, .string ⟨#[]⟩, .int .i64 0, .int .i64 0]).alloc (.cells _ 9)).grown hG2 (by simp; omega)
  have hG02 : G w w2 (some s) := (((G.refl w (some s)).alloc _).alloc _).trans hG2
  clear hG2 hp
  go_wp2_with fail
  refine (pick_c _ _ _ [0, 5, 100, 500, 999990, 999999] _ _ _ (hSB2.alloc _) (by omega) (by decide) (by decide) (Rd.newAt _ rfl rfl (by decide)) (hSB2.newAt _ _ _ (Nat.le_refl _))).mono ?_
  rintro e w3 ⟨m, rfl, hp, hSB3, hG3⟩
  have HM := Lib.hid (bnd_pick hp (by decide))
  have hB3 := (hB2.alloc (.cells _ 3)).grown hG3 (by simp; omega)
  have hG03 := (hG02.alloc _).trans hG3
  clear hG3 hp hB2 hG02 hSB2 hz2
  go_wp2_with fail
  refine (range_c 0 8 _ _ _ hSB3 (by omega) (by omega) (by omega) (by omega)).mono ?_; rintro e w4 ⟨f, rfl, f0, f1, hSB4, hG4⟩
  have HF : Hid (bnd f) := Lib.hid (by unfold bnd; omega)
  have hB4 := hB3.grown hG4 (fun e => by have := Option.some.inj e; omega)
  have hG04 := hG03.trans hG4
  clear hG4 hB3 hG03 hSB3 f0 f1
  have hN5 := Bk.new w4 37 #[.int .i64 t, .string k, .int .i64 m, .int .i64 f]
  have hSB5 := hSB4.alloc (.cells #[.int .i64 t, .string k, .int .i64 m, .int .i64 f] 37)
  have hB5 := hB4.alloc (.cells #[.int .i64 t, .string k, .int .i64 m, .int .i64 f] 37)
  have hG05 := hG04.alloc (.cells #[.int .i64 t, .string k, .int .i64 m, .int .i64 f] 37)
  have hs4 := hSB4.lt
  have hl4 := hB4.lt
  have hgw : w.heap.size ≤ w4.heap.size := hG04.size
  clear hB4 hG04 hSB4
  go_wp2_with fail
  generalize w4.alloc (.cells #[.int .i64 t, .string k, .int .i64 m, .int .i64 f] 37) = w5 at hN5 hSB5 hB5 hG05 ⊢
  generalize w4.heap.size = g at hN5 hs4 hl4 hgw ⊢
  refine (flip_c _ _ _ _ hSB5 (by omega) (by omega)).mono ?_; rintro e w6 ⟨q, rfl, hSB6, hG6⟩
  have hN6 := hN5.grown hG6 (fun e => by have := Option.some.inj e; omega)
  have hB6 := hB5.grown hG6 (fun e => by have := Option.some.inj e; omega)
  have hG06 := hG05.trans hG6
  clear hN5 hB5 hG05 hG6 hSB5
  cases q with
  | false =>
    go_wp2_with (first | (refine wpList_load_row rfl 37 _ rfl g rfl 37 #[.int .i64 t, .string k, .int .i64 m, .int .i64 f] (0, 0) _ hN6 Tryd.underlying37 rfl (rg_info (t, k, m, f)) ?_) | (refine wpList_store_row rfl 37 _ _ rfl w.heap.size #[.int .i64 t, .string k, .int .i64 m, .int .i64 f] rfl rfl 37 _ hB6 (rg_info (t, k, m, f)) rfl (rg_one (t, k, m, f)) ?_))
    refine bodyPost_ret (results_cell_row rfl _ _ w.heap.size 37 #[.int .i64 t, .string k, .int .i64 m, .int .i64 f] (0, 0) _ rfl (hB6.setRow _) Tryd.underlying37 rfl (rg_info (t, k, m, f))) rfl ?_
    exact reading_fin (r := (t, k, m, f)) hslt ⟨by have := HT.out; unfold bnd2; dsimp only; omega, HK.out, HM.out, HF.out⟩ (hSB6.le (by omega)) hG06
  | true =>
    have hwr : IntKind.i64.wrap (t + 1) = t + 1 := by rw [IntKind.wrap_i64]; omega
    go_wp2_with fail
    refine (pick_c _ _ _ [t, t + 1, -1, 5761440] _ _ _ (hSB6.alloc _) (by omega) (by decide) (by decide) (Rd.newAt _ rfl rfl (by decide)) (hSB6.newAt _ _ _ (Nat.le_refl _))).mono ?_; rintro e w7 ⟨t2, rfl, hp, hSB7, hG7⟩
    have HT2 : Hid (bnd2 t2) := Lib.hid (by simp only [List.mem_cons, List.mem_nil_iff, or_false] at hp; unfold bnd2; omega)
    have hN7 := (hN6.alloc (.cells _ 3)).grown hG7 (fun e => by have := Option.some.inj e; omega)
    have hB7 := (hB6.alloc (.cells _ 3)).grown hG7 (fun e => by have := Option.some.inj e; omega)
    have hG07 := (hG06.alloc _).trans hG7
    clear hN6 hB6 hG06 hG7 hSB6 hp
    go_wp2_with fail
    refine (some_c _ _ _ [⟨#[115, 49]⟩, ⟨#[]⟩, ⟨#[65]⟩] _ _ _ (hSB7.alloc _) (by omega) (by decide) (by decide) (Rd.newAt _ rfl rfl (by decide)) (hSB7.newAt _ _ _ (Nat.le_refl _))).mono ?_; rintro e w8 ⟨k2, rfl, hp, hSB8, hG8⟩
    have HK2 := Lib.hid (small_pick hp (by decide))
    have hN8 := (hN7.alloc (.cells _ 9)).grown hG8 (fun e => by have := Option.some.inj e; omega)
    have hB8 := (hB7.alloc (.cells _ 9)).grown hG8 (fun e => by have := Option.some.inj e; omega)
    have hG08 := (hG07.alloc _).trans hG8
    clear hN7 hB7 hG07 hG8 hSB7 hp
    go_wp2_with fail
    refine (odd_c _ _ _ _ _ hSB8 (by omega) (by omega) (by omega) (by omega) (by omega)).mono ?_; rintro e w9 ⟨m2, rfl, m20, m21, hSB9, hG9⟩
    have HM2 : Hid (bnd m2) := Lib.hid ⟨m20, m21⟩
    have hN9 := hN8.grown hG9 (fun e => by have := Option.some.inj e; omega)
    have hB9 := hB8.grown hG9 (fun e => by have := Option.some.inj e; omega)
    have hG09 := hG08.trans hG9
    clear hN8 hB8 hG08 hG9 hSB8 m20 m21
    go_wp2_with fail
    refine (odd_c _ _ _ _ _ hSB9 (by omega) (by omega) (by omega) (by omega) (by omega)).mono ?_; rintro e wa ⟨f2, rfl, f20, f21, hSBa, hGa⟩
    have HF2 : Hid (bnd f2) := Lib.hid ⟨f20, f21⟩
    have hNa := hN9.grown hGa (fun e => by have := Option.some.inj e; omega)
    have hBa := hB9.grown hGa (fun e => by have := Option.some.inj e; omega)
    have hG0a := hG09.trans hGa
    clear hN9 hB9 hG09 hGa hSB9 f20 f21 hwr
    have n0 : wa.cell? ⟨g, 0, none⟩ = some (.int .i64 t) := hNa.cell 0
    have n1 : wa.cell? ⟨g, 1, none⟩ = some (.string k) := hNa.cell 1
    have n2 : wa.cell? ⟨g, 2, none⟩ = some (.int .i64 m) := hNa.cell 2
    have n3 : wa.cell? ⟨g, 3, none⟩ = some (.int .i64 f) := hNa.cell 3
    have x0 := hNa.free 0
    have x1 := hNa.free 1
    have x2 := hNa.free 2
    have x3 := hNa.free 3
    go_upto_region 4 with fail
    have hNb : Bk ((((wa.setCell ⟨g, 0, none⟩ (.int .i64 t2)).setCell ⟨g, 1, none⟩ (.string k2)).setCell ⟨g, 2, none⟩ (.int .i64 m2)).setCell ⟨g, 3, none⟩ (.int .i64 f2)) g 37 #[.int .i64 t2, .string k2, .int .i64 m2, .int .i64 f2] := (((hNa.set 0 _).set 1 _).set 2 _).set 3 _
    have hBb := (((hBa.far (p := ⟨g, 0, none⟩) (show w.heap.size ≠ g by omega) (.int .i64 t2)).far (p := ⟨g, 1, none⟩) (show w.heap.size ≠ g by omega) (.string k2)).far (p := ⟨g, 2, none⟩) (show w.heap.size ≠ g by omega) (.int .i64 m2)).far (p := ⟨g, 3, none⟩) (show w.heap.size ≠ g by omega) (.int .i64 f2)
    have hSBb := (((hSBa.setCell (p := ⟨g, 0, none⟩) hs4 (.int .i64 t2)).setCell (p := ⟨g, 1, none⟩) hs4 (.string k2)).setCell (p := ⟨g, 2, none⟩) hs4 (.int .i64 m2)).setCell (p := ⟨g, 3, none⟩) hs4 (.int .i64 f2)
    have hGb := (((hG0a.setCell (p := ⟨g, 0, none⟩) (.inl hgw) (.int .i64 t2)).setCell (p := ⟨g, 1, none⟩) (.inl hgw) (.string k2)).setCell (p := ⟨g, 2, none⟩) (.inl hgw) (.int .i64 m2)).setCell (p := ⟨g, 3, none⟩) (.inl hgw) (.int .i64 f2)
    generalize (((wa.setCell ⟨g, 0, none⟩ (.int .i64 t2)).setCell ⟨g, 1, none⟩ (.string k2)).setCell ⟨g, 2, none⟩ (.int .i64 m2)).setCell ⟨g, 3, none⟩ (.int .i64 f2) = wb at hNb hBb hSBb hGb ⊢
    go_wp2_with (first | (refine wpList_load_row rfl 37 _ rfl g rfl 37 #[.int .i64 t2, .string k2, .int .i64 m2, .int .i64 f2] (0, 0) _ hNb Tryd.underlying37 rfl (rg_info (t2, k2, m2, f2)) ?_) | (refine wpList_store_row rfl 37 _ _ rfl w.heap.size #[.int .i64 t2, .string k2, .int .i64 m2, .int .i64 f2] rfl rfl 37 _ hBb (rg_info (t2, k2, m2, f2)) rfl (rg_one (t2, k2, m2, f2)) ?_))
    refine bodyPost_ret (results_cell_row rfl _ _ w.heap.size 37 #[.int .i64 t2, .string k2, .int .i64 m2, .int .i64 f2] (0, 0) _ rfl (hBb.setRow _) Tryd.underlying37 rfl (rg_info (t2, k2, m2, f2))) rfl ?_
    exact reading_fin (r := (t2, k2, m2, f2)) hslt ⟨HT2.out, HK2.out, HM2.out, HF2.out⟩ (hSBb.le (by omega)) hGb
end Go.Proofs.YtdcofbciebkfkaaDoor

/- Hires: what a function that Close hands on does with a hire. Its regions are written by gench.py. -/
namespace Go.Proofs.YtdcofbciebkfkaaDoor
open Go.RowKit

/-- The last leg comes in so. -/
def inL (l : List Lg) (r : Rg) : List Lg := match l[l.length - 1]? with
  | some x => l.set (l.length - 1) (x.1, x.2.1, r)
  | none => l
theorem inL_len (l : List Lg) (r : Rg) : (inL l r).length = l.length := by
  unfold inL
  split
  · simp
  · rfl
theorem LgOk.inL {l : List Lg} {r : Rg} (h : LgOk l) (hr : Small r.2.1) : LgOk (inL l r) := by
  unfold Go.Proofs.YtdcofbciebkfkaaDoor.inL
  split
  · next x hx =>
    intro y hy
    rcases List.mem_or_eq_of_mem_set hy with hy | rfl
    · exact h y hy
    · have := h x (List.mem_of_getElem? hx)
      exact ⟨this.1, this.2.1, hr⟩
  · exact h
theorem G.setCells (b : Nat) : ∀ (vs : List Value) (o : Nat) (w : World), G w (w.setCells b o vs) (some b)
  | [], _, _ => G.refl _ _
  | v :: r, o, w => by
    rw [World.setCells]
    exact ((G.refl w (some b)).setCell (p := ⟨b, o, none⟩) (.inr rfl) v).trans (G.setCells b r (o + 1) _)
theorem OwnX.form {α : Type} {T : TypeId} {z : Nat} {c : α → Array Value} {w : World} {base : Nat} {v : Value} {l : List α} (h : OwnX T z c w base v l) (h0 : 0 < l.length) : ∃ g cap cur, v = .slice (some ⟨g, 0, none⟩) l.length cap ∧ Bk w g T cur ∧ base ≤ g := by
  rcases h.2 with ⟨rfl, h3⟩ | ⟨g, cap, cur, rfl, hb, hg, _⟩
  · omega
  · exact ⟨g, cap, cur, rfl, hg, hb⟩
theorem there_lg {w : World} {base g1 cap : Nat} {l : List Lg} {p : Lg} (h : OwnLg w base (.slice (some ⟨g1, 0, none⟩) l.length cap) l) (hp : l[l.length - 1]? = some p) : w.there g1 ((l.length - 1) * 9 + 5) 4 := by
  obtain ⟨g, cap', cur, e, hB, -⟩ := OwnX.form h (by have := (List.getElem?_eq_some_iff.1 hp).1; omega)
  cases e
  intro j hj
  refine ⟨?_, hB.free _⟩
  obtain ⟨u, hu⟩ : ∃ u, (lgC p).toList[5 + j]? = some u := ⟨_, List.getElem?_eq_getElem (by simp [lgC]; omega)⟩
  have := RdR.cell lgC_sz (Rd.of_owns h) (G.refl w none) hp (5 + j) u hu
  rw [← Nat.add_assoc, Nat.zero_add] at this
  rw [this]
  rfl
theorem own_inL {w : World} {base g1 cap : Nat} {l : List Lg} {p : Lg} (h : OwnLg w base (.slice (some ⟨g1, 0, none⟩) l.length cap) l) (hp : l[l.length - 1]? = some p) (r : Rg) :
    OwnLg (w.setCells g1 ((l.length - 1) * 9 + 5) (#[.int .i64 r.1, .string r.2.1, .int .i64 r.2.2.1, .int .i64 r.2.2.2] : Array Value).toList) base (.slice (some ⟨g1, 0, none⟩) l.length cap) (inL l r) := by
  have e : inL l r = l.set (l.length - 1) (p.1, p.2.1, r) := by unfold inL; rw [hp]
  have hk := (List.getElem?_eq_some_iff.1 hp).1
  show World.ownsRow _ _ _ _ _ (inL l r).length _
  rw [inL_len, e]
  generalize l.length - 1 = k at hp hk ⊢
  have hs : ∀ q : Lg, (l.set k q)[k]? = some q := fun q => by rw [List.getElem?_set_self hk]
  have h1 := OwnX.set lgC_sz h hp 5 (.int .i64 r.1) (by omega) (q := (p.1, p.2.1, (r.1, p.2.2.2))) rfl
  have h2 := OwnX.set lgC_sz h1 (hs _) 6 (.string r.2.1) (by omega) (q := (p.1, p.2.1, (r.1, r.2.1, p.2.2.2.2))) rfl
  rw [List.set_set] at h2
  have h3 := OwnX.set lgC_sz h2 (hs _) 7 (.int .i64 r.2.2.1) (by omega) (q := (p.1, p.2.1, (r.1, r.2.1, r.2.2.1, p.2.2.2.2.2))) rfl
  rw [List.set_set] at h3
  have h4 := OwnX.set lgC_sz h3 (hs _) 8 (.int .i64 r.2.2.2) (by omega) (q := (p.1, p.2.1, r)) rfl
  rw [List.set_set] at h4
  exact h4
theorem cf_close : ∀ (args : Array Value) (w : World), (callFunc 95 args).run Tryd.prog w = .ok (.enter 95 args) w := fun args w => by kernel_rfl
theorem cf_closeR : ∀ (args : Array Value) (w : World), (callFunc 99 args).run Tryd.prog w = .ok (.enter 99 args) w := fun args w => by kernel_rfl
set_option maxRecDepth 100000 in
set_option maxHeartbeats 4000000 in
theorem close1_c (h : Hh) (l : List Lg) (r : Rg) (b : Nat) (A : World) (hB : Bk A b 37 (rgC r)) (h0 : 0 < l.length) (hn : l.length ≤ 1000) :
    ChFn 95 #[.pointer (some ⟨b, 0, none⟩)] h l h (inL l r) A := by
  intro w1 g base v1 hG hown hH hg hgb hbs
  have hb := hB.lt
  have hB1 := hB.quiet hG
  obtain ⟨g1, cap, cur, rfl, -, hg1⟩ := OwnX.form hown h0
  obtain ⟨p, hp⟩ : ∃ p, l[l.length - 1]? = some p := ⟨_, List.getElem?_eq_getElem (by omega)⟩
  have HP := Lib.hid hp
  have hne : g ≠ g1 := by omega
  have hnb : b ≠ g1 := by omega
  clear hp hB
  simp only [hiC, rgC] at hH hB1 ⊢
  go_enter Tryd.func95, Tryd.ntmps95
  have hH2 := hH.quiet ((G.refl w1 none).drew)
  have hB2 := hB1.quiet ((G.refl w1 none).drew)
  have HO2 := Lib.hid (OwnX.drew hown)
  have hG02 : G w1 w1.drew none := (G.refl w1 none).drew
  -- @REGION1
  refine wp_region_held_drew (S := (fun w' => w'.cell? ⟨g, 0, none⟩ = some (.string h.1) ∧ w'.cell? ⟨g, 1, none⟩ = some (.string h.2.1) ∧ w'.cell? ⟨g, 2, none⟩ = some (.int .i64 h.2.2.1) ∧ w'.cell? ⟨g, 3, none⟩ = some (.int .i64 h.2.2.2) ∧ w'.cell? ⟨g, 4, none⟩ = some (.slice (some ⟨g1, 0, none⟩) l.length cap) ∧ w'.cell? ⟨b, 0, none⟩ = some (.int .i64 r.1) ∧ w'.cell? ⟨b, 1, none⟩ = some (.string r.2.1) ∧ w'.cell? ⟨b, 2, none⟩ = some (.int .i64 r.2.2.1) ∧ w'.cell? ⟨b, 3, none⟩ = some (.int .i64 r.2.2.2))) (by kernel_rfl) ?_ (fun hHeld => ?_)
  · exact ⟨hH2.cell 0, hH2.cell 1, hH2.cell 2, hH2.cell 3, hH2.cell 4, hB2.cell 0, hB2.cell 1, hB2.cell 2, hB2.cell 3⟩
  refine wpAnyH_take (i := 0) (oi := { dst := some 3, op := Op.move (Operand.tmp 0), type := 134, pos := _, after := #[], guard := none }) (v := ?_) rfl (by kernel_rfl) (by kernel_rfl) (by kernel_rfl) (fun _ _ _ h => h) (Or.inl ⟨by rfl, ?_⟩) (by assumption) ?_
  rotate_left
  · (intro w hSw; obtain ⟨s0, s1, s2, s3, s4, s5, s6, s7, s8⟩ := hSw; (go_simp <;> with_reducible rfl))
  try simp only [Act.put, List.setIfInBounds_toArray, List.set_cons_zero, List.set_cons_succ]
  refine wpAnyH_take (i := 1) (oi := { dst := some 4, op := Op.nilCheck (Operand.tmp 3), type := 0, pos := _, after := #[{ on := 0, ground := Ground.data }], guard := none }) (v := ?_) rfl (by kernel_rfl) (by kernel_rfl) (by kernel_rfl) (fun _ _ _ h => h) (Or.inl ⟨by rfl, ?_⟩) (by assumption) ?_
  rotate_left
  · (intro w hSw; obtain ⟨s0, s1, s2, s3, s4, s5, s6, s7, s8⟩ := hSw; (go_simp <;> with_reducible rfl))
  try simp only [Act.put, List.setIfInBounds_toArray, List.set_cons_zero, List.set_cons_succ]
  refine wpAnyH_take (i := 2) (oi := { dst := some 5, op := Op.load 33 (Operand.tmp 4), type := 33, pos := _, after := #[{ on := 1, ground := Ground.data }], guard := none }) (v := ?_) rfl (by kernel_rfl) (by kernel_rfl) (by kernel_rfl) (fun _ _ _ h => h) (Or.inl ⟨by rfl, ?_⟩) (by assumption) ?_
  rotate_left
  · (intro w hSw; obtain ⟨s0, s1, s2, s3, s4, s5, s6, s7, s8⟩ := hSw; (go_simp <;> with_reducible rfl))
  try simp only [Act.put, List.setIfInBounds_toArray, List.set_cons_zero, List.set_cons_succ]
  refine wpAnyH_take (i := 4) (oi := { dst := some 7, op := Op.load 37 (Operand.tmp 1), type := 37, pos := _, after := #[], guard := none }) (v := ?_) rfl (by kernel_rfl) (by kernel_rfl) (by kernel_rfl) (fun _ _ _ h => h) (Or.inl ⟨by rfl, ?_⟩) (by assumption) ?_
  rotate_left
  · (intro w hSw; obtain ⟨s0, s1, s2, s3, s4, s5, s6, s7, s8⟩ := hSw; (go_simp <;> with_reducible rfl))
  try simp only [Act.put, List.setIfInBounds_toArray, List.set_cons_zero, List.set_cons_succ]
  refine wpAnyH_ready (rs := [3]) (by kernel_rfl) (by simp) ?_
  refine AllReadyH.cons (o := { dst := some 6, op := Op.call { callee := Callee.value (Operand.func 93), args := #[Operand.tmp 5], argTypes := #[33] }, type := 123, pos := _, after := #[{ on := 2, ground := Ground.data }], guard := none }) rfl (fun K hK => ?_) AllReadyH.nil
  go_simp
  refine (lastOf_c h g1 0 l.length cap _ h0 hn).mono ?_
  rintro e w3 ⟨rfl, hG3⟩
  have hH3 := hH2.quiet hG3
  have hB3 := hB2.quiet hG3
  have HO := Lib.hid (OwnX.quiet HO2.out hG3)
  have hG03 := hG02.trans hG3
  clear hG3
  refine hK.out _ _ ?_ (fun hHeld => ?_)
  · exact ⟨hH3.cell 0, hH3.cell 1, hH3.cell 2, hH3.cell 3, hH3.cell 4, hB3.cell 0, hB3.cell 1, hB3.cell 2, hB3.cell 3⟩
  clear hK K
  try simp only [Act.put, List.setIfInBounds_toArray, List.set_cons_zero, List.set_cons_succ]
  refine wpAnyH_take (i := 5) (oi := { dst := some 8, op := Op.nilCheck (Operand.tmp 6), type := 0, pos := _, after := #[{ on := 3, ground := Ground.data }, { on := 0, ground := Ground.phase }, { on := 1, ground := Ground.phase }, { on := 2, ground := Ground.phase }, { on := 3, ground := Ground.phase }, { on := 4, ground := Ground.phase }], guard := none }) (v := ?_) rfl (by kernel_rfl) (by kernel_rfl) (by kernel_rfl) (fun _ _ _ h => h) (Or.inl ⟨by rfl, ?_⟩) (by assumption) ?_
  rotate_left
  · (intro w hSw; obtain ⟨s0, s1, s2, s3, s4, s5, s6, s7, s8⟩ := hSw; (go_simp <;> with_reducible rfl))
  try simp only [Act.put, List.setIfInBounds_toArray, List.set_cons_zero, List.set_cons_succ]
  refine wpAnyH_take (i := 6) (oi := { dst := some 9, op := Op.fieldAddr 79 (Operand.tmp 8) 2, type := 0, pos := _, after := #[{ on := 5, ground := Ground.data }, { on := 0, ground := Ground.phase }, { on := 1, ground := Ground.phase }, { on := 2, ground := Ground.phase }, { on := 3, ground := Ground.phase }, { on := 4, ground := Ground.phase }], guard := none }) (v := ?_) rfl (by kernel_rfl) (by kernel_rfl) (by kernel_rfl) (fun _ _ _ h => h) (Or.inl ⟨by rfl, ?_⟩) (by assumption) ?_
  rotate_left
  · (intro w hSw; obtain ⟨s0, s1, s2, s3, s4, s5, s6, s7, s8⟩ := hSw; (go_simp <;> with_reducible rfl))
  try simp only [Act.put, List.setIfInBounds_toArray, List.set_cons_zero, List.set_cons_succ]
  refine wpAnyH_ready (rs := [7]) (by kernel_rfl) (by simp) ?_
  refine AllReadyH.cons (o := { dst := none, op := Op.store 37 (Operand.tmp 9) (Operand.tmp 7), type := 0, pos := _, after := #[{ on := 6, ground := Ground.data }, { on := 4, ground := Ground.data }, { on := 3, ground := Ground.chain }, { on := 0, ground := Ground.phase }, { on := 1, ground := Ground.phase }, { on := 2, ground := Ground.phase }, { on := 3, ground := Ground.phase }, { on := 4, ground := Ground.phase }], guard := none }) rfl (fun K hK => ?_) AllReadyH.nil
  refine st_wp rfl (wp_store_mid 37 _ _ rfl g1 ((l.length - 1) * 9 + 5) #[.int .i64 r.1, .string r.2.1, .int .i64 r.2.2.1, .int .i64 r.2.2.2] rfl rfl (there_lg HO.out HP.out) (rg_info r) (rg_one r) ?_)
  have hQ := own_inL HO.out HP.out r
  have hGs := G.setCells g1 (#[.int .i64 r.1, .string r.2.1, .int .i64 r.2.2.1, .int .i64 r.2.2.2] : Array Value).toList ((l.length - 1) * 9 + 5) w3
  have hH4 := hH3.grown hGs (fun e => hne (Option.some.inj e))
  have hB4 := hB3.grown hGs (fun e => hnb (Option.some.inj e))
  refine hK.out _ _ ?_ (fun hHeld => ?_)
  · exact ⟨hH4.cell 0, hH4.cell 1, hH4.cell 2, hH4.cell 3, hH4.cell 4, hB4.cell 0, hB4.cell 1, hB4.cell 2, hB4.cell 3⟩
  clear hK K
  try simp only [Act.put, List.setIfInBounds_toArray, List.set_cons_zero, List.set_cons_succ]
  refine wpAnyH_done (by kernel_rfl) ?_ _
  -- @END1
  go_wp2_with fail
  (try simp only [Exit.inBlock, Exit.then])
  refine bodyPost_end (results_none rfl _ _ _) rfl ?_
  exact ⟨rfl, _, hH4, Rd.of_owns hQ, fun k e => by cases e; exact hg1, (GS.of_G hG03).trans (GS.of_Gs hGs (.inr rfl))⟩
set_option maxRecDepth 100000 in
set_option maxHeartbeats 4000000 in
theorem closeR1_c (h : Hh) (l : List Lg) (r : Rg) (b : Nat) (A : World) (hB : Bk A b 37 (rgC r)) (h0 : 0 < l.length) (hn : l.length ≤ 1000) :
    ChFn 99 #[.pointer (some ⟨b, 0, none⟩)] h l h (inL l r) A := by
  intro w1 g base v1 hG hown hH hg hgb hbs
  have hb := hB.lt
  have hB1 := hB.quiet hG
  obtain ⟨g1, cap, cur, rfl, -, hg1⟩ := OwnX.form hown h0
  obtain ⟨p, hp⟩ : ∃ p, l[l.length - 1]? = some p := ⟨_, List.getElem?_eq_getElem (by omega)⟩
  have hne : g ≠ g1 := by omega
  have hnb : b ≠ g1 := by omega
  clear hB
  simp only [hiC, rgC] at hH hB1 ⊢
  go_enter Tryd.func99, Tryd.ntmps99
  have hH2 := hH.quiet ((G.refl w1 none).drew)
  have hB2 := hB1.quiet ((G.refl w1 none).drew)
  have HTH := Lib.hid (there_lg (OwnX.drew hown) hp)
  have hQ := Lib.hid (own_inL (OwnX.drew hown) hp r)
  have hG02 : G w1 w1.drew none := (G.refl w1 none).drew
  obtain ⟨m, hm⟩ : ∃ m, l.length - 1 = m := ⟨_, rfl⟩
  have hw : IntKind.i64.wrap ((l.length : Int) - 1) = (m : Int) := by rw [IntKind.wrap_i64]; omega
  have hlt : m < l.length := by omega
  rw [hm] at HTH hQ
  clear hm hp
  -- @REGION2
  refine wp_region_held_drew (S := (fun w' => w'.cell? ⟨g, 0, none⟩ = some (.string h.1) ∧ w'.cell? ⟨g, 1, none⟩ = some (.string h.2.1) ∧ w'.cell? ⟨g, 2, none⟩ = some (.int .i64 h.2.2.1) ∧ w'.cell? ⟨g, 3, none⟩ = some (.int .i64 h.2.2.2) ∧ w'.cell? ⟨g, 4, none⟩ = some (.slice (some ⟨g1, 0, none⟩) l.length cap) ∧ w'.cell? ⟨b, 0, none⟩ = some (.int .i64 r.1) ∧ w'.cell? ⟨b, 1, none⟩ = some (.string r.2.1) ∧ w'.cell? ⟨b, 2, none⟩ = some (.int .i64 r.2.2.1) ∧ w'.cell? ⟨b, 3, none⟩ = some (.int .i64 r.2.2.2))) (by kernel_rfl) ?_ (fun hHeld => ?_)
  · exact ⟨hH2.cell 0, hH2.cell 1, hH2.cell 2, hH2.cell 3, hH2.cell 4, hB2.cell 0, hB2.cell 1, hB2.cell 2, hB2.cell 3⟩
  refine wpAnyH_take (i := 0) (oi := { dst := some 3, op := Op.move (Operand.tmp 0), type := 134, pos := _, after := #[], guard := none }) (v := ?_) rfl (by kernel_rfl) (by kernel_rfl) (by kernel_rfl) (fun _ _ _ h => h) (Or.inl ⟨by rfl, ?_⟩) (by assumption) ?_
  rotate_left
  · (intro w hSw; obtain ⟨s0, s1, s2, s3, s4, s5, s6, s7, s8⟩ := hSw; (go_simp <;> with_reducible rfl))
  try simp only [Act.put, List.setIfInBounds_toArray, List.set_cons_zero, List.set_cons_succ]
  refine wpAnyH_take (i := 1) (oi := { dst := some 4, op := Op.nilCheck (Operand.tmp 3), type := 0, pos := _, after := #[{ on := 0, ground := Ground.data }], guard := none }) (v := ?_) rfl (by kernel_rfl) (by kernel_rfl) (by kernel_rfl) (fun _ _ _ h => h) (Or.inl ⟨by rfl, ?_⟩) (by assumption) ?_
  rotate_left
  · (intro w hSw; obtain ⟨s0, s1, s2, s3, s4, s5, s6, s7, s8⟩ := hSw; (go_simp <;> with_reducible rfl))
  try simp only [Act.put, List.setIfInBounds_toArray, List.set_cons_zero, List.set_cons_succ]
  refine wpAnyH_take (i := 2) (oi := { dst := some 5, op := Op.fieldAddr 33 (Operand.tmp 4) 3, type := 0, pos := _, after := #[{ on := 1, ground := Ground.data }], guard := none }) (v := ?_) rfl (by kernel_rfl) (by kernel_rfl) (by kernel_rfl) (fun _ _ _ h => h) (Or.inl ⟨by rfl, ?_⟩) (by assumption) ?_
  rotate_left
  · (intro w hSw; obtain ⟨s0, s1, s2, s3, s4, s5, s6, s7, s8⟩ := hSw; (go_simp <;> with_reducible rfl))
  try simp only [Act.put, List.setIfInBounds_toArray, List.set_cons_zero, List.set_cons_succ]
  refine wpAnyH_take (i := 3) (oi := { dst := some 6, op := Op.load 31 (Operand.tmp 5), type := 31, pos := _, after := #[{ on := 2, ground := Ground.data }], guard := none }) (v := ?_) rfl (by kernel_rfl) (by kernel_rfl) (by kernel_rfl) (fun _ _ _ h => h) (Or.inl ⟨by rfl, ?_⟩) (by assumption) ?_
  rotate_left
  · (intro w hSw; obtain ⟨s0, s1, s2, s3, s4, s5, s6, s7, s8⟩ := hSw; (go_simp <;> with_reducible rfl))
  try simp only [Act.put, List.setIfInBounds_toArray, List.set_cons_zero, List.set_cons_succ]
  refine wpAnyH_take (i := 4) (oi := { dst := some 7, op := Op.move (Operand.tmp 0), type := 134, pos := _, after := #[], guard := none }) (v := ?_) rfl (by kernel_rfl) (by kernel_rfl) (by kernel_rfl) (fun _ _ _ h => h) (Or.inl ⟨by rfl, ?_⟩) (by assumption) ?_
  rotate_left
  · (intro w hSw; obtain ⟨s0, s1, s2, s3, s4, s5, s6, s7, s8⟩ := hSw; (go_simp <;> with_reducible rfl))
  try simp only [Act.put, List.setIfInBounds_toArray, List.set_cons_zero, List.set_cons_succ]
  refine wpAnyH_take (i := 5) (oi := { dst := some 8, op := Op.nilCheck (Operand.tmp 7), type := 0, pos := _, after := #[{ on := 4, ground := Ground.data }], guard := none }) (v := ?_) rfl (by kernel_rfl) (by kernel_rfl) (by kernel_rfl) (fun _ _ _ h => h) (Or.inl ⟨by rfl, ?_⟩) (by assumption) ?_
  rotate_left
  · (intro w hSw; obtain ⟨s0, s1, s2, s3, s4, s5, s6, s7, s8⟩ := hSw; (go_simp <;> with_reducible rfl))
  try simp only [Act.put, List.setIfInBounds_toArray, List.set_cons_zero, List.set_cons_succ]
  refine wpAnyH_take (i := 6) (oi := { dst := some 9, op := Op.fieldAddr 33 (Operand.tmp 8) 3, type := 0, pos := _, after := #[{ on := 5, ground := Ground.data }], guard := none }) (v := ?_) rfl (by kernel_rfl) (by kernel_rfl) (by kernel_rfl) (fun _ _ _ h => h) (Or.inl ⟨by rfl, ?_⟩) (by assumption) ?_
  rotate_left
  · (intro w hSw; obtain ⟨s0, s1, s2, s3, s4, s5, s6, s7, s8⟩ := hSw; (go_simp <;> with_reducible rfl))
  try simp only [Act.put, List.setIfInBounds_toArray, List.set_cons_zero, List.set_cons_succ]
  refine wpAnyH_take (i := 7) (oi := { dst := some 10, op := Op.load 31 (Operand.tmp 9), type := 31, pos := _, after := #[{ on := 6, ground := Ground.data }], guard := none }) (v := ?_) rfl (by kernel_rfl) (by kernel_rfl) (by kernel_rfl) (fun _ _ _ h => h) (Or.inl ⟨by rfl, ?_⟩) (by assumption) ?_
  rotate_left
  · (intro w hSw; obtain ⟨s0, s1, s2, s3, s4, s5, s6, s7, s8⟩ := hSw; (go_simp <;> with_reducible rfl))
  try simp only [Act.put, List.setIfInBounds_toArray, List.set_cons_zero, List.set_cons_succ]
  refine wpAnyH_take (i := 8) (oi := { dst := some 11, op := Op.call { callee := Callee.builtin Builtin.len, args := #[Operand.tmp 10], argTypes := #[31] }, type := 3, pos := _, after := #[{ on := 7, ground := Ground.data }], guard := none }) (v := ?_) rfl (by kernel_rfl) (by kernel_rfl) (by kernel_rfl) (fun _ _ _ h => h) (Or.inl ⟨by rfl, ?_⟩) (by assumption) ?_
  rotate_left
  · (intro w hSw; obtain ⟨s0, s1, s2, s3, s4, s5, s6, s7, s8⟩ := hSw; (go_simp <;> with_reducible rfl))
  try simp only [Act.put, List.setIfInBounds_toArray, List.set_cons_zero, List.set_cons_succ]
  refine wpAnyH_take (i := 9) (oi := { dst := some 12, op := Op.binOp BinOp.sub 3 (Operand.tmp 11) (Operand.const (Value.int IntKind.i64 1)) 3, type := 3, pos := _, after := #[{ on := 8, ground := Ground.data }], guard := none }) (v := ?_) rfl (by kernel_rfl) (by kernel_rfl) (by kernel_rfl) (fun _ _ _ h => h) (Or.inl ⟨by rfl, ?_⟩) (by assumption) ?_
  rotate_left
  · (intro w hSw; obtain ⟨s0, s1, s2, s3, s4, s5, s6, s7, s8⟩ := hSw; (go_simp <;> with_reducible rfl))
  try simp only [Act.put, List.setIfInBounds_toArray, List.set_cons_zero, List.set_cons_succ]
  refine wpAnyH_take (i := 10) (oi := { dst := some 13, op := Op.load 37 (Operand.tmp 1), type := 37, pos := _, after := #[], guard := none }) (v := ?_) rfl (by kernel_rfl) (by kernel_rfl) (by kernel_rfl) (fun _ _ _ h => h) (Or.inl ⟨by rfl, ?_⟩) (by assumption) ?_
  rotate_left
  · (intro w hSw; obtain ⟨s0, s1, s2, s3, s4, s5, s6, s7, s8⟩ := hSw; (go_simp <;> with_reducible rfl))
  try simp only [Act.put, List.setIfInBounds_toArray, List.set_cons_zero, List.set_cons_succ]
  refine wpAnyH_take (i := 11) (oi := { dst := some 14, op := Op.indexAddr 31 (Operand.tmp 6) (Operand.tmp 12), type := 0, pos := _, after := #[{ on := 3, ground := Ground.data }, { on := 9, ground := Ground.data }, { on := 0, ground := Ground.phase }, { on := 1, ground := Ground.phase }, { on := 2, ground := Ground.phase }, { on := 3, ground := Ground.phase }, { on := 4, ground := Ground.phase }, { on := 5, ground := Ground.phase }, { on := 6, ground := Ground.phase }, { on := 7, ground := Ground.phase }, { on := 8, ground := Ground.phase }, { on := 9, ground := Ground.phase }, { on := 10, ground := Ground.phase }], guard := none }) (v := ?_) rfl (by kernel_rfl) (by kernel_rfl) (by kernel_rfl) (fun _ _ _ h => h) (Or.inl ⟨by rfl, ?_⟩) (by assumption) ?_
  rotate_left
  · (intro w hSw; obtain ⟨s0, s1, s2, s3, s4, s5, s6, s7, s8⟩ := hSw; (go_simp <;> with_reducible rfl))
  try simp only [Act.put, List.setIfInBounds_toArray, List.set_cons_zero, List.set_cons_succ]
  refine wpAnyH_take (i := 12) (oi := { dst := some 15, op := Op.fieldAddr 79 (Operand.tmp 14) 2, type := 0, pos := _, after := #[{ on := 11, ground := Ground.data }, { on := 0, ground := Ground.phase }, { on := 1, ground := Ground.phase }, { on := 2, ground := Ground.phase }, { on := 3, ground := Ground.phase }, { on := 4, ground := Ground.phase }, { on := 5, ground := Ground.phase }, { on := 6, ground := Ground.phase }, { on := 7, ground := Ground.phase }, { on := 8, ground := Ground.phase }, { on := 9, ground := Ground.phase }, { on := 10, ground := Ground.phase }], guard := none }) (v := ?_) rfl (by kernel_rfl) (by kernel_rfl) (by kernel_rfl) (fun _ _ _ h => h) (Or.inl ⟨by rfl, ?_⟩) (by assumption) ?_
  rotate_left
  · (intro w hSw; obtain ⟨s0, s1, s2, s3, s4, s5, s6, s7, s8⟩ := hSw; (go_simp <;> with_reducible rfl))
  try simp only [Act.put, List.setIfInBounds_toArray, List.set_cons_zero, List.set_cons_succ]
  refine wpAnyH_ready (rs := [13]) (by kernel_rfl) (by simp) ?_
  refine AllReadyH.cons (o := { dst := none, op := Op.store 37 (Operand.tmp 15) (Operand.tmp 13), type := 0, pos := _, after := #[{ on := 12, ground := Ground.data }, { on := 10, ground := Ground.data }, { on := 0, ground := Ground.phase }, { on := 1, ground := Ground.phase }, { on := 2, ground := Ground.phase }, { on := 3, ground := Ground.phase }, { on := 4, ground := Ground.phase }, { on := 5, ground := Ground.phase }, { on := 6, ground := Ground.phase }, { on := 7, ground := Ground.phase }, { on := 8, ground := Ground.phase }, { on := 9, ground := Ground.phase }, { on := 10, ground := Ground.phase }], guard := none }) rfl (fun K hK => ?_) AllReadyH.nil
  refine st_wp rfl (wp_store_mid 37 _ _ rfl g1 (m * 9 + 5) #[.int .i64 r.1, .string r.2.1, .int .i64 r.2.2.1, .int .i64 r.2.2.2] rfl rfl (HTH.out) (rg_info r) (rg_one r) ?_)
  have hGs := G.setCells g1 (#[.int .i64 r.1, .string r.2.1, .int .i64 r.2.2.1, .int .i64 r.2.2.2] : Array Value).toList (m * 9 + 5) w1.drew
  have hH4 := hH2.grown hGs (fun e => hne (Option.some.inj e))
  have hB4 := hB2.grown hGs (fun e => hnb (Option.some.inj e))
  refine hK.out _ _ ?_ (fun hHeld => ?_)
  · exact ⟨hH4.cell 0, hH4.cell 1, hH4.cell 2, hH4.cell 3, hH4.cell 4, hB4.cell 0, hB4.cell 1, hB4.cell 2, hB4.cell 3⟩
  clear hK K
  try simp only [Act.put, List.setIfInBounds_toArray, List.set_cons_zero, List.set_cons_succ]
  refine wpAnyH_done (by kernel_rfl) ?_ _
  -- @END2
  go_wp2_with fail
  (try simp only [Exit.inBlock, Exit.then])
  refine bodyPost_end (results_none rfl _ _ _) rfl ?_
  exact ⟨rfl, _, hH4, Rd.of_owns hQ.out, fun k e => by cases e; exact hg1, (GS.of_G hG02).trans (GS.of_Gs hGs (.inr rfl))⟩
end Go.Proofs.YtdcofbciebkfkaaDoor
