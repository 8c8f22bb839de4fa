/- Hir, Hik, Hif, His, Hxs, Ows, Gld, Las, Reg. -/
import Derived.Test.YtdcofbciebkfkaaDoorZm1
import Derived.Laws.StructEq
import Derived.Deep.CutRange
import Derived.Deep.RegionHeld3
import Derived.Laws.ResultCell
import Derived.RegionTactic
/- Hires: readings, legs; checkReading, checkBegin, isOut, checkEnd. -/
namespace Go.Proofs.YtdcofbciebkfkaaDoor
open Go.RowKit

/-- A reading: at, station, meter, fuel. -/
abbrev Rg := Int × ByteArray × Int × Int
def rgC (x : Rg) : Array Value := #[.int .i64 x.1, .string x.2.1, .int .i64 x.2.2.1, .int .i64 x.2.2.2]
theorem rg_info (x : Rg) : (Tryd.prog.info? 37).map (·.size) = some (rgC x).size := (by kernel_rfl : (Tryd.prog.info? 37).map (·.size) = some 4)
def rgE (x : Rg) : Int := if momB x.1 = false then 1 else if keyB x.2.1 = false then 5 else if inB x.2.2.1 0 999999 = false then 1 else if inB x.2.2.2 0 8 = false then 1 else 0
/-- A leg: vehicle, out, in. -/
abbrev Lg := ByteArray × Rg × Rg
def lgC (x : Lg) : Array Value := #[.string x.1, .int .i64 x.2.1.1, .string x.2.1.2.1, .int .i64 x.2.1.2.2.1, .int .i64 x.2.1.2.2.2, .int .i64 x.2.2.1, .string x.2.2.2.1, .int .i64 x.2.2.2.2.1, .int .i64 x.2.2.2.2.2]
theorem lgC_sz (x : Lg) : (lgC x).size = 9 := rfl
theorem lg_info (x : Lg) : (Tryd.prog.info? 79).map (·.size) = some (lgC x).size := (by kernel_rfl : (Tryd.prog.info? 79).map (·.size) = some 9)
def lgB (x : Lg) : Prop := Small x.1 ∧ Small x.2.1.2.1 ∧ Small x.2.2.2.1
def LgOk (l : List Lg) : Prop := ∀ x ∈ l, lgB x
/-- A hire's head: key, driver, from, to; the cells of a hire. -/
abbrev Hh := ByteArray × ByteArray × Int × Int
def hiC (h : Hh) (v : Value) : Array Value := #[.string h.1, .string h.2.1, .int .i64 h.2.2.1, .int .i64 h.2.2.2, v]
theorem hi_info (h : Hh) (v : Value) : (Tryd.prog.info? 33).map (·.size) = some (hiC h v).size := (by kernel_rfl : (Tryd.prog.info? 33).map (·.size) = some 5)
def noIn : Rg := (-1, ⟨#[]⟩, 0, 0)
def beE (f : Int) (b : Option Lg) (x : Lg) : Int := match b with
  | none => if x.2.1.1 = f then 0 else 7
  | some y => if x.2.1.1 = y.2.2.1 then (if x.1 = y.1 then 16 else if x.2.1.2.1 = y.2.2.2.1 then 0 else 8) else 7
def enE (last : Bool) (x : Lg) : Int := if x.2.2.1 = -1 then (if x.2.2 = noIn then (if last = true then 0 else 11) else 3) else if rgE x.2.2 = 0 then (if x.2.2.1 ≤ x.2.1.1 then 7 else 0) else rgE x.2.2
def lgE (f : Int) (b : Option Lg) (last : Bool) (x : Lg) : Int := if keyB x.1 = false then 5 else if rgE x.2.1 = 0 then (if beE f b x = 0 then enE last x else beE f b x) else rgE x.2.1
def lsE (f : Int) : Option Lg → List Lg → Int
  | _, [] => 0
  | b, x :: r => if lgE f b r.isEmpty x = 0 then lsE f (some x) r else lgE f b r.isEmpty x
def hiE (h : Hh) (l : List Lg) : Int := if keyB h.1 = false then 5 else if keyB h.2.1 = false then 5 else if tE h.2.2.1 h.2.2.2 = 0 then (if l.length = 0 then 3 else if 20 < l.length then 2 else lsE h.2.2.1 none l) else tE h.2.2.1 h.2.2.2
theorem Bk.part {w : World} {g : Nat} {T : TypeId} {cs : Array Value} (h : Bk w g T cs) (k : Nat) (ds : Array Value) (hd : ∀ j u, ds.toList[j]? = some u → cs[k + j]? = some u) : ∀ j u, ds.toList[j]? = some u → w.cell? ((⟨g, k, none⟩ : Addr).add j) = some u := fun j u hu => by
  rw [add_at, h.cell]
  exact hd j u hu
theorem lg_out (x : Lg) : ∀ j u, (#[.int .i64 x.2.1.1, .string x.2.1.2.1, .int .i64 x.2.1.2.2.1, .int .i64 x.2.1.2.2.2] : Array Value).toList[j]? = some u → (lgC x)[1 + j]? = some u := fun j u hu => by
  match j, hu with
  | 0, hu => exact hu
  | 1, hu => exact hu
  | 2, hu => exact hu
  | 3, hu => exact hu
  | n + 4, hu => simp at hu
theorem lg_in (x : Lg) : ∀ j u, (#[.int .i64 x.2.2.1, .string x.2.2.2.1, .int .i64 x.2.2.2.2.1, .int .i64 x.2.2.2.2.2] : Array Value).toList[j]? = some u → (lgC x)[5 + j]? = some u := fun j u hu => by
  match j, hu with
  | 0, hu => exact hu
  | 1, hu => exact hu
  | 2, hu => exact hu
  | 3, hu => exact hu
  | n + 4, hu => simp at hu
theorem lgRow {W w : World} {bb bo n cap : Nat} {l : List Lg} (h : RdR W 9 lgC (.slice (some ⟨bb, bo, none⟩) n cap) l) (hG : G W w none) {k : Nat} {p : Lg} (hp : l[k]? = some p) :
    ∀ j v, (lgC p).toList[j]? = some v → w.cell? ((⟨bb, bo + k * 9, none⟩ : Addr).add j) = some v := fun j v hv => by
  rw [add_at]
  exact RdR.cell lgC_sz h hG hp j v hv
theorem drop_empty {α : Type} (l : List α) (k : Nat) : (l.drop k).isEmpty = decide (l.length ≤ k) := by
  by_cases h : l.length ≤ k
  · rw [List.drop_eq_nil_of_le h, decide_eq_true h]; rfl
  · rw [decide_eq_false h]
    cases hd : l.drop k with
    | nil => have := List.drop_eq_nil_iff.1 hd; omega
    | cons _ _ => rfl
theorem toList_ext {a b : ByteArray} (h : a.toList = b.toList) : a = b := by
  rw [ByteArray.toList_eq, ByteArray.toList_eq] at h
  exact ByteArray.ext (Array.toList_inj.1 h)
theorem rg_neq (x y : Rg) (w : World) : (binOp .neq 37 (.agg #[.int .i64 x.1, .string x.2.1, .int .i64 x.2.2.1, .int .i64 x.2.2.2]) (.agg #[.int .i64 y.1, .string y.2.1, .int .i64 y.2.2.1, .int .i64 y.2.2.2])).run Tryd.prog w = .ok (.bool (!(decide (x = y)))) w := by
  obtain ⟨a, b, c, d⟩ := x
  obtain ⟨e, f, g, h⟩ := y
  have ht : Tryd.prog.underlying 37 = some (.struct (Tryd.prog.fieldsOf 37)) := by kernel_rfl
  have hp : Tryd.prog.stoodInHeld 37 = false := by kernel_rfl
  rw [run_neq_struct, run_equalIn_agg w 9999 37 _ _ ht hp]
  simp [Tryd.underlying37, Tryd.underlying3, Tryd.underlying9, go_sem]
  by_cases h1 : a = e
  · by_cases h2 : b = f
    · subst h2
      by_cases h3 : c = g <;> by_cases h4 : d = h <;> simp [h1, h3, h4]
    · have h2' : ¬ b.toList = f.toList := fun e => h2 (toList_ext e)
      simp [h1, h2, h2']
  · simp [h1]
set_option maxRecDepth 100000 in
set_option maxHeartbeats 2000000 in
theorem checkReading_c (x : Rg) (w : World) (hs : Small x.2.1) :
    Calls Tryd.prog 143 #[.agg (rgC x)] w fun e w' => e = .returned (.int .i64 (rgE x)) ∧ G w w' none := by
  have hG1 := (G.refl w none).alloc (.cells (rgC x) 37)
  unfold Small at hs
  obtain ⟨t, s, m, f⟩ := x
  simp only [rgC] at hG1 hs ⊢
  have HE : Hid (rgE (t, s, m, f) = if momB t = false then 1 else if keyB s = false then 5 else if inB m 0 999999 = false then 1 else if inB f 0 8 = false then 1 else 0) := Lib.hid rfl
  generalize rgE (t, s, m, f) = R at HE ⊢
  go_enter Tryd.func143, Tryd.ntmps143
  go_wp2_with fail
  refine (isMoment_c t _).mono ?_; rintro e w1 ⟨rfl, rfl⟩
  cases k1 : momB t with
  | false =>
    have HF : Hid (R = 1) := Lib.hid (by rw [HE.out, if_pos k1])
    clear k1
    go_wp2_with fail
    go_ret
    exact ⟨ret_int HF.out.symm, hG1⟩
  | true =>
    have HE : Hid (R = if keyB s = false then 5 else if inB m 0 999999 = false then 1 else if inB f 0 8 = false then 1 else 0) := Lib.hid (by rw [HE.out, if_neg (by simp [k1])])
    clear k1
    go_wp2_with fail
    refine (isKey_c s _ hs).mono ?_; rintro e w1 ⟨rfl, rfl⟩
    cases k2 : keyB s with
    | false =>
      have HF : Hid (R = 5) := Lib.hid (by rw [HE.out, if_pos k2])
      clear k2
      go_wp2_with fail
      go_ret
      exact ⟨ret_int HF.out.symm, hG1⟩
    | true =>
      have HE : Hid (R = if inB m 0 999999 = false then 1 else if inB f 0 8 = false then 1 else 0) := Lib.hid (by rw [HE.out, if_neg (by simp [k2])])
      clear k2
      go_wp2_with fail
      refine (within_c m 0 999999 _).mono ?_; rintro e w1 ⟨rfl, rfl⟩
      cases k3 : inB m 0 999999 with
      | false =>
        have HF : Hid (R = 1) := Lib.hid (by rw [HE.out, if_pos k3])
        clear k3
        go_wp2_with fail
        go_ret
        exact ⟨ret_int HF.out.symm, hG1⟩
      | true =>
        have HE : Hid (R = if inB f 0 8 = false then 1 else 0) := Lib.hid (by rw [HE.out, if_neg (by simp [k3])])
        clear k3
        go_wp2_with fail
        refine (within_c f 0 8 _).mono ?_; rintro e w1 ⟨rfl, rfl⟩
        cases k4 : inB f 0 8 with
        | false =>
          have HF : Hid (R = 1) := Lib.hid (by rw [HE.out, if_pos k4])
          clear k4
          go_wp2_with fail
          go_ret
          exact ⟨ret_int HF.out.symm, hG1⟩
        | true =>
          have HF : Hid (R = 0) := Lib.hid (by rw [HE.out, if_neg (by simp [k4])])
          clear k4
          go_wp2_with fail
          go_ret
          exact ⟨ret_int HF.out.symm, hG1⟩
set_option maxRecDepth 100000 in
theorem isOut_c (p : Lg) (w : World) : Calls Tryd.prog 148 #[.agg (lgC p)] w fun e w' => e = .returned (.bool (p.2.2.1 == -1)) ∧ G w w' none := by
  have hG1 := (G.refl w none).alloc (.cells (lgC p) 79)
  obtain ⟨p1, ⟨o1, o2, o3, o4⟩, i1, i2, i3, i4⟩ := p
  simp only [lgC] at hG1 ⊢
  go_enter Tryd.func148, Tryd.ntmps148
  go_wp2_with fail
  go_ret
  exact ⟨rfl, hG1⟩
set_option maxRecDepth 100000 in
set_option maxHeartbeats 4000000 in
theorem checkBegin_c (h : Hh) (v : Value) (l : List Lg) (k : Nat) (p : Lg) (w : World) (hr : RdR w 9 lgC v l) (hp : l[k]? = some p) (hn : l.length ≤ 1000) :
    Calls Tryd.prog 144 #[.agg (hiC h v), .int .i64 k] w fun e w' => e = .returned (.int .i64 (beE h.2.2.1 (prevAt l k) p)) ∧ G w w' none := by
  have hH := Bk.new w 33 (hiC h v)
  have hGH := (G.refl w none).alloc (.cells (hiC h v) 33)
  have HR := Lib.hid (hr.quiet hGH)
  obtain ⟨a, cap, rfl, hcap, hm⟩ := RdR.form hr
  clear hr
  have hk : k < l.length := (List.getElem?_eq_some_iff.1 hp).1
  obtain ⟨bb, bo, rfl, -, -⟩ := RdR.elem lgC_sz HR.out (G.refl _ none) hp
  have HW := Lib.hid (lgRow HR.out (G.refl _ none) hp)
  have HP := Lib.hid hp
  clear hp
  simp only [hiC] at hH hGH HR HW ⊢
  go_enter Tryd.func144, Tryd.ntmps144
  go_upto_if 13 with (refine wpList_load_at rfl 79 _ rfl ⟨bb, bo + k * 9, none⟩ rfl #[.string p.1, .int .i64 p.2.1.1, .string p.2.1.2.1, .int .i64 p.2.1.2.2.1, .int .i64 p.2.1.2.2.2, .int .i64 p.2.2.1, .string p.2.2.2.1, .int .i64 p.2.2.2.2.1, .int .i64 p.2.2.2.2.2] _ HW.out Tryd.underlying79 rfl (lg_info p) ?_)
  have hL : Bk ((w.alloc (.cells #[.string h.1, .string h.2.1, .int .i64 h.2.2.1, .int .i64 h.2.2.2, .slice (some ⟨bb, bo, none⟩) l.length cap] 33)).alloc (.cells #[.string p.1, .int .i64 p.2.1.1, .string p.2.1.2.1, .int .i64 p.2.1.2.2.1, .int .i64 p.2.1.2.2.2, .int .i64 p.2.2.1, .string p.2.2.2.1, .int .i64 p.2.2.2.2.1, .int .i64 p.2.2.2.2.2] 79)) (w.heap.size + 1) 79 (lgC p) := Bk.newAt (by simp) _ _
  have hG := hGH.alloc (.cells #[.string p.1, .int .i64 p.2.1.1, .string p.2.1.2.1, .int .i64 p.2.1.2.2.1, .int .i64 p.2.1.2.2.2, .int .i64 p.2.2.1, .string p.2.2.2.1, .int .i64 p.2.2.2.2.1, .int .i64 p.2.2.2.2.2] 79)
  have hH := hH.alloc (.cells #[.string p.1, .int .i64 p.2.1.1, .string p.2.1.2.1, .int .i64 p.2.1.2.2.1, .int .i64 p.2.1.2.2.2, .int .i64 p.2.2.1, .string p.2.2.2.1, .int .i64 p.2.2.2.2.1, .int .i64 p.2.2.2.2.2] 79)
  have HR := Lib.hid (HR.out.quiet ((G.refl _ none).alloc (.cells #[.string p.1, .int .i64 p.2.1.1, .string p.2.1.2.1, .int .i64 p.2.1.2.2.1, .int .i64 p.2.1.2.2.2, .int .i64 p.2.2.1, .string p.2.2.2.1, .int .i64 p.2.2.2.2.1, .int .i64 p.2.2.2.2.2] 79)))
  clear HW hGH
  generalize (w.alloc (.cells #[.string h.1, .string h.2.1, .int .i64 h.2.2.1, .int .i64 h.2.2.2, .slice (some ⟨bb, bo, none⟩) l.length cap] 33)).alloc (.cells #[.string p.1, .int .i64 p.2.1.1, .string p.2.1.2.1, .int .i64 p.2.1.2.2.1, .int .i64 p.2.1.2.2.2, .int .i64 p.2.2.1, .string p.2.2.2.1, .int .i64 p.2.2.2.2.1, .int .i64 p.2.2.2.2.2] 79) = w2 at hL hG hH HR ⊢
  have c1 : w2.cell? ⟨w.heap.size + 1, 1, none⟩ = some (.int .i64 p.2.1.1) := hL.cell 1
  have d2 : w2.cell? ⟨w.heap.size, 2, none⟩ = some (.int .i64 h.2.2.1) := hH.cell 2
  cases k with
  | zero =>
    by_cases hq : p.2.1.1 = h.2.2.1
    · have HF : Hid (beE h.2.2.1 (prevAt l 0) p = 0) := Lib.hid (if_pos hq)
      go_wp2_with fail
      go_ret
      exact ⟨ret_int HF.out.symm, hG⟩
    · have HF : Hid (beE h.2.2.1 (prevAt l 0) p = 7) := Lib.hid (if_neg hq)
      go_wp2_with fail
      go_ret
      exact ⟨ret_int HF.out.symm, hG⟩
  | succ m =>
    obtain ⟨q, hq2⟩ : ∃ q, l[m]? = some q := ⟨_, List.getElem?_eq_getElem (by omega)⟩
    have HA : Hid (beE h.2.2.1 (prevAt l (m + 1)) p = if p.2.1.1 = q.2.2.1 then (if p.1 = q.1 then 16 else if p.2.1.2.1 = q.2.2.2.1 then 0 else 8) else 7) := Lib.hid (by rw [prevAt_succ l m q hq2]; rfl)
    have hsub : IntKind.i64.wrap (((m + 1 : Nat) : Int) - 1) = (m : Int) := by rw [show ((m + 1 : Nat) : Int) - 1 = (m : Int) by omega]; rw [IntKind.wrap_i64]; omega
    have hsub2 : IntKind.i64.wrap (m : Int) = (m : Int) := by rw [IntKind.wrap_i64]; omega
    have hsub3 : IntKind.i64.wrap ((m : Int) + 1 - 1) = (m : Int) := by rw [IntKind.wrap_i64]; omega
    have hm0 : (0 : Int) ≤ (m : Int) := Int.natCast_nonneg m
    have hml : (m : Int) < (l.length : Int) := by omega
    have hne : (((m + 1 : Nat) : Int) == 0) = false := by simp; omega
    have hne2 : ((m : Int) + 1 == 0) = false := by simp; omega
    have HW := Lib.hid (lgRow HR.out (G.refl _ none) hq2)
    have d4 : w2.cell? ⟨w.heap.size, 4, none⟩ = some (.slice (some ⟨bb, bo, none⟩) l.length cap) := hH.cell 4
    obtain ⟨B, hB⟩ : ∃ B, beE h.2.2.1 (prevAt l (m + 1)) p = B := ⟨_, rfl⟩
    rw [hB] at HA
    have HBB := Lib.hid hB
    clear hB hq2
    go_upto_region 7 with (refine wpList_load_at rfl 79 _ rfl ⟨bb, bo + m * 9, none⟩ rfl #[.string q.1, .int .i64 q.2.1.1, .string q.2.1.2.1, .int .i64 q.2.1.2.2.1, .int .i64 q.2.1.2.2.2, .int .i64 q.2.2.1, .string q.2.2.2.1, .int .i64 q.2.2.2.2.1, .int .i64 q.2.2.2.2.2] _ HW.out Tryd.underlying79 rfl (lg_info q) ?_)
    have hQ := Bk.new w2 79 (lgC q)
    have hG := hG.alloc (.cells (lgC q) 79)
    have hL := hL.alloc (.cells (lgC q) 79)
    rw [show #[.string q.1, .int .i64 q.2.1.1, .string q.2.1.2.1, .int .i64 q.2.1.2.2.1, .int .i64 q.2.1.2.2.2, .int .i64 q.2.2.1, .string q.2.2.2.1, .int .i64 q.2.2.2.2.1, .int .i64 q.2.2.2.2.2] = lgC q from rfl]
    generalize w2.alloc (.cells (lgC q) 79) = w3 at hQ hG hL ⊢
    generalize w2.heap.size = g at hQ ⊢
    have c0 : w3.cell? ⟨w.heap.size + 1, 0, none⟩ = some (.string p.1) := hL.cell 0
    have c1 : w3.cell? ⟨w.heap.size + 1, 1, none⟩ = some (.int .i64 p.2.1.1) := hL.cell 1
    have c2 : w3.cell? ⟨w.heap.size + 1, 2, none⟩ = some (.string p.2.1.2.1) := hL.cell 2
    have q0 : w3.cell? ⟨g, 0, none⟩ = some (.string q.1) := hQ.cell 0
    have q5 : w3.cell? ⟨g, 5, none⟩ = some (.int .i64 q.2.2.1) := hQ.cell 5
    have q6 : w3.cell? ⟨g, 6, none⟩ = some (.string q.2.2.2.1) := hQ.cell 6
    clear hL hQ hH HR d2 d4
    by_cases k1 : p.2.1.1 = q.2.2.1
    · have HA : Hid (B = if p.1 = q.1 then 16 else if p.2.1.2.1 = q.2.2.2.1 then 0 else 8) := Lib.hid (by rw [HA.out, if_pos k1])
      have k1' : (p.2.1.1 != q.2.2.1) = false := by simpa using k1
      clear k1
      by_cases k2 : p.1 = q.1
      · have HF : Hid (B = 16) := Lib.hid (by rw [HA.out, if_pos k2])
        have k2' : (p.1.toList == q.1.toList) = true := by rw [k2]; simp
        clear k2
        go_wp2_with fail
        go_ret
        exact ⟨ret_int (by rw [HBB.out, HF.out]), hG⟩
      · have HA : Hid (B = if p.2.1.2.1 = q.2.2.2.1 then 0 else 8) := Lib.hid (by rw [HA.out, if_neg k2])
        have k2' : (p.1.toList == q.1.toList) = false := by simpa using fun e => k2 (toList_ext e)
        clear k2
        by_cases k3 : p.2.1.2.1 = q.2.2.2.1
        · have HF : Hid (B = 0) := Lib.hid (by rw [HA.out, if_pos k3])
          have k3' : (p.2.1.2.1.toList == q.2.2.2.1.toList) = true := by rw [k3]; simp
          have k3n : (p.2.1.2.1.toList != q.2.2.2.1.toList) = false := by rw [k3]; simp
          clear k3
          go_wp2_with fail
          go_ret
          exact ⟨ret_int (by rw [HBB.out, HF.out]), hG⟩
        · have HF : Hid (B = 8) := Lib.hid (by rw [HA.out, if_neg k3])
          have k3' : (p.2.1.2.1.toList == q.2.2.2.1.toList) = false := by simpa using fun e => k3 (toList_ext e)
          have k3n : (p.2.1.2.1.toList != q.2.2.2.1.toList) = true := by simpa using fun e => k3 (toList_ext e)
          clear k3
          go_wp2_with fail
          go_ret
          exact ⟨ret_int (by rw [HBB.out, HF.out]), hG⟩
    · have HF : Hid (B = 7) := Lib.hid (by rw [HA.out, if_neg k1])
      have k1' : (p.2.1.1 != q.2.2.1) = true := by simpa using k1
      clear k1
      go_wp2_with fail
      go_ret
      exact ⟨ret_int (by rw [HBB.out, HF.out]), hG⟩
set_option maxRecDepth 100000 in
set_option maxHeartbeats 4000000 in
theorem checkEnd_c (h : Hh) (v : Value) (l : List Lg) (k : Nat) (p : Lg) (w : World) (hr : RdR w 9 lgC v l) (hp : l[k]? = some p) (hs : Small p.2.2.2.1) (hn : l.length ≤ 1000) :
    Calls Tryd.prog 145 #[.agg (hiC h v), .int .i64 k] w fun e w' => e = .returned (.int .i64 (enE (l.drop (k + 1)).isEmpty p)) ∧ G w w' none := by
  have hH := Bk.new w 33 (hiC h v)
  have hGH := (G.refl w none).alloc (.cells (hiC h v) 33)
  have HR := Lib.hid (hr.quiet hGH)
  obtain ⟨a, cap, rfl, hcap, hm⟩ := RdR.form hr
  clear hr
  have hk : k < l.length := (List.getElem?_eq_some_iff.1 hp).1
  have hki : (k : Int) < (l.length : Int) := by omega
  obtain ⟨bb, bo, rfl, -, -⟩ := RdR.elem lgC_sz HR.out (G.refl _ none) hp
  have HW := Lib.hid (lgRow HR.out (G.refl _ none) hp)
  clear hp
  have HLA : Hid ((l.drop (k + 1)).isEmpty = decide (l.length ≤ k + 1)) := Lib.hid (drop_empty l (k + 1))
  obtain ⟨E, hE⟩ : ∃ E, enE (l.drop (k + 1)).isEmpty p = E := ⟨_, rfl⟩
  have HE : Hid (E = if p.2.2.1 = -1 then (if p.2.2 = noIn then (if decide (l.length ≤ k + 1) = true then 0 else 11) else 3) else if rgE p.2.2 = 0 then (if p.2.2.1 ≤ p.2.1.1 then 7 else 0) else rgE p.2.2) := Lib.hid (by rw [← hE, HLA.out]; rfl)
  rw [hE]
  clear hE
  simp only [hiC] at hH hGH HR HW ⊢
  go_enter Tryd.func145, Tryd.ntmps145
  go_upto_region 2 with (refine wpList_load_at rfl 79 _ rfl ⟨bb, bo + k * 9, none⟩ rfl #[.string p.1, .int .i64 p.2.1.1, .string p.2.1.2.1, .int .i64 p.2.1.2.2.1, .int .i64 p.2.1.2.2.2, .int .i64 p.2.2.1, .string p.2.2.2.1, .int .i64 p.2.2.2.2.1, .int .i64 p.2.2.2.2.2] _ HW.out Tryd.underlying79 rfl (lg_info p) ?_)
  have hL : Bk ((w.alloc (.cells #[.string h.1, .string h.2.1, .int .i64 h.2.2.1, .int .i64 h.2.2.2, .slice (some ⟨bb, bo, none⟩) l.length cap] 33)).alloc (.cells #[.string p.1, .int .i64 p.2.1.1, .string p.2.1.2.1, .int .i64 p.2.1.2.2.1, .int .i64 p.2.1.2.2.2, .int .i64 p.2.2.1, .string p.2.2.2.1, .int .i64 p.2.2.2.2.1, .int .i64 p.2.2.2.2.2] 79)) (w.heap.size + 1) 79 (lgC p) := Bk.newAt (by simp) _ _
  have hG := hGH.alloc (.cells #[.string p.1, .int .i64 p.2.1.1, .string p.2.1.2.1, .int .i64 p.2.1.2.2.1, .int .i64 p.2.1.2.2.2, .int .i64 p.2.2.1, .string p.2.2.2.1, .int .i64 p.2.2.2.2.1, .int .i64 p.2.2.2.2.2] 79)
  have hH := hH.alloc (.cells #[.string p.1, .int .i64 p.2.1.1, .string p.2.1.2.1, .int .i64 p.2.1.2.2.1, .int .i64 p.2.1.2.2.2, .int .i64 p.2.2.1, .string p.2.2.2.1, .int .i64 p.2.2.2.2.1, .int .i64 p.2.2.2.2.2] 79)
  clear HW hGH HR
  generalize (w.alloc (.cells #[.string h.1, .string h.2.1, .int .i64 h.2.2.1, .int .i64 h.2.2.2, .slice (some ⟨bb, bo, none⟩) l.length cap] 33)).alloc (.cells #[.string p.1, .int .i64 p.2.1.1, .string p.2.1.2.1, .int .i64 p.2.1.2.2.1, .int .i64 p.2.1.2.2.2, .int .i64 p.2.2.1, .string p.2.2.2.1, .int .i64 p.2.2.2.2.1, .int .i64 p.2.2.2.2.2] 79) = w2 at hL hG hH ⊢
  go_wp2_with (refine wpList_load_row rfl 79 _ rfl (w.heap.size + 1) rfl 79 #[.string p.1, .int .i64 p.2.1.1, .string p.2.1.2.1, .int .i64 p.2.1.2.2.1, .int .i64 p.2.1.2.2.2, .int .i64 p.2.2.1, .string p.2.2.2.1, .int .i64 p.2.2.2.2.1, .int .i64 p.2.2.2.2.2] (0, 0) _ hL Tryd.underlying79 rfl (lg_info p) ?_)
  refine (isOut_c p _).mono ?_; rintro e w3 ⟨rfl, hG3⟩
  have hL := hL.quiet hG3
  have hH := hH.quiet hG3
  have hG := hG.trans hG3
  clear hG3
  have HP := Lib.hid (hL.part 5 #[.int .i64 p.2.2.1, .string p.2.2.2.1, .int .i64 p.2.2.2.2.1, .int .i64 p.2.2.2.2.2] (lg_in p))
  have c1 : w3.cell? ⟨w.heap.size + 1, 1, none⟩ = some (.int .i64 p.2.1.1) := hL.cell 1
  have c5 : w3.cell? ⟨w.heap.size + 1, 5, none⟩ = some (.int .i64 p.2.2.1) := hL.cell 5
  have d4 : w3.cell? ⟨w.heap.size, 4, none⟩ = some (.slice (some ⟨bb, bo, none⟩) l.length cap) := hH.cell 4
  clear hH
  by_cases k1 : p.2.2.1 = -1
  · have k1' : (p.2.2.1 == -1) = true := by simpa using k1
    rw [k1']
    have HN := fun w : World => rg_neq p.2.2 noIn w
    by_cases k2 : p.2.2 = noIn
    · have HNN : Hid (∀ w : World, (binOp .neq 37 (.agg #[.int .i64 p.2.2.1, .string p.2.2.2.1, .int .i64 p.2.2.2.2.1, .int .i64 p.2.2.2.2.2]) (.agg #[.int .i64 (-1), .string ⟨#[]⟩, .int .i64 0, .int .i64 0])).run Tryd.prog w = .ok (.bool false) w) := Lib.hid fun w => by
        have := HN w
        rw [decide_eq_true k2] at this
        exact this
      have hnn := HNN.out
      have HE : Hid (E = if decide (l.length ≤ k + 1) = true then 0 else 11) := Lib.hid (by rw [HE.out, if_pos k1, if_pos k2])
      have hl1 : IntKind.i64.wrap ((l.length : Int) - 1) = (l.length : Int) - 1 := by rw [IntKind.wrap_i64]; omega
      clear k1 k1' k2 HN HNN
      by_cases k3 : l.length ≤ k + 1
      · have HF : Hid (E = 0) := Lib.hid (by rw [HE.out, if_pos (decide_eq_true k3)])
        have k3' : ¬ ((k : Int) < (l.length : Int) - 1) := by omega
        clear k3
        go_wp2_with (refine wpList_load_at rfl 37 _ rfl ⟨w.heap.size + 1, 5, none⟩ rfl #[.int .i64 p.2.2.1, .string p.2.2.2.1, .int .i64 p.2.2.2.2.1, .int .i64 p.2.2.2.2.2] _ HP.out Tryd.underlying37 rfl (rg_info p.2.2) ?_)
        go_ret
        exact ⟨ret_int HF.out.symm, hG⟩
      · have HF : Hid (E = 11) := Lib.hid (by rw [HE.out, if_neg (by simpa using k3)])
        have k3' : (k : Int) < (l.length : Int) - 1 := by omega
        clear k3
        go_wp2_with (refine wpList_load_at rfl 37 _ rfl ⟨w.heap.size + 1, 5, none⟩ rfl #[.int .i64 p.2.2.1, .string p.2.2.2.1, .int .i64 p.2.2.2.2.1, .int .i64 p.2.2.2.2.2] _ HP.out Tryd.underlying37 rfl (rg_info p.2.2) ?_)
        go_ret
        exact ⟨ret_int HF.out.symm, hG⟩
    · have HNN : Hid (∀ w : World, (binOp .neq 37 (.agg #[.int .i64 p.2.2.1, .string p.2.2.2.1, .int .i64 p.2.2.2.2.1, .int .i64 p.2.2.2.2.2]) (.agg #[.int .i64 (-1), .string ⟨#[]⟩, .int .i64 0, .int .i64 0])).run Tryd.prog w = .ok (.bool true) w) := Lib.hid fun w => by
        have := HN w
        rw [decide_eq_false k2] at this
        exact this
      have hnn := HNN.out
      have HF : Hid (E = 3) := Lib.hid (by rw [HE.out, if_pos k1, if_neg k2])
      clear HE k1 k1' k2 HN HNN
      go_wp2_with (refine wpList_load_at rfl 37 _ rfl ⟨w.heap.size + 1, 5, none⟩ rfl #[.int .i64 p.2.2.1, .string p.2.2.2.1, .int .i64 p.2.2.2.2.1, .int .i64 p.2.2.2.2.2] _ HP.out Tryd.underlying37 rfl (rg_info p.2.2) ?_)
      go_ret
      exact ⟨ret_int HF.out.symm, hG⟩
  · have k1' : (p.2.2.1 == -1) = false := by simpa using k1
    rw [k1']
    have HE : Hid (E = if rgE p.2.2 = 0 then (if p.2.2.1 ≤ p.2.1.1 then 7 else 0) else rgE p.2.2) := Lib.hid (by rw [HE.out, if_neg k1])
    clear k1 k1'
    go_wp2_with (refine wpList_load_at rfl 37 _ rfl ⟨w.heap.size + 1, 5, none⟩ rfl #[.int .i64 p.2.2.1, .string p.2.2.2.1, .int .i64 p.2.2.2.2.1, .int .i64 p.2.2.2.2.2] _ HP.out Tryd.underlying37 rfl (rg_info p.2.2) ?_)
    refine (checkReading_c p.2.2 _ hs).mono ?_; rintro e w4 ⟨rfl, hG4⟩
    have hL := hL.quiet hG4
    have hG := hG.trans hG4
    clear hG4 c1 c5 d4 HP
    have c1 : w4.cell? ⟨w.heap.size + 1, 1, none⟩ = some (.int .i64 p.2.1.1) := hL.cell 1
    have c5 : w4.cell? ⟨w.heap.size + 1, 5, none⟩ = some (.int .i64 p.2.2.1) := hL.cell 5
    obtain ⟨R, hR⟩ : ∃ R, rgE p.2.2 = R := ⟨_, rfl⟩
    rw [hR] at HE ⊢
    clear hR
    by_cases k2 : R = 0
    · have HE5 : Hid (E = if p.2.2.1 ≤ p.2.1.1 then 7 else 0) := Lib.hid (by rw [HE.out, if_pos k2])
      subst k2
      by_cases k3 : p.2.2.1 ≤ p.2.1.1
      · have HF : Hid (E = 7) := Lib.hid (by rw [HE5.out, if_pos k3])
        go_wp2_with fail
        go_ret
        exact ⟨ret_int HF.out.symm, hG⟩
      · have HF : Hid (E = 0) := Lib.hid (by rw [HE5.out, if_neg k3])
        go_wp2_with fail
        go_ret
        exact ⟨ret_int HF.out.symm, hG⟩
    · have HF : Hid (E = R) := Lib.hid (by rw [HE.out, if_neg k2])
      have k2' : (R != 0) = true := by simpa using k2
      clear k2
      go_wp2_with fail
      go_ret
      exact ⟨ret_int HF.out.symm, hG⟩
end Go.Proofs.YtdcofbciebkfkaaDoor

/- Hires: checkLeg, Check. -/
namespace Go.Proofs.YtdcofbciebkfkaaDoor
open Go.RowKit

theorem hi_time (h : Hh) (v : Value) : ∀ j u, (#[Value.int .i64 h.2.2.1, .int .i64 h.2.2.2] : Array Value).toList[j]? = some u → (hiC h v)[2 + j]? = some u := fun j u hu => by
  match j, hu with
  | 0, hu => exact hu
  | 1, hu => exact hu
  | n + 2, hu => simp at hu
set_option maxRecDepth 100000 in
set_option maxHeartbeats 4000000 in
theorem checkLeg_c (h : Hh) (v : Value) (l : List Lg) (k : Nat) (p : Lg) (w : World) (hr : RdR w 9 lgC v l) (hp : l[k]? = some p) (hs : lgB p) (hn : l.length ≤ 1000) :
    Calls Tryd.prog 88 #[.agg (hiC h v), .int .i64 k] w fun e w' => e = .returned (.int .i64 (lgE h.2.2.1 (prevAt l k) (l.drop (k + 1)).isEmpty p)) ∧ G w w' none := by
  have hH := Bk.new w 33 (hiC h v)
  have hGH := (G.refl w none).alloc (.cells (hiC h v) 33)
  have hR := hr.quiet hGH
  obtain ⟨a, cap, rfl, hcap, hm⟩ := RdR.form hr
  clear hr
  have hk : k < l.length := (List.getElem?_eq_some_iff.1 hp).1
  have hki : (k : Int) < (l.length : Int) := by omega
  obtain ⟨bb, bo, rfl, -, -⟩ := RdR.elem lgC_sz hR (G.refl _ none) hp
  have HW := Lib.hid (lgRow hR (G.refl _ none) hp)
  have HP := Lib.hid hp
  obtain ⟨hs1, hs2, hs3⟩ := hs
  have hs1' := hs1
  unfold Small at hs1'
  clear hp
  obtain ⟨E, hE⟩ : ∃ E, lgE h.2.2.1 (prevAt l k) (l.drop (k + 1)).isEmpty p = E := ⟨_, rfl⟩
  have HE : Hid (E = if keyB p.1 = false then 5 else if rgE p.2.1 = 0 then (if beE h.2.2.1 (prevAt l k) p = 0 then enE (l.drop (k + 1)).isEmpty p else beE h.2.2.1 (prevAt l k) p) else rgE p.2.1) := Lib.hid hE.symm
  rw [hE]
  clear hE
  simp only [hiC] at hH hGH hR HW ⊢
  go_enter Tryd.func88, Tryd.ntmps88
  go_upto_region 2 with (refine wpList_load_at rfl 79 _ rfl ⟨bb, bo + k * 9, none⟩ rfl #[.string p.1, .int .i64 p.2.1.1, .string p.2.1.2.1, .int .i64 p.2.1.2.2.1, .int .i64 p.2.1.2.2.2, .int .i64 p.2.2.1, .string p.2.2.2.1, .int .i64 p.2.2.2.2.1, .int .i64 p.2.2.2.2.2] _ HW.out Tryd.underlying79 rfl (lg_info p) ?_)
  have hL : Bk ((w.alloc (.cells #[.string h.1, .string h.2.1, .int .i64 h.2.2.1, .int .i64 h.2.2.2, .slice (some ⟨bb, bo, none⟩) l.length cap] 33)).alloc (.cells #[.string p.1, .int .i64 p.2.1.1, .string p.2.1.2.1, .int .i64 p.2.1.2.2.1, .int .i64 p.2.1.2.2.2, .int .i64 p.2.2.1, .string p.2.2.2.1, .int .i64 p.2.2.2.2.1, .int .i64 p.2.2.2.2.2] 79)) (w.heap.size + 1) 79 (lgC p) := Bk.newAt (by simp) _ _
  have hG := hGH.alloc (.cells #[.string p.1, .int .i64 p.2.1.1, .string p.2.1.2.1, .int .i64 p.2.1.2.2.1, .int .i64 p.2.1.2.2.2, .int .i64 p.2.2.1, .string p.2.2.2.1, .int .i64 p.2.2.2.2.1, .int .i64 p.2.2.2.2.2] 79)
  have hH := hH.alloc (.cells #[.string p.1, .int .i64 p.2.1.1, .string p.2.1.2.1, .int .i64 p.2.1.2.2.1, .int .i64 p.2.1.2.2.2, .int .i64 p.2.2.1, .string p.2.2.2.1, .int .i64 p.2.2.2.2.1, .int .i64 p.2.2.2.2.2] 79)
  have hR := hR.quiet ((G.refl _ none).alloc (.cells #[.string p.1, .int .i64 p.2.1.1, .string p.2.1.2.1, .int .i64 p.2.1.2.2.1, .int .i64 p.2.1.2.2.2, .int .i64 p.2.2.1, .string p.2.2.2.1, .int .i64 p.2.2.2.2.1, .int .i64 p.2.2.2.2.2] 79))
  clear HW hGH
  generalize (w.alloc (.cells #[.string h.1, .string h.2.1, .int .i64 h.2.2.1, .int .i64 h.2.2.2, .slice (some ⟨bb, bo, none⟩) l.length cap] 33)).alloc (.cells #[.string p.1, .int .i64 p.2.1.1, .string p.2.1.2.1, .int .i64 p.2.1.2.2.1, .int .i64 p.2.1.2.2.2, .int .i64 p.2.2.1, .string p.2.2.2.1, .int .i64 p.2.2.2.2.1, .int .i64 p.2.2.2.2.2] 79) = w2 at hL hG hH hR ⊢
  have c0 : w2.cell? ⟨w.heap.size + 1, 0, none⟩ = some (.string p.1) := hL.cell 0
  have HO := Lib.hid (hL.part 1 #[.int .i64 p.2.1.1, .string p.2.1.2.1, .int .i64 p.2.1.2.2.1, .int .i64 p.2.1.2.2.2] (lg_out p))
  go_wp2_with fail
  refine (isKey_c _ _ hs1').mono ?_; rintro e w' ⟨rfl, rfl⟩
  cases k1 : keyB p.1 with
  | false =>
    have HF : Hid (E = 5) := Lib.hid (by rw [HE.out, if_pos k1])
    clear k1
    go_wp2_with fail
    go_ret
    exact ⟨ret_int HF.out.symm, hG⟩
  | true =>
    have HE1 : Hid (E = if rgE p.2.1 = 0 then (if beE h.2.2.1 (prevAt l k) p = 0 then enE (l.drop (k + 1)).isEmpty p else beE h.2.2.1 (prevAt l k) p) else rgE p.2.1) := Lib.hid (by rw [HE.out, if_neg (by simp [k1])])
    clear k1 HE
    go_wp2_with (refine wpList_load_at rfl 37 _ rfl ⟨w.heap.size + 1, 1, none⟩ rfl #[.int .i64 p.2.1.1, .string p.2.1.2.1, .int .i64 p.2.1.2.2.1, .int .i64 p.2.1.2.2.2] _ HO.out Tryd.underlying37 rfl (rg_info p.2.1) ?_)
    refine (checkReading_c p.2.1 _ hs2).mono ?_; rintro e w4 ⟨rfl, hG4⟩
    have hL := hL.quiet hG4
    have hH := hH.quiet hG4
    have hR := hR.quiet hG4
    have hG := hG.trans hG4
    clear hG4 c0 HO
    obtain ⟨R, hRR⟩ : ∃ R, rgE p.2.1 = R := ⟨_, rfl⟩
    rw [hRR] at HE1 ⊢
    clear hRR
    by_cases k2 : R = 0
    · have HE2 : Hid (E = if beE h.2.2.1 (prevAt l k) p = 0 then enE (l.drop (k + 1)).isEmpty p else beE h.2.2.1 (prevAt l k) p) := Lib.hid (by rw [HE1.out, if_pos k2])
      subst k2
      clear HE1
      go_wp2_with (refine wpList_load_row rfl 33 _ rfl w.heap.size rfl 33 #[.string h.1, .string h.2.1, .int .i64 h.2.2.1, .int .i64 h.2.2.2, .slice (some ⟨bb, bo, none⟩) l.length cap] (0, 0) _ hH Tryd.underlying33 rfl (hi_info h _) ?_)
      refine (checkBegin_c h _ l k p _ hR HP.out hn).mono ?_; rintro e w5 ⟨rfl, hG5⟩
      have hH := hH.quiet hG5
      have hR := hR.quiet hG5
      have hG := hG.trans hG5
      clear hG5
      obtain ⟨B, hB⟩ : ∃ B, beE h.2.2.1 (prevAt l k) p = B := ⟨_, rfl⟩
      rw [hB] at HE2 ⊢
      clear hB
      by_cases k3 : B = 0
      · have HF : Hid (E = enE (l.drop (k + 1)).isEmpty p) := Lib.hid (by rw [HE2.out, if_pos k3])
        subst k3
        clear HE2
        go_wp2_with (refine wpList_load_row rfl 33 _ rfl w.heap.size rfl 33 #[.string h.1, .string h.2.1, .int .i64 h.2.2.1, .int .i64 h.2.2.2, .slice (some ⟨bb, bo, none⟩) l.length cap] (0, 0) _ hH Tryd.underlying33 rfl (hi_info h _) ?_)
        refine (checkEnd_c h _ l k p _ hR HP.out hs3 hn).mono ?_; rintro e w6 ⟨rfl, hG6⟩
        have hG := hG.trans hG6
        rw [← HF.out]
        go_wp2_with fail
        go_ret
        exact ⟨rfl, hG⟩
      · have HF : Hid (E = B) := Lib.hid (by rw [HE2.out, if_neg k3])
        have k3' : (B != 0) = true := by simpa using k3
        clear k3 HE2
        go_wp2_with fail
        go_ret
        exact ⟨ret_int HF.out.symm, hG⟩
    · have HF : Hid (E = R) := Lib.hid (by rw [HE1.out, if_neg k2])
      have k2' : (R != 0) = true := by simpa using k2
      clear k2 HE1
      go_wp2_with fail
      go_ret
      exact ⟨ret_int HF.out.symm, hG⟩
def LsRel (w : World) (f : Int) (l : List Lg) (i : Value) (wr : World) : Prop :=
  ∃ k : Nat, k ≤ l.length ∧ i = .int .i64 k ∧ lsE f none l = lsE f (prevAt l k) (l.drop k) ∧ G w wr none
set_option maxRecDepth 100000 in
set_option maxHeartbeats 4000000 in
theorem check_c (h : Hh) (v : Value) (l : List Lg) (w : World) (hr : RdR w 9 lgC v l) (hl : LgOk l) (hs1 : Small h.1) (hs2 : Small h.2.1) (hb1 : bnd h.2.2.1) (hb2 : bnd h.2.2.2) (hn : l.length ≤ 1000) :
    Calls Tryd.prog 18 #[.agg (hiC h v)] w fun e w' => e = .returned (.int .i64 (hiE h l)) ∧ G w w' none := by
  have hH := Bk.new w 33 (hiC h v)
  have hG := (G.refl w none).alloc (.cells (hiC h v) 33)
  have hR := hr.quiet hG
  obtain ⟨a, cap, rfl, hcap, hm⟩ := RdR.form hr
  clear hr
  unfold Small at hs1 hs2
  obtain ⟨E, hE⟩ : ∃ E, hiE h l = E := ⟨_, rfl⟩
  have HE : Hid (E = if keyB h.1 = false then 5 else if keyB h.2.1 = false then 5 else if tE h.2.2.1 h.2.2.2 = 0 then (if l.length = 0 then 3 else if 20 < l.length then 2 else lsE h.2.2.1 none l) else tE h.2.2.1 h.2.2.2) := Lib.hid hE.symm
  rw [hE]
  clear hE
  simp only [hiC] at hH hG hR ⊢
  go_enter Tryd.func18, Tryd.ntmps18
  go_upto_region 1 with fail
  generalize w.alloc (.cells #[.string h.1, .string h.2.1, .int .i64 h.2.2.1, .int .i64 h.2.2.2, .slice a l.length cap] 33) = w2 at hG hH hR ⊢
  have hg := hH.lt
  generalize w.heap.size = g at hH hg ⊢
  have c0 : w2.cell? ⟨g, 0, none⟩ = some (.string h.1) := hH.cell 0
  have c1 : w2.cell? ⟨g, 1, none⟩ = some (.string h.2.1) := hH.cell 1
  go_wp2_with fail
  refine (isKey_c _ _ hs1).mono ?_; rintro e w' ⟨rfl, rfl⟩
  cases k1 : keyB h.1 with
  | false =>
    have HF : Hid (E = 5) := Lib.hid (by rw [HE.out, if_pos k1])
    clear k1
    go_wp2_with fail
    go_ret
    exact ⟨ret_int HF.out.symm, hG⟩
  | true =>
    have K1 := Lib.hid k1
    clear k1
    go_wp2_with fail
    refine (isKey_c _ _ hs2).mono ?_; rintro e w' ⟨rfl, rfl⟩
    cases k2 : keyB h.2.1 with
    | false =>
      have HF : Hid (E = 5) := Lib.hid (by rw [HE.out, if_neg (by simp [K1.out]), if_pos k2])
      clear k2
      go_wp2_with fail
      go_ret
      exact ⟨ret_int HF.out.symm, hG⟩
    | true =>
      have HE1 : Hid (E = if tE h.2.2.1 h.2.2.2 = 0 then (if l.length = 0 then 3 else if 20 < l.length then 2 else lsE h.2.2.1 none l) else tE h.2.2.1 h.2.2.2) := Lib.hid (by rw [HE.out, if_neg (by simp [K1.out]), if_neg (by simp [k2])])
      clear k2 HE
      have HT := Lib.hid (hH.part 2 #[.int .i64 h.2.2.1, .int .i64 h.2.2.2] (hi_time h _))
      go_wp2_with (refine wpList_load_at rfl 30 _ rfl ⟨g, 2, none⟩ rfl #[.int .i64 h.2.2.1, .int .i64 h.2.2.2] _ HT.out Tryd.underlying30 rfl (wi_info _ _) ?_)
      refine (days_c _ _ _ hb1 hb2).mono ?_; rintro e w3 ⟨rfl, hG3⟩
      have hH := hH.quiet hG3
      have hR := hR.quiet hG3
      have hG := hG.trans hG3
      clear hG3 c0 c1 HT
      obtain ⟨T, hT⟩ : ∃ T, tE h.2.2.1 h.2.2.2 = T := ⟨_, rfl⟩
      rw [hT] at HE1 ⊢
      clear hT
      generalize tN h.2.2.1 h.2.2.2 = N
      by_cases k3 : T = 0
      · have HE2 : Hid (E = if l.length = 0 then 3 else if 20 < l.length then 2 else lsE h.2.2.1 none l) := Lib.hid (by rw [HE1.out, if_pos k3])
        subst k3
        clear HE1
        have c4 : w3.cell? ⟨g, 4, none⟩ = some (.slice a l.length cap) := hH.cell 4
        by_cases k4 : l.length = 0
        · have HF : Hid (E = 3) := Lib.hid (by rw [HE2.out, if_pos k4])
          have k4' : ((l.length : Int) == 0) = true := by rw [k4]; rfl
          clear k4
          go_wp2_with fail
          go_ret
          exact ⟨ret_int HF.out.symm, hG⟩
        · have k4' : ((l.length : Int) == 0) = false := by rw [beq_eq_false_iff_ne]; omega
          by_cases k5 : 20 < l.length
          · have HF : Hid (E = 2) := Lib.hid (by rw [HE2.out, if_neg k4, if_pos k5])
            have k5' : (20 : Int) < (l.length : Int) := by omega
            clear k5 k4
            go_wp2_with fail
            go_ret
            exact ⟨ret_int HF.out.symm, hG⟩
          · have HE3 : Hid (E = lsE h.2.2.1 none l) := Lib.hid (by rw [HE2.out, if_neg k4, if_neg k5])
            have k5' : ¬ (20 : Int) < (l.length : Int) := by omega
            clear k5 k4 HE2
            have HHH := Lib.hid hH
            have HRR := Lib.hid hR
            clear hH hR
            go_wp2_with fail
            go_loopw [37] (LsRel w3 h.2.2.1 l) (fun i _ => l.length - (intOf i).toNat)
            case atStart => exact ⟨0, by omega, rfl, rfl, G.refl _ _⟩
            case round =>
              obtain ⟨k, hkl, rfl, heq, hGr⟩ := hrel
              have HEq := Lib.hid heq
              clear heq c4
              have hH := HHH.out.quiet hGr
              have hR := HRR.out.quiet hGr
              by_cases hk : k < l.length
              · obtain ⟨p, hp⟩ : ∃ p, l[k]? = some p := ⟨_, List.getElem?_eq_getElem hk⟩
                have hdrop : l.drop k = p :: l.drop (k + 1) := by rw [List.drop_eq_getElem_cons hk, ← (List.getElem?_eq_some_iff.1 hp).2]
                have HS : Hid (lsE h.2.2.1 none l = if lgE h.2.2.1 (prevAt l k) (l.drop (k + 1)).isEmpty p = 0 then lsE h.2.2.1 (some p) (l.drop (k + 1)) else lgE h.2.2.1 (prevAt l k) (l.drop (k + 1)).isEmpty p) := Lib.hid (by rw [HEq.out, hdrop]; rfl)
                have hpb := hl p (List.mem_of_getElem? hp)
                have HP := Lib.hid hp
                have HK := Lib.hid hk
                have hki : (k : Int) < (l.length : Int) := by omega
                clear hdrop hp
                go_wp2_with (refine wpList_load_row rfl 33 _ rfl g rfl 33 #[.string h.1, .string h.2.1, .int .i64 h.2.2.1, .int .i64 h.2.2.2, .slice a l.length cap] (0, 0) _ hH Tryd.underlying33 rfl (hi_info h _) ?_)
                refine (checkLeg_c h _ l k p _ hR HP.out hpb hn).mono ?_; rintro e w5 ⟨rfl, hG5⟩
                have hGr5 := hGr.trans hG5
                clear hG5 hGr hH hR hpb
                obtain ⟨L, hL⟩ : ∃ L, lgE h.2.2.1 (prevAt l k) (l.drop (k + 1)).isEmpty p = L := ⟨_, rfl⟩
                rw [hL] at HS ⊢
                clear hL
                by_cases k6 : L = 0
                · have HF : Hid (lsE h.2.2.1 none l = lsE h.2.2.1 (prevAt l (k + 1)) (l.drop (k + 1))) := Lib.hid (by rw [HS.out, if_pos k6, prevAt_succ l k p HP.out])
                  subst k6
                  clear HS
                  go_wp2_with fail
                  go_roundw
                  case rel => exact ⟨k + 1, by omega, by go_num, HF.out, hGr5⟩
                  case measure => have := HK.out; simp [intOf]; omega
                · have HF : Hid (E = L) := Lib.hid (by rw [HE3.out, HS.out, if_neg k6])
                  have k6' : (L != 0) = true := by simpa using k6
                  clear k6 HS
                  go_wp2_with fail
                  go_ret
                  exact ⟨ret_int HF.out.symm, hG.trans hGr5⟩
              · obtain rfl : k = l.length := by omega
                have HF : Hid (E = 0) := Lib.hid (by rw [HE3.out, HEq.out, List.drop_length]; rfl)
                go_wp2_with fail
                go_ret
                exact ⟨ret_int HF.out.symm, hG.trans hGr⟩
      · have HF : Hid (E = T) := Lib.hid (by rw [HE1.out, if_neg k3])
        have k3' : (T != 0) = true := by simpa using k3
        clear k3 HE1
        go_wp2_with fail
        go_ret
        exact ⟨ret_int HF.out.symm, hG⟩
end Go.Proofs.YtdcofbciebkfkaaDoor

/- Hires: the reference's readingFault, legFault, HireFault. -/
namespace Go.Proofs.YtdcofbciebkfkaaDoor
open Go.RowKit

set_option maxRecDepth 100000 in
set_option maxHeartbeats 2000000 in
theorem readingFault_c (x : Rg) (w : World) (hs : Small x.2.1) :
    Calls Tryd.prog 138 #[.agg (rgC x)] w fun e w' => e = .returned (.int .i64 (rgE x)) ∧ G w w' none := by
  have hG1 := (G.refl w none).alloc (.cells (rgC x) 37)
  have hB1 := Bk.new w 37 (rgC x)
  unfold Small at hs
  obtain ⟨t, s, m, f⟩ := x
  simp only [rgC] at hG1 hB1 hs ⊢
  have HE : Hid (rgE (t, s, m, f) = if momB t = false then 1 else if keyB s = false then 5 else if inB m 0 999999 = false then 1 else if inB f 0 8 = false then 1 else 0) := Lib.hid rfl
  generalize rgE (t, s, m, f) = R at HE ⊢
  go_enter Tryd.func138, Tryd.ntmps138
  go_wp2_with fail
  refine (rMoment_c t _).mono ?_; rintro e w1 ⟨rfl, rfl⟩
  cases k1 : momB t with
  | false =>
    have HF : Hid (R = 1) := Lib.hid (by rw [HE.out, if_pos k1])
    clear k1
    go_wp2_with fail
    go_ret
    exact ⟨ret_int HF.out.symm, hG1⟩
  | true =>
    have HE : Hid (R = if keyB s = false then 5 else if inB m 0 999999 = false then 1 else if inB f 0 8 = false then 1 else 0) := Lib.hid (by rw [HE.out, if_neg (by simp [k1])])
    clear k1
    go_wp2_with fail
    refine (rkey_c s _ hs).mono ?_; rintro e w1 ⟨rfl, hGk⟩
    have hB1 := hB1.quiet hGk
    have hG1 := hG1.trans hGk
    clear hGk
    have d2 : w1.cell? ⟨w.heap.size, 2, none⟩ = some (.int .i64 m) := hB1.cell 2
    have d3 : w1.cell? ⟨w.heap.size, 3, none⟩ = some (.int .i64 f) := hB1.cell 3
    cases k2 : keyB s with
    | false =>
      have HF : Hid (R = 5) := Lib.hid (by rw [HE.out, if_pos k2])
      clear k2
      go_wp2_with fail
      go_ret
      exact ⟨ret_int HF.out.symm, hG1⟩
    | true =>
      have HE : Hid (R = if inB m 0 999999 = false then 1 else if inB f 0 8 = false then 1 else 0) := Lib.hid (by rw [HE.out, if_neg (by simp [k2])])
      clear k2
      go_wp2_with fail
      refine (in_c m 0 999999 _).mono ?_; rintro e w1 ⟨rfl, rfl⟩
      cases k3 : inB m 0 999999 with
      | false =>
        have HF : Hid (R = 1) := Lib.hid (by rw [HE.out, if_pos k3])
        clear k3
        go_wp2_with fail
        go_ret
        exact ⟨ret_int HF.out.symm, hG1⟩
      | true =>
        have HE : Hid (R = if inB f 0 8 = false then 1 else 0) := Lib.hid (by rw [HE.out, if_neg (by simp [k3])])
        clear k3
        go_wp2_with fail
        refine (in_c f 0 8 _).mono ?_; rintro e w1 ⟨rfl, rfl⟩
        cases k4 : inB f 0 8 with
        | false =>
          have HF : Hid (R = 1) := Lib.hid (by rw [HE.out, if_pos k4])
          clear k4
          go_wp2_with fail
          go_ret
          exact ⟨ret_int HF.out.symm, hG1⟩
        | true =>
          have HF : Hid (R = 0) := Lib.hid (by rw [HE.out, if_neg (by simp [k4])])
          clear k4
          go_wp2_with fail
          go_ret
          exact ⟨ret_int HF.out.symm, hG1⟩
set_option maxRecDepth 100000 in
set_option maxHeartbeats 8000000 in
theorem legFault_c (h : Hh) (v : Value) (l : List Lg) (k : Nat) (p : Lg) (w : World) (hr : RdR w 9 lgC v l) (hp : l[k]? = some p) (hs : lgB p) (hn : l.length ≤ 1000) :
    Calls Tryd.prog 83 #[.agg (hiC h v), .int .i64 k] w fun e w' => e = .returned (.int .i64 (lgE h.2.2.1 (prevAt l k) (l.drop (k + 1)).isEmpty p)) ∧ G w w' none := by
  have hH := Bk.new w 33 (hiC h v)
  have hGH := (G.refl w none).alloc (.cells (hiC h v) 33)
  have hR := hr.quiet hGH
  obtain ⟨a, cap, rfl, hcap, hm⟩ := RdR.form hr
  clear hr
  have hk : k < l.length := (List.getElem?_eq_some_iff.1 hp).1
  have hki : (k : Int) < (l.length : Int) := by omega
  obtain ⟨bb, bo, rfl, -, -⟩ := RdR.elem lgC_sz hR (G.refl _ none) hp
  have HW := Lib.hid (lgRow hR (G.refl _ none) hp)
  obtain ⟨hs1, hs2, hs3⟩ := hs
  have hs1' := hs1
  unfold Small at hs1'
  clear hp
  obtain ⟨E, hE⟩ : ∃ E, lgE h.2.2.1 (prevAt l k) (l.drop (k + 1)).isEmpty p = E := ⟨_, rfl⟩
  have HE : Hid (E = if keyB p.1 = false then 5 else if rgE p.2.1 = 0 then (if beE h.2.2.1 (prevAt l k) p = 0 then enE (l.drop (k + 1)).isEmpty p else beE h.2.2.1 (prevAt l k) p) else rgE p.2.1) := Lib.hid hE.symm
  rw [hE]
  clear hE
  simp only [hiC] at hH hGH hR HW ⊢
  go_enter Tryd.func83, Tryd.ntmps83
  go_upto_region 2 with (refine wpList_load_at rfl 79 _ rfl ⟨bb, bo + k * 9, none⟩ rfl #[.string p.1, .int .i64 p.2.1.1, .string p.2.1.2.1, .int .i64 p.2.1.2.2.1, .int .i64 p.2.1.2.2.2, .int .i64 p.2.2.1, .string p.2.2.2.1, .int .i64 p.2.2.2.2.1, .int .i64 p.2.2.2.2.2] _ HW.out Tryd.underlying79 rfl (lg_info p) ?_)
  have hL : Bk ((w.alloc (.cells #[.string h.1, .string h.2.1, .int .i64 h.2.2.1, .int .i64 h.2.2.2, .slice (some ⟨bb, bo, none⟩) l.length cap] 33)).alloc (.cells #[.string p.1, .int .i64 p.2.1.1, .string p.2.1.2.1, .int .i64 p.2.1.2.2.1, .int .i64 p.2.1.2.2.2, .int .i64 p.2.2.1, .string p.2.2.2.1, .int .i64 p.2.2.2.2.1, .int .i64 p.2.2.2.2.2] 79)) (w.heap.size + 1) 79 (lgC p) := Bk.newAt (by simp) _ _
  have hG := hGH.alloc (.cells #[.string p.1, .int .i64 p.2.1.1, .string p.2.1.2.1, .int .i64 p.2.1.2.2.1, .int .i64 p.2.1.2.2.2, .int .i64 p.2.2.1, .string p.2.2.2.1, .int .i64 p.2.2.2.2.1, .int .i64 p.2.2.2.2.2] 79)
  have hH := hH.alloc (.cells #[.string p.1, .int .i64 p.2.1.1, .string p.2.1.2.1, .int .i64 p.2.1.2.2.1, .int .i64 p.2.1.2.2.2, .int .i64 p.2.2.1, .string p.2.2.2.1, .int .i64 p.2.2.2.2.1, .int .i64 p.2.2.2.2.2] 79)
  have hR := hR.quiet ((G.refl _ none).alloc (.cells #[.string p.1, .int .i64 p.2.1.1, .string p.2.1.2.1, .int .i64 p.2.1.2.2.1, .int .i64 p.2.1.2.2.2, .int .i64 p.2.2.1, .string p.2.2.2.1, .int .i64 p.2.2.2.2.1, .int .i64 p.2.2.2.2.2] 79))
  clear HW hGH
  generalize (w.alloc (.cells #[.string h.1, .string h.2.1, .int .i64 h.2.2.1, .int .i64 h.2.2.2, .slice (some ⟨bb, bo, none⟩) l.length cap] 33)).alloc (.cells #[.string p.1, .int .i64 p.2.1.1, .string p.2.1.2.1, .int .i64 p.2.1.2.2.1, .int .i64 p.2.1.2.2.2, .int .i64 p.2.2.1, .string p.2.2.2.1, .int .i64 p.2.2.2.2.1, .int .i64 p.2.2.2.2.2] 79) = w2 at hL hG hH hR ⊢
  have c0 : w2.cell? ⟨w.heap.size + 1, 0, none⟩ = some (.string p.1) := hL.cell 0
  go_wp2_with fail
  refine (rkey_c _ _ hs1').mono ?_; rintro e w' ⟨rfl, hGk⟩
  have hL := hL.quiet hGk
  have hH := hH.quiet hGk
  have hR := hR.quiet hGk
  have hG := hG.trans hGk
  clear hGk c0
  have HO := Lib.hid (hL.part 1 #[.int .i64 p.2.1.1, .string p.2.1.2.1, .int .i64 p.2.1.2.2.1, .int .i64 p.2.1.2.2.2] (lg_out p))
  cases k1 : keyB p.1 with
  | false =>
    have HF : Hid (E = 5) := Lib.hid (by rw [HE.out, if_pos k1])
    clear k1
    go_wp2_with fail
    go_ret
    exact ⟨ret_int HF.out.symm, hG⟩
  | true =>
    have HE1 : Hid (E = if rgE p.2.1 = 0 then (if beE h.2.2.1 (prevAt l k) p = 0 then enE (l.drop (k + 1)).isEmpty p else beE h.2.2.1 (prevAt l k) p) else rgE p.2.1) := Lib.hid (by rw [HE.out, if_neg (by simp [k1])])
    clear k1 HE
    go_wp2_with (refine wpList_load_at rfl 37 _ rfl ⟨w.heap.size + 1, 1, none⟩ rfl #[.int .i64 p.2.1.1, .string p.2.1.2.1, .int .i64 p.2.1.2.2.1, .int .i64 p.2.1.2.2.2] _ HO.out Tryd.underlying37 rfl (rg_info p.2.1) ?_)
    refine (readingFault_c p.2.1 _ hs2).mono ?_; rintro e w4 ⟨rfl, hG4⟩
    have hL := hL.quiet hG4
    have hH := hH.quiet hG4
    have hR := hR.quiet hG4
    have hG := hG.trans hG4
    clear hG4 HO
    obtain ⟨R, hRR⟩ : ∃ R, rgE p.2.1 = R := ⟨_, rfl⟩
    rw [hRR] at HE1 ⊢
    clear hRR
    by_cases k2 : R = 0
    · have HE2 : Hid (E = if beE h.2.2.1 (prevAt l k) p = 0 then enE (l.drop (k + 1)).isEmpty p else beE h.2.2.1 (prevAt l k) p) := Lib.hid (by rw [HE1.out, if_pos k2])
      subst k2
      clear HE1
      obtain ⟨B, hB⟩ : ∃ B, beE h.2.2.1 (prevAt l k) p = B := ⟨_, rfl⟩
      rw [hB] at HE2
      have HBB := Lib.hid hB
      clear hB
      -- the beginning: meets again where it is none
      have c0 : w4.cell? ⟨w.heap.size + 1, 0, none⟩ = some (.string p.1) := hL.cell 0
      have c1 : w4.cell? ⟨w.heap.size + 1, 1, none⟩ = some (.int .i64 p.2.1.1) := hL.cell 1
      have c2 : w4.cell? ⟨w.heap.size + 1, 2, none⟩ = some (.string p.2.1.2.1) := hL.cell 2
      have d2 : w4.cell? ⟨w.heap.size, 2, none⟩ = some (.int .i64 h.2.2.1) := hH.cell 2
      have d4 : w4.cell? ⟨w.heap.size, 4, none⟩ = some (.slice (some ⟨bb, bo, none⟩) l.length cap) := hH.cell 4
      go_upto_if 25 with fail
      go_cut [] from 26 (fun w5 => B = 0 ∧ Bk w5 (w.heap.size + 1) 79 (lgC p) ∧ Bk w5 w.heap.size 33 #[.string h.1, .string h.2.1, .int .i64 h.2.2.1, .int .i64 h.2.2.2, .slice (some ⟨bb, bo, none⟩) l.length cap] ∧ G w w5 none)
      case first =>
        cases k with
        | zero =>
          by_cases hq : p.2.1.1 = h.2.2.1
          · have HF : Hid (B = 0) := Lib.hid (by rw [← HBB.out]; exact if_pos hq)
            go_wp2_with fail
            go_meet
            case rel => exact ⟨HF.out, hL, hH, hG⟩
          · have hB : B = 7 := by rw [← HBB.out]; exact if_neg hq
            have HF : Hid (E = 7) := Lib.hid (by rw [HE2.out, hB, if_neg (by decide)])
            clear hB
            go_wp2_with fail
            go_ret
            exact ⟨ret_int HF.out.symm, hG⟩
        | succ m =>
          obtain ⟨q, hq2⟩ : ∃ q, l[m]? = some q := ⟨_, List.getElem?_eq_getElem (by omega)⟩
          have HA : Hid (B = if p.2.1.1 = q.2.2.1 then (if p.1 = q.1 then 16 else if p.2.1.2.1 = q.2.2.2.1 then 0 else 8) else 7) := Lib.hid (by rw [← HBB.out, prevAt_succ l m q hq2]; rfl)
          have hsub : IntKind.i64.wrap (((m + 1 : Nat) : Int) - 1) = (m : Int) := by rw [show ((m + 1 : Nat) : Int) - 1 = (m : Int) by omega]; rw [IntKind.wrap_i64]; omega
          have hsub2 : IntKind.i64.wrap (m : Int) = (m : Int) := by rw [IntKind.wrap_i64]; omega
          have hsub3 : IntKind.i64.wrap ((m : Int) + 1 - 1) = (m : Int) := by rw [IntKind.wrap_i64]; omega
          have hm0 : (0 : Int) ≤ (m : Int) := Int.natCast_nonneg m
          have hml : (m : Int) < (l.length : Int) := by omega
          have hne : (((m + 1 : Nat) : Int) == 0) = false := by simp; omega
          have hne2 : ((m : Int) + 1 == 0) = false := by simp; omega
          have HW := Lib.hid (lgRow hR (G.refl _ none) hq2)
          have hHH := Lib.hid hH
          clear HBB hq2 c0 c1 c2 d2 hH
          go_upto_region 11 with (refine wpList_load_at rfl 79 _ rfl ⟨bb, bo + m * 9, none⟩ rfl #[.string q.1, .int .i64 q.2.1.1, .string q.2.1.2.1, .int .i64 q.2.1.2.2.1, .int .i64 q.2.1.2.2.2, .int .i64 q.2.2.1, .string q.2.2.2.1, .int .i64 q.2.2.2.2.1, .int .i64 q.2.2.2.2.2] _ HW.out Tryd.underlying79 rfl (lg_info q) ?_)
          have hQ := Bk.new w4 79 (lgC q)
          have hG := hG.alloc (.cells (lgC q) 79)
          have hL := hL.alloc (.cells (lgC q) 79)
          have hH := hHH.out.alloc (.cells (lgC q) 79)
          rw [show #[.string q.1, .int .i64 q.2.1.1, .string q.2.1.2.1, .int .i64 q.2.1.2.2.1, .int .i64 q.2.1.2.2.2, .int .i64 q.2.2.1, .string q.2.2.2.1, .int .i64 q.2.2.2.2.1, .int .i64 q.2.2.2.2.2] = lgC q from rfl]
          generalize w4.alloc (.cells (lgC q) 79) = w3 at hQ hG hL hH ⊢
          generalize w4.heap.size = g at hQ ⊢
          have c0 : w3.cell? ⟨w.heap.size + 1, 0, none⟩ = some (.string p.1) := hL.cell 0
          have c1 : w3.cell? ⟨w.heap.size + 1, 1, none⟩ = some (.int .i64 p.2.1.1) := hL.cell 1
          have c2 : w3.cell? ⟨w.heap.size + 1, 2, none⟩ = some (.string p.2.1.2.1) := hL.cell 2
          have q0 : w3.cell? ⟨g, 0, none⟩ = some (.string q.1) := hQ.cell 0
          have q5 : w3.cell? ⟨g, 5, none⟩ = some (.int .i64 q.2.2.1) := hQ.cell 5
          have q6 : w3.cell? ⟨g, 6, none⟩ = some (.string q.2.2.2.1) := hQ.cell 6
          clear hQ d4
          by_cases k1 : p.2.1.1 = q.2.2.1
          · have HA1 : Hid (B = if p.1 = q.1 then 16 else if p.2.1.2.1 = q.2.2.2.1 then 0 else 8) := Lib.hid (by rw [HA.out, if_pos k1])
            have k1' : (p.2.1.1 != q.2.2.1) = false := by simpa using k1
            clear k1 HA
            by_cases k2 : p.1 = q.1
            · have hB : B = 16 := by rw [HA1.out, if_pos k2]
              have k2' : (p.1.toList == q.1.toList) = true := by rw [k2]; simp
              clear k2
              have HF : Hid (E = 16) := Lib.hid (by rw [HE2.out, hB, if_neg (by decide)])
              clear hB
              go_wp2_with fail
              go_ret
              exact ⟨ret_int HF.out.symm, hG⟩
            · have HA2 : Hid (B = if p.2.1.2.1 = q.2.2.2.1 then 0 else 8) := Lib.hid (by rw [HA1.out, if_neg k2])
              have k2' : (p.1.toList == q.1.toList) = false := by simpa using fun e => k2 (toList_ext e)
              clear k2 HA1
              by_cases k3 : p.2.1.2.1 = q.2.2.2.1
              · have HF : Hid (B = 0) := Lib.hid (by rw [HA2.out, if_pos k3])
                have k3' : (p.2.1.2.1.toList == q.2.2.2.1.toList) = true := by rw [k3]; simp
                have k3n : (p.2.1.2.1.toList != q.2.2.2.1.toList) = false := by rw [k3]; simp
                clear k3
                go_wp2_with fail
                go_meet
                case rel => exact ⟨HF.out, hL, hH, hG⟩
              · have hB : B = 8 := by rw [HA2.out, if_neg k3]
                have k3' : (p.2.1.2.1.toList == q.2.2.2.1.toList) = false := by simpa using fun e => k3 (toList_ext e)
                have k3n : (p.2.1.2.1.toList != q.2.2.2.1.toList) = true := by simpa using fun e => k3 (toList_ext e)
                clear k3
                have HF : Hid (E = 8) := Lib.hid (by rw [HE2.out, hB, if_neg (by decide)])
                clear hB
                go_wp2_with fail
                go_ret
                exact ⟨ret_int HF.out.symm, hG⟩
          · have hB : B = 7 := by rw [HA.out, if_neg k1]
            have k1' : (p.2.1.1 != q.2.2.1) = true := by simpa using k1
            clear k1
            have HF : Hid (E = 7) := Lib.hid (by rw [HE2.out, hB, if_neg (by decide)])
            clear hB
            go_wp2_with fail
            go_ret
            exact ⟨ret_int HF.out.symm, hG⟩
      case rest =>
        obtain ⟨hB0, hL, hH, hG⟩ := hcut
        have HE : Hid (E = if p.2.2.1 = -1 then (if p.2.2 = noIn then (if decide (l.length ≤ k + 1) = true then 0 else 11) else 3) else if rgE p.2.2 = 0 then (if p.2.2.1 ≤ p.2.1.1 then 7 else 0) else rgE p.2.2) := Lib.hid (by rw [HE2.out, if_pos hB0, drop_empty]; rfl)
        clear hB0 HE2 HBB c0 c1 c2 d2 d4 hR
        generalize wc = w3 at hL hH hG ⊢
        have HP := Lib.hid (hL.part 5 #[.int .i64 p.2.2.1, .string p.2.2.2.1, .int .i64 p.2.2.2.2.1, .int .i64 p.2.2.2.2.2] (lg_in p))
        have c1 : w3.cell? ⟨w.heap.size + 1, 1, none⟩ = some (.int .i64 p.2.1.1) := hL.cell 1
        have c5 : w3.cell? ⟨w.heap.size + 1, 5, none⟩ = some (.int .i64 p.2.2.1) := hL.cell 5
        have d4 : w3.cell? ⟨w.heap.size, 4, none⟩ = some (.slice (some ⟨bb, bo, none⟩) l.length cap) := hH.cell 4
        clear hH
        by_cases k1 : p.2.2.1 = -1
        · have k1' : (p.2.2.1 == -1) = true := by simpa using k1
          have HN := fun w : World => rg_neq p.2.2 noIn w
          by_cases k2 : p.2.2 = noIn
          · have HNN : Hid (∀ w : World, (binOp .neq 37 (.agg #[.int .i64 p.2.2.1, .string p.2.2.2.1, .int .i64 p.2.2.2.2.1, .int .i64 p.2.2.2.2.2]) (.agg #[.int .i64 (-1), .string ⟨#[]⟩, .int .i64 0, .int .i64 0])).run Tryd.prog w = .ok (.bool false) w) := Lib.hid fun w => by
              have := HN w
              rw [decide_eq_true k2] at this
              exact this
            have hnn := HNN.out
            have HE : Hid (E = if decide (l.length ≤ k + 1) = true then 0 else 11) := Lib.hid (by rw [HE.out, if_pos k1, if_pos k2])
            have hl1 : IntKind.i64.wrap ((l.length : Int) - 1) = (l.length : Int) - 1 := by rw [IntKind.wrap_i64]; omega
            clear k1 k2 HN HNN
            by_cases k3 : l.length ≤ k + 1
            · have HF : Hid (E = 0) := Lib.hid (by rw [HE.out, if_pos (decide_eq_true k3)])
              have k3' : ¬ ((k : Int) < (l.length : Int) - 1) := by omega
              clear k3
              go_wp2_with (refine wpList_load_at rfl 37 _ rfl ⟨w.heap.size + 1, 5, none⟩ rfl #[.int .i64 p.2.2.1, .string p.2.2.2.1, .int .i64 p.2.2.2.2.1, .int .i64 p.2.2.2.2.2] _ HP.out Tryd.underlying37 rfl (rg_info p.2.2) ?_)
              go_ret
              exact ⟨ret_int HF.out.symm, hG⟩
            · have HF : Hid (E = 11) := Lib.hid (by rw [HE.out, if_neg (by simpa using k3)])
              have k3' : (k : Int) < (l.length : Int) - 1 := by omega
              clear k3
              go_wp2_with (refine wpList_load_at rfl 37 _ rfl ⟨w.heap.size + 1, 5, none⟩ rfl #[.int .i64 p.2.2.1, .string p.2.2.2.1, .int .i64 p.2.2.2.2.1, .int .i64 p.2.2.2.2.2] _ HP.out Tryd.underlying37 rfl (rg_info p.2.2) ?_)
              go_ret
              exact ⟨ret_int HF.out.symm, hG⟩
          · have HNN : Hid (∀ w : World, (binOp .neq 37 (.agg #[.int .i64 p.2.2.1, .string p.2.2.2.1, .int .i64 p.2.2.2.2.1, .int .i64 p.2.2.2.2.2]) (.agg #[.int .i64 (-1), .string ⟨#[]⟩, .int .i64 0, .int .i64 0])).run Tryd.prog w = .ok (.bool true) w) := Lib.hid fun w => by
              have := HN w
              rw [decide_eq_false k2] at this
              exact this
            have hnn := HNN.out
            have HF : Hid (E = 3) := Lib.hid (by rw [HE.out, if_pos k1, if_neg k2])
            clear HE k1 k2 HN HNN
            go_wp2_with (refine wpList_load_at rfl 37 _ rfl ⟨w.heap.size + 1, 5, none⟩ rfl #[.int .i64 p.2.2.1, .string p.2.2.2.1, .int .i64 p.2.2.2.2.1, .int .i64 p.2.2.2.2.2] _ HP.out Tryd.underlying37 rfl (rg_info p.2.2) ?_)
            go_ret
            exact ⟨ret_int HF.out.symm, hG⟩
        · have k1' : (p.2.2.1 == -1) = false := by simpa using k1
          have HE : Hid (E = if rgE p.2.2 = 0 then (if p.2.2.1 ≤ p.2.1.1 then 7 else 0) else rgE p.2.2) := Lib.hid (by rw [HE.out, if_neg k1])
          clear k1
          go_wp2_with (refine wpList_load_at rfl 37 _ rfl ⟨w.heap.size + 1, 5, none⟩ rfl #[.int .i64 p.2.2.1, .string p.2.2.2.1, .int .i64 p.2.2.2.2.1, .int .i64 p.2.2.2.2.2] _ HP.out Tryd.underlying37 rfl (rg_info p.2.2) ?_)
          refine (readingFault_c p.2.2 _ hs3).mono ?_; rintro e w4 ⟨rfl, hG4⟩
          have hL := hL.quiet hG4
          have hG := hG.trans hG4
          clear hG4 c1 c5 d4 HP
          have c1 : w4.cell? ⟨w.heap.size + 1, 1, none⟩ = some (.int .i64 p.2.1.1) := hL.cell 1
          have c5 : w4.cell? ⟨w.heap.size + 1, 5, none⟩ = some (.int .i64 p.2.2.1) := hL.cell 5
          obtain ⟨R, hR⟩ : ∃ R, rgE p.2.2 = R := ⟨_, rfl⟩
          rw [hR] at HE ⊢
          clear hR
          by_cases k2 : R = 0
          · have HE5 : Hid (E = if p.2.2.1 ≤ p.2.1.1 then 7 else 0) := Lib.hid (by rw [HE.out, if_pos k2])
            subst k2
            by_cases k3 : p.2.2.1 ≤ p.2.1.1
            · have HF : Hid (E = 7) := Lib.hid (by rw [HE5.out, if_pos k3])
              go_wp2_with fail
              go_ret
              exact ⟨ret_int HF.out.symm, hG⟩
            · have HF : Hid (E = 0) := Lib.hid (by rw [HE5.out, if_neg k3])
              go_wp2_with fail
              go_ret
              exact ⟨ret_int HF.out.symm, hG⟩
          · have HF : Hid (E = R) := Lib.hid (by rw [HE.out, if_neg k2])
            have k2' : (R != 0) = true := by simpa using k2
            clear k2
            go_wp2_with fail
            go_ret
            exact ⟨ret_int HF.out.symm, hG⟩
    · have HF : Hid (E = R) := Lib.hid (by rw [HE1.out, if_neg k2])
      have k2' : (R != 0) = true := by simpa using k2
      clear k2 HE1
      go_wp2_with fail
      go_ret
      exact ⟨ret_int HF.out.symm, hG⟩
set_option maxRecDepth 100000 in
set_option maxHeartbeats 4000000 in
theorem hireFault_c (h : Hh) (v : Value) (l : List Lg) (w : World) (hr : RdR w 9 lgC v l) (hl : LgOk l) (hs1 : Small h.1) (hs2 : Small h.2.1) (hb1 : bnd h.2.2.1) (hb2 : bnd h.2.2.2) (hn : l.length ≤ 1000) :
    Calls Tryd.prog 15 #[.agg (hiC h v)] w fun e w' => e = .returned (.int .i64 (hiE h l)) ∧ G w w' none := by
  have hH := Bk.new w 33 (hiC h v)
  have hG := (G.refl w none).alloc (.cells (hiC h v) 33)
  have hR := hr.quiet hG
  obtain ⟨a, cap, rfl, hcap, hm⟩ := RdR.form hr
  clear hr
  unfold Small at hs1 hs2
  obtain ⟨E, hE⟩ : ∃ E, hiE h l = E := ⟨_, rfl⟩
  have HE : Hid (E = if keyB h.1 = false then 5 else if keyB h.2.1 = false then 5 else if tE h.2.2.1 h.2.2.2 = 0 then (if l.length = 0 then 3 else if 20 < l.length then 2 else lsE h.2.2.1 none l) else tE h.2.2.1 h.2.2.2) := Lib.hid hE.symm
  rw [hE]
  clear hE
  simp only [hiC] at hH hG hR ⊢
  go_enter Tryd.func15, Tryd.ntmps15
  go_upto_region 1 with fail
  generalize w.alloc (.cells #[.string h.1, .string h.2.1, .int .i64 h.2.2.1, .int .i64 h.2.2.2, .slice a l.length cap] 33) = w2 at hG hH hR ⊢
  have hg := hH.lt
  generalize w.heap.size = g at hH hg ⊢
  have c0 : w2.cell? ⟨g, 0, none⟩ = some (.string h.1) := hH.cell 0
  have c1 : w2.cell? ⟨g, 1, none⟩ = some (.string h.2.1) := hH.cell 1
  go_wp2_with fail
  refine (rkey_c _ _ hs1).mono ?_; rintro e w' ⟨rfl, hGk⟩
  have hH := hH.quiet hGk
  have hR := hR.quiet hGk
  have hG := hG.trans hGk
  clear hGk c0 c1
  have c1 : w'.cell? ⟨g, 1, none⟩ = some (.string h.2.1) := hH.cell 1
  cases k1 : keyB h.1 with
  | false =>
    have HF : Hid (E = 5) := Lib.hid (by rw [HE.out, if_pos k1])
    clear k1
    go_wp2_with fail
    go_ret
    exact ⟨ret_int HF.out.symm, hG⟩
  | true =>
    have K1 := Lib.hid k1
    clear k1
    go_wp2_with fail
    refine (rkey_c _ _ hs2).mono ?_; rintro e w4 ⟨rfl, hGk⟩
    have hH := hH.quiet hGk
    have hR := hR.quiet hGk
    have hG := hG.trans hGk
    clear hGk c1
    cases k2 : keyB h.2.1 with
    | false =>
      have HF : Hid (E = 5) := Lib.hid (by rw [HE.out, if_neg (by simp [K1.out]), if_pos k2])
      clear k2
      go_wp2_with fail
      go_ret
      exact ⟨ret_int HF.out.symm, hG⟩
    | true =>
      have HE1 : Hid (E = if tE h.2.2.1 h.2.2.2 = 0 then (if l.length = 0 then 3 else if 20 < l.length then 2 else lsE h.2.2.1 none l) else tE h.2.2.1 h.2.2.2) := Lib.hid (by rw [HE.out, if_neg (by simp [K1.out]), if_neg (by simp [k2])])
      clear k2 HE
      have HT := Lib.hid (hH.part 2 #[.int .i64 h.2.2.1, .int .i64 h.2.2.2] (hi_time h _))
      go_wp2_with (refine wpList_load_at rfl 30 _ rfl ⟨g, 2, none⟩ rfl #[.int .i64 h.2.2.1, .int .i64 h.2.2.2] _ HT.out Tryd.underlying30 rfl (wi_info _ _) ?_)
      refine (timeFault_c _ _ _ hb1 hb2).mono ?_; rintro e w3 ⟨rfl, hG3⟩
      have hH := hH.quiet hG3
      have hR := hR.quiet hG3
      have hG := hG.trans hG3
      clear hG3 HT
      obtain ⟨T, hT⟩ : ∃ T, tE h.2.2.1 h.2.2.2 = T := ⟨_, rfl⟩
      rw [hT] at HE1 ⊢
      clear hT
      by_cases k3 : T = 0
      · have HE2 : Hid (E = if l.length = 0 then 3 else if 20 < l.length then 2 else lsE h.2.2.1 none l) := Lib.hid (by rw [HE1.out, if_pos k3])
        subst k3
        clear HE1
        have c4 : w3.cell? ⟨g, 4, none⟩ = some (.slice a l.length cap) := hH.cell 4
        by_cases k4 : l.length = 0
        · have HF : Hid (E = 3) := Lib.hid (by rw [HE2.out, if_pos k4])
          have k4' : ((l.length : Int) == 0) = true := by rw [k4]; rfl
          clear k4
          go_wp2_with fail
          go_ret
          exact ⟨ret_int HF.out.symm, hG⟩
        · have k4' : ((l.length : Int) == 0) = false := by rw [beq_eq_false_iff_ne]; omega
          by_cases k5 : 20 < l.length
          · have HF : Hid (E = 2) := Lib.hid (by rw [HE2.out, if_neg k4, if_pos k5])
            have k5' : (20 : Int) < (l.length : Int) := by omega
            clear k5 k4
            go_wp2_with fail
            go_ret
            exact ⟨ret_int HF.out.symm, hG⟩
          · have HE3 : Hid (E = lsE h.2.2.1 none l) := Lib.hid (by rw [HE2.out, if_neg k4, if_neg k5])
            have k5' : ¬ (20 : Int) < (l.length : Int) := by omega
            clear k5 k4 HE2
            have HHH := Lib.hid hH
            have HRR := Lib.hid hR
            clear hH hR
            go_wp2_with fail
            go_loopw [35] (LsRel w3 h.2.2.1 l) (fun i _ => l.length - (intOf i).toNat)
            case atStart => exact ⟨0, by omega, rfl, rfl, G.refl _ _⟩
            case round =>
              obtain ⟨k, hkl, rfl, heq, hGr⟩ := hrel
              have HEq := Lib.hid heq
              clear heq c4
              have hH := HHH.out.quiet hGr
              have hR := HRR.out.quiet hGr
              by_cases hk : k < l.length
              · obtain ⟨p, hp⟩ : ∃ p, l[k]? = some p := ⟨_, List.getElem?_eq_getElem hk⟩
                have hdrop : l.drop k = p :: l.drop (k + 1) := by rw [List.drop_eq_getElem_cons hk, ← (List.getElem?_eq_some_iff.1 hp).2]
                have HS : Hid (lsE h.2.2.1 none l = if lgE h.2.2.1 (prevAt l k) (l.drop (k + 1)).isEmpty p = 0 then lsE h.2.2.1 (some p) (l.drop (k + 1)) else lgE h.2.2.1 (prevAt l k) (l.drop (k + 1)).isEmpty p) := Lib.hid (by rw [HEq.out, hdrop]; rfl)
                have hpb := hl p (List.mem_of_getElem? hp)
                have HP := Lib.hid hp
                have HK := Lib.hid hk
                have hki : (k : Int) < (l.length : Int) := by omega
                clear hdrop hp
                go_wp2_with (refine wpList_load_row rfl 33 _ rfl g rfl 33 #[.string h.1, .string h.2.1, .int .i64 h.2.2.1, .int .i64 h.2.2.2, .slice a l.length cap] (0, 0) _ hH Tryd.underlying33 rfl (hi_info h _) ?_)
                refine (legFault_c h _ l k p _ hR HP.out hpb hn).mono ?_; rintro e w5 ⟨rfl, hG5⟩
                have hGr5 := hGr.trans hG5
                clear hG5 hGr hH hR hpb
                obtain ⟨L, hL⟩ : ∃ L, lgE h.2.2.1 (prevAt l k) (l.drop (k + 1)).isEmpty p = L := ⟨_, rfl⟩
                rw [hL] at HS ⊢
                clear hL
                by_cases k6 : L = 0
                · have HF : Hid (lsE h.2.2.1 none l = lsE h.2.2.1 (prevAt l (k + 1)) (l.drop (k + 1))) := Lib.hid (by rw [HS.out, if_pos k6, prevAt_succ l k p HP.out])
                  subst k6
                  clear HS
                  go_wp2_with fail
                  go_roundw
                  case rel => exact ⟨k + 1, by omega, by go_num, HF.out, hGr5⟩
                  case measure => have := HK.out; simp [intOf]; omega
                · have HF : Hid (E = L) := Lib.hid (by rw [HE3.out, HS.out, if_neg k6])
                  have k6' : (L != 0) = true := by simpa using k6
                  clear k6 HS
                  go_wp2_with fail
                  go_ret
                  exact ⟨ret_int HF.out.symm, hG.trans hGr5⟩
              · obtain rfl : k = l.length := by omega
                have HF : Hid (E = 0) := Lib.hid (by rw [HE3.out, HEq.out, List.drop_length]; rfl)
                go_wp2_with fail
                go_ret
                exact ⟨ret_int HF.out.symm, hG.trans hGr⟩
      · have HF : Hid (E = T) := Lib.hid (by rw [HE1.out, if_neg k3])
        have k3' : (T != 0) = true := by simpa using k3
        clear k3 HE1
        go_wp2_with fail
        go_ret
        exact ⟨ret_int HF.out.symm, hG⟩
end Go.Proofs.YtdcofbciebkfkaaDoor

/- Hires: openLeg, right, Start; made, StartOf. -/
namespace Go.Proofs.YtdcofbciebkfkaaDoor
open Go.RowKit

def hiZ : Array Value := hiC (⟨#[]⟩, ⟨#[]⟩, 0, 0) (.slice none 0 0)
/-- What is returned of a hire: itself, or none. -/
def hiH (E : Int) (h : Hh) : Hh := if E = 0 then h else (⟨#[]⟩, ⟨#[]⟩, 0, 0)
def hiL (E : Int) (l : List Lg) : List Lg := if E = 0 then l else []
def MadePost (h : Hh) (l : List Lg) (B : Nat → Prop) (w : World) (e : Ending) (w' : World) : Prop :=
  ∃ (H : Hh) (a : Option Addr) (n c : Nat), e = .returned (.tuple #[.agg #[.string H.1, .string H.2.1, .int .i64 H.2.2.1, .int .i64 H.2.2.2, .slice a n c], .int .i64 (hiE h l)]) ∧ H = hiH (hiE h l) h ∧ (∀ k, (Value.slice a n c).ownBlock = some k → B k) ∧ RdR w' 9 lgC (.slice a n c) (hiL (hiE h l) l) ∧ G w w' none
/-- A row's block is there. -/
theorem Rd.blk {w : World} {z : Nat} {v : Value} {n : Nat} {cs : List Value} (h : Rd w z v n cs) : ∀ k, v.ownBlock = some k → k < w.heap.size := by
  obtain ⟨a, c, rfl, h1, h2, h3, h4, h5⟩ := h
  intro k hk
  cases a with
  | none => cases hk
  | some b =>
    have := (h5 b rfl).2.1
    cases hk
    exact this
theorem hi_one (h : Hh) (a : Option Addr) (n c : Nat) : (hiC h (.slice a n c)).all (·.oneCell') = true := by simp [hiC, Value.oneCell']
theorem lg_one (x : Lg) : (lgC x).all (·.oneCell') = true := by simp [lgC, Value.oneCell']
/-- Two results, the first a struct that lies in memory. -/
theorem results_cell_hi {P : Program} {fn : Func} {p u : Tmp} {ty : TypeId} (h : fn.results = #[.cell p ty, .tmp u]) (tmps : Array Value) (w : World) (g : Nat) (t : TypeId) (cs : Array Value) (fr : Nat × Nat) (d : TypeDesc)
    (hp : tmps.getD p undef = .pointer (some ⟨g, 0, none⟩)) (hg : w.heap[g]? = some (.cells cs t fr))
    (hu : P.underlying ty = some d) (hd : (match d with | .struct _ | .array _ _ => true | _ => false) = true) (hi : (P.info? ty).map (·.size) = some cs.size) :
    (results fn tmps).run P w = .ok (.tuple #[.agg cs, tmps.getD u undef]) w := by
  have hp' : tmps[p]?.getD undef = .pointer (some ⟨g, 0, none⟩) := by simpa using hp
  simp [results, h, hp', asAddr, run_loadVar_row w g t ty cs fr d hg hu hd hi]
set_option maxRecDepth 100000 in
set_option maxHeartbeats 4000000 in
theorem right_c (h : Hh) (v : Value) (l : List Lg) (w : World) (hr : RdR w 9 lgC v l) (hl : LgOk l) (hs1 : Small h.1) (hs2 : Small h.2.1) (hb1 : bnd h.2.2.1) (hb2 : bnd h.2.2.2) (hn : l.length ≤ 1000) :
    Calls Tryd.prog 89 #[.agg (hiC h v)] w (MadePost h l (fun k => v.ownBlock = some k) w) := by
  have hH := (Bk.new w 33 (hiC h v)).alloc (.cells hiZ 33)
  have hG := ((G.refl w none).alloc (.cells (hiC h v) 33)).alloc (.cells hiZ 33)
  have hZ := Bk.newAt (w := w.alloc (.cells (hiC h v) 33)) (b := w.heap.size + 1) (by simp) 33 hiZ
  have hR := hr.quiet hG
  have HLO := Lib.hid hr.blk
  obtain ⟨a, cap, rfl, hcap, hm⟩ := RdR.form hr
  clear hr
  simp only [hiC, hiZ] at hH hG hR hZ ⊢
  go_enter Tryd.func89, Tryd.ntmps89
  go_upto_region 1 with fail
  generalize (w.alloc (.cells #[.string h.1, .string h.2.1, .int .i64 h.2.2.1, .int .i64 h.2.2.2, .slice a l.length cap] 33)).alloc (.cells #[.string ⟨#[]⟩, .string ⟨#[]⟩, .int .i64 0, .int .i64 0, .slice none 0 0] 33) = w2 at hG hH hR hZ ⊢
  go_wp2_with (refine wpList_load_row rfl 33 _ rfl w.heap.size rfl 33 #[.string h.1, .string h.2.1, .int .i64 h.2.2.1, .int .i64 h.2.2.2, .slice a l.length cap] (0, 0) _ hH Tryd.underlying33 rfl (hi_info h _) ?_)
  refine (check_c h _ l _ hR hl hs1 hs2 hb1 hb2 hn).mono ?_; rintro e w3 ⟨rfl, hG3⟩
  have hH := hH.quiet hG3
  have hZ := hZ.quiet hG3
  have hG := hG.trans hG3
  have hR := hR.quiet hG3
  clear hG3
  obtain ⟨E, hE⟩ : ∃ E, hiE h l = E := ⟨_, rfl⟩
  have HFIN : Hid (hiE h l = E) := Lib.hid hE
  rw [hE]
  clear hE
  by_cases k1 : E = 0
  · subst k1
    go_wp2_with (first | (refine wpList_load_row rfl 33 _ rfl w.heap.size rfl 33 #[.string h.1, .string h.2.1, .int .i64 h.2.2.1, .int .i64 h.2.2.2, .slice a l.length cap] (0, 0) _ hH Tryd.underlying33 rfl (hi_info h _) ?_) | (refine wpList_store_row rfl 33 _ _ rfl (w.heap.size + 1) #[.string h.1, .string h.2.1, .int .i64 h.2.2.1, .int .i64 h.2.2.2, .slice a l.length cap] rfl rfl 33 _ hZ (hi_info _ _) rfl (hi_one h _ _ _) ?_))
    refine bodyPost_ret (results_cell_hi rfl _ _ (w.heap.size + 1) 33 #[.string h.1, .string h.2.1, .int .i64 h.2.2.1, .int .i64 h.2.2.2, .slice a l.length cap] (0, 0) _ rfl (hZ.setRow _) Tryd.underlying33 rfl (hi_info h _)) rfl ?_
    exact ⟨h, a, l.length, cap, by rw [HFIN.out]; rfl, by rw [HFIN.out]; rfl, fun _ hk => hk, by rw [HFIN.out]; exact hR.grown ((G.refl w3 (some (w.heap.size + 1))).setRow (.inr rfl) _) (fun k e hk => by cases e; have := HLO.out _ hk; omega), hG.setRow (.inl (by omega)) _⟩
  · have k1' : (E != 0) = true := by simpa using k1
    have K1 := Lib.hid k1
    clear k1
    go_wp2_with (refine wpList_store_row rfl 33 _ _ rfl (w.heap.size + 1) #[.string ⟨#[]⟩, .string ⟨#[]⟩, .int .i64 0, .int .i64 0, .slice none 0 0] rfl rfl 33 _ hZ (hi_info (⟨#[]⟩, ⟨#[]⟩, 0, 0) (.slice none 0 0)) rfl (hi_one (⟨#[]⟩, ⟨#[]⟩, 0, 0) _ _ _) ?_)
    refine bodyPost_ret (results_cell_hi rfl _ _ (w.heap.size + 1) 33 #[.string ⟨#[]⟩, .string ⟨#[]⟩, .int .i64 0, .int .i64 0, .slice none 0 0] (0, 0) _ rfl (hZ.setRow _) Tryd.underlying33 rfl (hi_info (⟨#[]⟩, ⟨#[]⟩, 0, 0) (.slice none 0 0))) rfl ?_
    exact ⟨(⟨#[]⟩, ⟨#[]⟩, 0, 0), none, 0, 0, by rw [HFIN.out]; rfl, by rw [HFIN.out, hiH, if_neg K1.out], fun _ hk => (by cases hk), by rw [HFIN.out, hiL, if_neg K1.out]; exact RdR.nil _ _ _, hG.setRow (.inl (by omega)) _⟩
set_option maxRecDepth 100000 in
set_option maxHeartbeats 4000000 in
theorem made_c (h : Hh) (v : Value) (l : List Lg) (w : World) (hr : RdR w 9 lgC v l) (hl : LgOk l) (hs1 : Small h.1) (hs2 : Small h.2.1) (hb1 : bnd h.2.2.1) (hb2 : bnd h.2.2.2) (hn : l.length ≤ 1000) :
    Calls Tryd.prog 146 #[.agg (hiC h v)] w (MadePost h l (fun k => v.ownBlock = some k) w) := by
  have hH := (Bk.new w 33 (hiC h v)).alloc (.cells hiZ 33)
  have hG := ((G.refl w none).alloc (.cells (hiC h v) 33)).alloc (.cells hiZ 33)
  have hZ := Bk.newAt (w := w.alloc (.cells (hiC h v) 33)) (b := w.heap.size + 1) (by simp) 33 hiZ
  have hR := hr.quiet hG
  have HLO := Lib.hid hr.blk
  obtain ⟨a, cap, rfl, hcap, hm⟩ := RdR.form hr
  clear hr
  simp only [hiC, hiZ] at hH hG hR hZ ⊢
  go_enter Tryd.func146, Tryd.ntmps146
  go_upto_region 1 with fail
  generalize (w.alloc (.cells #[.string h.1, .string h.2.1, .int .i64 h.2.2.1, .int .i64 h.2.2.2, .slice a l.length cap] 33)).alloc (.cells #[.string ⟨#[]⟩, .string ⟨#[]⟩, .int .i64 0, .int .i64 0, .slice none 0 0] 33) = w2 at hG hH hR hZ ⊢
  go_wp2_with (refine wpList_load_row rfl 33 _ rfl w.heap.size rfl 33 #[.string h.1, .string h.2.1, .int .i64 h.2.2.1, .int .i64 h.2.2.2, .slice a l.length cap] (0, 0) _ hH Tryd.underlying33 rfl (hi_info h _) ?_)
  refine (hireFault_c h _ l _ hR hl hs1 hs2 hb1 hb2 hn).mono ?_; rintro e w3 ⟨rfl, hG3⟩
  have hH := hH.quiet hG3
  have hZ := hZ.quiet hG3
  have hG := hG.trans hG3
  have hR := hR.quiet hG3
  clear hG3
  obtain ⟨E, hE⟩ : ∃ E, hiE h l = E := ⟨_, rfl⟩
  have HFIN : Hid (hiE h l = E) := Lib.hid hE
  rw [hE]
  clear hE
  by_cases k1 : E = 0
  · subst k1
    go_wp2_with (first | (refine wpList_load_row rfl 33 _ rfl w.heap.size rfl 33 #[.string h.1, .string h.2.1, .int .i64 h.2.2.1, .int .i64 h.2.2.2, .slice a l.length cap] (0, 0) _ hH Tryd.underlying33 rfl (hi_info h _) ?_) | (refine wpList_store_row rfl 33 _ _ rfl (w.heap.size + 1) #[.string h.1, .string h.2.1, .int .i64 h.2.2.1, .int .i64 h.2.2.2, .slice a l.length cap] rfl rfl 33 _ hZ (hi_info _ _) rfl (hi_one h _ _ _) ?_))
    refine bodyPost_ret (results_cell_hi rfl _ _ (w.heap.size + 1) 33 #[.string h.1, .string h.2.1, .int .i64 h.2.2.1, .int .i64 h.2.2.2, .slice a l.length cap] (0, 0) _ rfl (hZ.setRow _) Tryd.underlying33 rfl (hi_info h _)) rfl ?_
    exact ⟨h, a, l.length, cap, by rw [HFIN.out]; rfl, by rw [HFIN.out]; rfl, fun _ hk => hk, by rw [HFIN.out]; exact hR.grown ((G.refl w3 (some (w.heap.size + 1))).setRow (.inr rfl) _) (fun k e hk => by cases e; have := HLO.out _ hk; omega), hG.setRow (.inl (by omega)) _⟩
  · have k1' : (E != 0) = true := by simpa using k1
    have K1 := Lib.hid k1
    clear k1
    go_wp2_with (refine wpList_store_row rfl 33 _ _ rfl (w.heap.size + 1) #[.string ⟨#[]⟩, .string ⟨#[]⟩, .int .i64 0, .int .i64 0, .slice none 0 0] rfl rfl 33 _ hZ (hi_info (⟨#[]⟩, ⟨#[]⟩, 0, 0) (.slice none 0 0)) rfl (hi_one (⟨#[]⟩, ⟨#[]⟩, 0, 0) _ _ _) ?_)
    refine bodyPost_ret (results_cell_hi rfl _ _ (w.heap.size + 1) 33 #[.string ⟨#[]⟩, .string ⟨#[]⟩, .int .i64 0, .int .i64 0, .slice none 0 0] (0, 0) _ rfl (hZ.setRow _) Tryd.underlying33 rfl (hi_info (⟨#[]⟩, ⟨#[]⟩, 0, 0) (.slice none 0 0))) rfl ?_
    exact ⟨(⟨#[]⟩, ⟨#[]⟩, 0, 0), none, 0, 0, by rw [HFIN.out]; rfl, by rw [HFIN.out, hiH, if_neg K1.out], fun _ hk => (by cases hk), by rw [HFIN.out, hiL, if_neg K1.out]; exact RdR.nil _ _ _, hG.setRow (.inl (by omega)) _⟩
set_option maxRecDepth 100000 in
set_option maxHeartbeats 2000000 in
theorem openLeg_c (s : ByteArray) (r : Rg) (w : World) : Calls Tryd.prog 90 #[.string s, .agg (rgC r)] w fun e w' => e = .returned (.agg (lgC (s, r, noIn))) ∧ G w w' none := by
  have hZ := Bk.newAt (w := w.alloc (.cells (rgC r) 37)) (b := w.heap.size + 1) (by simp) 79 (lgC (⟨#[]⟩, (0, ⟨#[]⟩, 0, 0), (0, ⟨#[]⟩, 0, 0)))
  have hB := (Bk.new w 37 (rgC r)).alloc (.cells (lgC (⟨#[]⟩, (0, ⟨#[]⟩, 0, 0), (0, ⟨#[]⟩, 0, 0))) 79)
  have hG := ((G.refl w none).alloc (.cells (rgC r) 37)).alloc (.cells (lgC (⟨#[]⟩, (0, ⟨#[]⟩, 0, 0), (0, ⟨#[]⟩, 0, 0))) 79)
  obtain ⟨r1, r2, r3, r4⟩ := r
  simp only [rgC, lgC, noIn] at hZ hB hG ⊢
  go_enter Tryd.func90, Tryd.ntmps90
  go_upto_region 1 with fail
  generalize (w.alloc (.cells #[.int .i64 r1, .string r2, .int .i64 r3, .int .i64 r4] 37)).alloc (.cells #[.string ⟨#[]⟩, .int .i64 0, .string ⟨#[]⟩, .int .i64 0, .int .i64 0, .int .i64 0, .string ⟨#[]⟩, .int .i64 0, .int .i64 0] 79) = w2 at hG hB hZ ⊢
  go_wp2_with (first | (refine wpList_load_row rfl 37 _ rfl w.heap.size rfl 37 #[.int .i64 r1, .string r2, .int .i64 r3, .int .i64 r4] (0, 0) _ hB Tryd.underlying37 rfl (rg_info (r1, r2, r3, r4)) ?_) | (refine wpList_store_row rfl 79 _ _ rfl (w.heap.size + 1) #[.string s, .int .i64 r1, .string r2, .int .i64 r3, .int .i64 r4, .int .i64 (-1), .string ⟨#[]⟩, .int .i64 0, .int .i64 0] rfl rfl 79 _ hZ (lg_info (s, (r1, r2, r3, r4), noIn)) rfl (lg_one (s, (r1, r2, r3, r4), noIn)) ?_))
  refine bodyPost_ret (results_cell_row rfl _ _ (w.heap.size + 1) 79 #[.string s, .int .i64 r1, .string r2, .int .i64 r3, .int .i64 r4, .int .i64 (-1), .string ⟨#[]⟩, .int .i64 0, .int .i64 0] (0, 0) _ rfl (hZ.setRow _) Tryd.underlying79 rfl (lg_info (s, (r1, r2, r3, r4), noIn))) rfl ?_
  exact ⟨rfl, hG.setRow (.inl (by omega)) _⟩
end Go.Proofs.YtdcofbciebkfkaaDoor

/- Lists of hires: CheckAll, HiresFault. Written by genhxs.py. -/
namespace Go.Proofs.YtdcofbciebkfkaaDoor
open Go.RowKit

/-- A hire and its legs are small. -/
def HSm (H : Hh) (l : List Lg) : Prop := LgOk l ∧ Small H.1 ∧ Small H.2.1 ∧ bnd H.2.2.1 ∧ bnd H.2.2.2 ∧ l.length ≤ 20
/-- A hire of a list: its fields, where its legs lie, its legs. -/
abbrev Hx := Hh × (Option Addr × Nat) × List Lg
def hxV (x : Hx) : Value := .slice x.2.1.1 x.2.2.length x.2.1.2
def hxC (x : Hx) : Array Value := hiC x.1 (hxV x)
theorem hxC_sz (x : Hx) : (hxC x).size = 5 := rfl
def hxE (x : Hx) : Int := hiE x.1 x.2.2
/-- The legs of all hires can be read. -/
def HxL (w : World) (L : List Hx) : Prop := ∀ x ∈ L, RdR w 9 lgC (hxV x) x.2.2
def HxR (w : World) (v : Value) (L : List Hx) : Prop := RdR w 5 hxC v L ∧ HxL w L
def HxOk (L : List Hx) : Prop := ∀ x ∈ L, HSm x.1 x.2.2
theorem HxL.quiet {w w' : World} {L : List Hx} (h : HxL w L) (hG : G w w' none) : HxL w' L := fun x hx => Rd.quiet (h x hx) hG
theorem HxR.quiet {w w' : World} {v : Value} {L : List Hx} (h : HxR w v L) (hG : G w w' none) : HxR w' v L := ⟨Rd.quiet h.1 hG, h.2.quiet hG⟩
/-- All that is read was made since. -/
def HxNew (N : Nat) (v : Value) (L : List Hx) : Prop := (∀ k, v.ownBlock = some k → N ≤ k) ∧ ∀ x ∈ L, ∀ k, (hxV x).ownBlock = some k → N ≤ k
theorem HxR.grown {w w' : World} {v : Value} {L : List Hx} {s N : Nat} (h : HxR w v L) (hn : HxNew N v L) (hs : s < N) (hG : G w w' (some s)) : HxR w' v L :=
  ⟨Rd.grown h.1 hG (fun k e hk => by cases e; have := hn.1 _ hk; omega), fun x hx => Rd.grown (h.2 x hx) hG (fun k e hk => by cases e; have := hn.2 x hx _ hk; omega)⟩
def hsE (b : ByteArray) : List Hx → Int
  | [] => 0
  | x :: r => if hxE x = 0 then (if leB x.1.1 b = true then 7 else hsE x.1.1 r) else hxE x
def haE (L : List Hx) : Int := if 500 < L.length then 2 else hsE ⟨#[]⟩ L
def HaRel (w : World) (L : List Hx) (v i : Value) (wr : World) : Prop :=
  ∃ (k : Nat) (b : ByteArray), k ≤ L.length ∧ i = .int .i64 k ∧ v = .string b ∧ hsE ⟨#[]⟩ L = hsE b (L.drop k) ∧ G w wr none
theorem hxRow {W w : World} {bb bo n cap : Nat} {l : List Hx} (h : RdR W 5 hxC (.slice (some ⟨bb, bo, none⟩) n cap) l) (hG : G W w none) {k : Nat} {p : Hx} (hp : l[k]? = some p) :
    ∀ j v, (hxC p).toList[j]? = some v → w.cell? ((⟨bb, bo + k * 5, none⟩ : Addr).add j) = some v := fun j v hv => by
  rw [add_at]
  exact RdR.cell hxC_sz h hG hp j v hv
set_option maxRecDepth 100000 in
set_option maxHeartbeats 4000000 in
theorem checkAll_c (v : Value) (l : List Hx) (w : World) (hr : HxR w v l) (hl : HxOk l) (hn : l.length ≤ 1000) :
    Calls Tryd.prog 43 #[v] w fun e w' => e = .returned (.int .i64 (haE l)) ∧ G w w' none := by
  obtain ⟨hr, hx⟩ := hr
  have HR := Lib.hid hr
  have HX := Lib.hid hx
  obtain ⟨a, cap, rfl, hcap, hm⟩ := RdR.form hr
  clear hr hx
  by_cases h30 : 500 < l.length
  · have H := Lib.hid (show haE l = 2 by simp [haE, h30])
    go_enter Tryd.func43, Tryd.ntmps43
    go_wp2_with fail
    go_ret
    exact ⟨by rw [H.out]; rfl, G.refl _ _⟩
  · have H := Lib.hid (show haE l = hsE ⟨#[]⟩ l by simp [haE, h30])
    go_enter Tryd.func43, Tryd.ntmps43
    go_wp2_with fail
    go_loopw [3, 12] (HaRel w l) (fun _ i _ => l.length - (intOf i).toNat)
    case atStart => exact ⟨0, ⟨#[]⟩, by omega, rfl, rfl, rfl, G.refl _ _⟩
    case round =>
      obtain ⟨k, b, hkl, rfl, rfl, heq, hG⟩ := hrel
      have HE := Lib.hid heq
      clear heq
      by_cases hk : k < l.length
      · obtain ⟨p, hp⟩ : ∃ p, l[k]? = some p := ⟨_, List.getElem?_eq_getElem hk⟩
        have hdrop : l.drop k = p :: l.drop (k + 1) := by rw [List.drop_eq_getElem_cons hk, ← (List.getElem?_eq_some_iff.1 hp).2]
        obtain ⟨q1, q2, q3, q4, q5, q6⟩ := hl p (List.mem_of_getElem? hp)
        have hL := Rd.quiet (HX.out p (List.mem_of_getElem? hp)) hG
        obtain ⟨bb, bo, rfl, -, -⟩ := RdR.elem hxC_sz HR.out hG hp
        have HW := Lib.hid (hxRow HR.out hG hp)
        have HS : Hid (hsE b (l.drop k) = if hxE p = 0 then (if leB p.1.1 b = true then 7 else hsE p.1.1 (l.drop (k + 1))) else hxE p) := Lib.hid (by rw [hdrop]; rfl)
        have HK := Lib.hid hk
        have hB5 : Bk (wr.alloc (.cells #[.string p.1.1, .string p.1.2.1, .int .i64 p.1.2.2.1, .int .i64 p.1.2.2.2, .slice p.2.1.1 p.2.2.length p.2.1.2] 33)) wr.heap.size 33 #[.string p.1.1, .string p.1.2.1, .int .i64 p.1.2.2.1, .int .i64 p.1.2.2.2, .slice p.2.1.1 p.2.2.length p.2.1.2] := Bk.new _ _ _
        have hG5 := hG.alloc (.cells #[.string p.1.1, .string p.1.2.1, .int .i64 p.1.2.2.1, .int .i64 p.1.2.2.2, .slice p.2.1.1 p.2.2.length p.2.1.2] 33)
        have hL5 := Rd.quiet hL ((G.refl wr none).alloc (.cells #[.string p.1.1, .string p.1.2.1, .int .i64 p.1.2.2.1, .int .i64 p.1.2.2.2, .slice p.2.1.1 p.2.2.length p.2.1.2] 33))
        clear hdrop hp hG hL
        go_upto_region 7 with (refine wpList_load_at rfl 33 _ rfl ⟨bb, bo + k * 5, none⟩ rfl #[.string p.1.1, .string p.1.2.1, .int .i64 p.1.2.2.1, .int .i64 p.1.2.2.2, .slice p.2.1.1 p.2.2.length p.2.1.2] _ HW.out Tryd.underlying33 rfl (hi_info p.1 (hxV p)) ?_)
        generalize wr.alloc (.cells #[.string p.1.1, .string p.1.2.1, .int .i64 p.1.2.2.1, .int .i64 p.1.2.2.2, .slice p.2.1.1 p.2.2.length p.2.1.2] 33) = w5 at hB5 hG5 hL5 ⊢
        generalize wr.heap.size = g at hB5 ⊢
        go_wp2_with (refine wpList_load_row rfl 33 _ rfl g rfl 33 #[.string p.1.1, .string p.1.2.1, .int .i64 p.1.2.2.1, .int .i64 p.1.2.2.2, .slice p.2.1.1 p.2.2.length p.2.1.2] (0, 0) _ hB5 Tryd.underlying33 rfl (hi_info p.1 (hxV p)) ?_)
        refine (check_c p.1 (hxV p) p.2.2 _ hL5 q1 q2 q3 q4 q5 (by omega)).mono ?_; rintro e w6 ⟨rfl, hGk⟩
        rw [show hiE p.1 p.2.2 = hxE p from rfl]
        have hB6 := hB5.quiet hGk
        have hG6 := hG5.trans hGk
        have c0 : w6.cell? ⟨g, 0, none⟩ = some (.string p.1.1) := hB6.cell 0
        clear hGk hB5 hG5 hL5 hB6
        generalize hxE p = E at HS ⊢
        by_cases hE : E = 0
        · have HS2 : Hid (hsE b (l.drop k) = if leB p.1.1 b = true then 7 else hsE p.1.1 (l.drop (k + 1))) := Lib.hid (by rw [HS.out, if_pos hE])
          subst hE
          clear HS
          cases hle : leB p.1.1 b with
          | true =>
            have HF : Hid (haE l = 7) := Lib.hid (by rw [H.out, HE.out, HS2.out, if_pos hle])
            unfold leB at hle
            go_wp2_with fail
            go_ret
            exact ⟨by rw [HF.out]; rfl, hG6⟩
          | false =>
            have HF : Hid (hsE ⟨#[]⟩ l = hsE p.1.1 (l.drop (k + 1))) := Lib.hid (by rw [HE.out, HS2.out, if_neg (by simp [hle])])
            unfold leB at hle
            go_wp2_with fail
            go_roundw
            case rel => exact ⟨k + 1, p.1.1, by omega, by go_num, rfl, HF.out, hG6⟩
            case measure => have := HK.out; simp [intOf]; omega
        · have HF : Hid (haE l = E) := Lib.hid (by rw [H.out, HE.out, HS.out, if_neg hE])
          have hE' : (E != 0) = true := by simpa using hE
          clear hE HS
          go_wp2_with fail
          go_ret
          exact ⟨by rw [HF.out]; rfl, hG6⟩
      · obtain rfl : k = l.length := by omega
        have HE2 : Hid (haE l = 0) := Lib.hid (by rw [H.out, HE.out, List.drop_length]; rfl)
        go_wp2_with fail
        go_ret
        exact ⟨by rw [HE2.out]; rfl, hG⟩
set_option maxRecDepth 100000 in
set_option maxHeartbeats 4000000 in
theorem hiresFault_c (v : Value) (l : List Hx) (w : World) (hr : HxR w v l) (hl : HxOk l) (hn : l.length ≤ 1000) :
    Calls Tryd.prog 36 #[v] w fun e w' => e = .returned (.int .i64 (haE l)) ∧ G w w' none := by
  obtain ⟨hr, hx⟩ := hr
  have HR := Lib.hid hr
  have HX := Lib.hid hx
  obtain ⟨a, cap, rfl, hcap, hm⟩ := RdR.form hr
  clear hr hx
  by_cases h30 : 500 < l.length
  · have H := Lib.hid (show haE l = 2 by simp [haE, h30])
    go_enter Tryd.func36, Tryd.ntmps36
    go_wp2_with fail
    go_ret
    exact ⟨by rw [H.out]; rfl, G.refl _ _⟩
  · have H := Lib.hid (show haE l = hsE ⟨#[]⟩ l by simp [haE, h30])
    go_enter Tryd.func36, Tryd.ntmps36
    go_wp2_with fail
    go_loopw [3, 12] (HaRel w l) (fun _ i _ => l.length - (intOf i).toNat)
    case atStart => exact ⟨0, ⟨#[]⟩, by omega, rfl, rfl, rfl, G.refl _ _⟩
    case round =>
      obtain ⟨k, b, hkl, rfl, rfl, heq, hG⟩ := hrel
      have HE := Lib.hid heq
      clear heq
      by_cases hk : k < l.length
      · obtain ⟨p, hp⟩ : ∃ p, l[k]? = some p := ⟨_, List.getElem?_eq_getElem hk⟩
        have hdrop : l.drop k = p :: l.drop (k + 1) := by rw [List.drop_eq_getElem_cons hk, ← (List.getElem?_eq_some_iff.1 hp).2]
        obtain ⟨q1, q2, q3, q4, q5, q6⟩ := hl p (List.mem_of_getElem? hp)
        have hL := Rd.quiet (HX.out p (List.mem_of_getElem? hp)) hG
        obtain ⟨bb, bo, rfl, -, -⟩ := RdR.elem hxC_sz HR.out hG hp
        have HW := Lib.hid (hxRow HR.out hG hp)
        have HS : Hid (hsE b (l.drop k) = if hxE p = 0 then (if leB p.1.1 b = true then 7 else hsE p.1.1 (l.drop (k + 1))) else hxE p) := Lib.hid (by rw [hdrop]; rfl)
        have HK := Lib.hid hk
        have hB5 : Bk (wr.alloc (.cells #[.string p.1.1, .string p.1.2.1, .int .i64 p.1.2.2.1, .int .i64 p.1.2.2.2, .slice p.2.1.1 p.2.2.length p.2.1.2] 33)) wr.heap.size 33 #[.string p.1.1, .string p.1.2.1, .int .i64 p.1.2.2.1, .int .i64 p.1.2.2.2, .slice p.2.1.1 p.2.2.length p.2.1.2] := Bk.new _ _ _
        have hG5 := hG.alloc (.cells #[.string p.1.1, .string p.1.2.1, .int .i64 p.1.2.2.1, .int .i64 p.1.2.2.2, .slice p.2.1.1 p.2.2.length p.2.1.2] 33)
        have hL5 := Rd.quiet hL ((G.refl wr none).alloc (.cells #[.string p.1.1, .string p.1.2.1, .int .i64 p.1.2.2.1, .int .i64 p.1.2.2.2, .slice p.2.1.1 p.2.2.length p.2.1.2] 33))
        clear hdrop hp hG hL
        go_upto_region 7 with (refine wpList_load_at rfl 33 _ rfl ⟨bb, bo + k * 5, none⟩ rfl #[.string p.1.1, .string p.1.2.1, .int .i64 p.1.2.2.1, .int .i64 p.1.2.2.2, .slice p.2.1.1 p.2.2.length p.2.1.2] _ HW.out Tryd.underlying33 rfl (hi_info p.1 (hxV p)) ?_)
        generalize wr.alloc (.cells #[.string p.1.1, .string p.1.2.1, .int .i64 p.1.2.2.1, .int .i64 p.1.2.2.2, .slice p.2.1.1 p.2.2.length p.2.1.2] 33) = w5 at hB5 hG5 hL5 ⊢
        generalize wr.heap.size = g at hB5 ⊢
        go_wp2_with (refine wpList_load_row rfl 33 _ rfl g rfl 33 #[.string p.1.1, .string p.1.2.1, .int .i64 p.1.2.2.1, .int .i64 p.1.2.2.2, .slice p.2.1.1 p.2.2.length p.2.1.2] (0, 0) _ hB5 Tryd.underlying33 rfl (hi_info p.1 (hxV p)) ?_)
        refine (hireFault_c p.1 (hxV p) p.2.2 _ hL5 q1 q2 q3 q4 q5 (by omega)).mono ?_; rintro e w6 ⟨rfl, hGk⟩
        rw [show hiE p.1 p.2.2 = hxE p from rfl]
        have hB6 := hB5.quiet hGk
        have hG6 := hG5.trans hGk
        have c0 : w6.cell? ⟨g, 0, none⟩ = some (.string p.1.1) := hB6.cell 0
        clear hGk hB5 hG5 hL5 hB6
        generalize hxE p = E at HS ⊢
        by_cases hE : E = 0
        · have HS2 : Hid (hsE b (l.drop k) = if leB p.1.1 b = true then 7 else hsE p.1.1 (l.drop (k + 1))) := Lib.hid (by rw [HS.out, if_pos hE])
          subst hE
          clear HS
          cases hle : leB p.1.1 b with
          | true =>
            have HF : Hid (haE l = 7) := Lib.hid (by rw [H.out, HE.out, HS2.out, if_pos hle])
            unfold leB at hle
            go_wp2_with fail
            go_ret
            exact ⟨by rw [HF.out]; rfl, hG6⟩
          | false =>
            have HF : Hid (hsE ⟨#[]⟩ l = hsE p.1.1 (l.drop (k + 1))) := Lib.hid (by rw [HE.out, HS2.out, if_neg (by simp [hle])])
            unfold leB at hle
            go_wp2_with fail
            go_roundw
            case rel => exact ⟨k + 1, p.1.1, by omega, by go_num, rfl, HF.out, hG6⟩
            case measure => have := HK.out; simp [intOf]; omega
        · have HF : Hid (haE l = E) := Lib.hid (by rw [H.out, HE.out, HS.out, if_neg hE])
          have hE' : (E != 0) = true := by simpa using hE
          clear hE HS
          go_wp2_with fail
          go_ret
          exact ⟨by rw [HF.out]; rfl, hG6⟩
      · obtain rfl : k = l.length := by omega
        have HE2 : Hid (haE l = 0) := Lib.hid (by rw [H.out, HE.out, List.drop_length]; rfl)
        go_wp2_with fail
        go_ret
        exact ⟨by rw [HE2.out]; rfl, hG⟩
end Go.Proofs.YtdcofbciebkfkaaDoor

/- Rows of structs that a call owns, of whatever make; prefixes of lists of strings. No program. -/
namespace Go.Proofs.YtdcofbciebkfkaaDoor
open Go.RowKit

abbrev OwnX {α : Type} (T : TypeId) (z : Nat) (c : α → Array Value) (w : World) (base : Nat) (v : Value) (l : List α) : Prop := w.ownsRow base T z v l.length (rowL c l)
structure RowOk {α : Type} (P : Program) (T TS : TypeId) (z bytes : Nat) (zv : Value) (c : α → Array Value) : Prop where
  row : (P.info? T).map (fun i => (i.zero, i.size, i.bytes)) = some (some zv, z, bytes)
  slice : P.underlying TS = some (.slice T)
  one : ∀ r, ∀ u ∈ (c r).toList, u.oneCell' = true
  sz : ∀ p, (c p).size = z
  zv : zv.cells.size = z
  pos : 0 < z
  few : bytes ≤ 100000
section
variable {α : Type} {T : TypeId} {z : Nat} {c : α → Array Value}
theorem bk_at {w : World} {g : Nat} {cs : Array Value} (h : Bk w g T cs) : ∀ j u, cs.toList[j]? = some u → w.cell? ((⟨g, 0, none⟩ : Addr).add j) = some u := fun j u hu => by
  rw [add_at, Nat.zero_add, h.cell]
  simpa using hu
theorem wp_append_x {P : Program} {TS : TypeId} {bytes : Nat} {zv : Value} (hk : RowOk P T TS z bytes zv c) {w : World} {o : Oper} {a : Act} {K : Act → World → Prop} {Q : Exit → Act → World → Prop} (s x : Operand)
    (ho : o.op = .call { callee := .builtin .append, args := #[s, x], argTypes := #[TS, TS] }) (base : Nat) (v : Value) (l : List α) (hs : a.eval s = v) (hown : OwnX T z c w base v l)
    (g : Nat) (r : α) (hx : a.eval x = .slice (some ⟨g, 0, none⟩) 1 1) (hb : Bk w g T (c r)) (hl : l.length ≤ 1000) (hbase : base ≤ w.heap.size)
    (hK : ∀ v' w', OwnX T z c w' base v' (l ++ [r]) → w.grownBy w' v.ownBlock → K (a.put o.dst v') w') : o.wp P a w K Q := by
  obtain ⟨i0, hi, hz0, hz1, hz2⟩ := info_parts hk.row
  have hm : (l.length + 1) * bytes ≤ 1001 * 100000 := Nat.mul_le_mul (by omega) hk.few
  refine wp_append_own w s x TS ho base T i0 zv z bytes hk.slice hi hz0 hz1 hz2 hk.zv hk.pos v l.length (rowL c l) hs hown ⟨g, 0, none⟩ 1 1 (c r).toList hx (by rw [Array.length_toList, hk.sz, Nat.one_mul]) (bk_at hb) (hk.one r) (by unfold maxLen; omega) (by omega) hbase ?_
  intro v' w' h1 h2 _
  refine hK v' w' ?_ h2
  unfold OwnX
  rw [List.length_append, rowL_snoc]
  exact h1
theorem OwnX.alloc {w : World} {base : Nat} {v : Value} {l : List α} (h : OwnX T z c w base v l) (o : Obj) : OwnX T z c (w.alloc o) base v l := World.ownsRow.alloc h o
theorem OwnX.kept {w w' : World} {base : Nat} {v : Value} {l : List α} {s : Nat} (h : OwnX T z c w base v l) (hg : G w w' (some s)) (hs : s < base) : OwnX T z c w' base v l := by
  refine World.ownsRow.kept h hg (.inr fun e => ?_)
  have := (World.ownsRow.lt h s e).1
  omega
theorem OwnX.quiet {w w' : World} {base : Nat} {v : Value} {l : List α} (h : OwnX T z c w base v l) (hg : G w w' none) : OwnX T z c w' base v l := World.ownsRow.kept h hg (Classical.em _)
theorem OwnX.drew {w : World} {base : Nat} {v : Value} {l : List α} (h : OwnX T z c w base v l) : OwnX T z c w.drew base v l := h.quiet ((G.refl w none).drew)
theorem OwnX.ne {w : World} {base : Nat} {v : Value} {l : List α} (h : OwnX T z c w base v l) {r : Nat} (hr : r < base ∨ w.heap.size ≤ r) : some r ≠ v.ownBlock := fun e => by
  have := World.ownsRow.lt h r e.symm
  omega
theorem OwnX.far {w : World} {base : Nat} {v : Value} {l : List α} (h : OwnX T z c w base v l) {p : Addr} (hp : some p.block ≠ v.ownBlock) (u : Value) : OwnX T z c (w.setCell p u) base v l := World.ownsRow.kept h (grownBy_setCell_row w p u) (.inr hp.symm)
theorem OwnX.low {w : World} {base : Nat} {v : Value} {l : List α} (h : OwnX T z c w base v l) : ∀ r, v.ownBlock = some r → base ≤ r := fun r e => (World.ownsRow.lt h r e).1
theorem OwnX.down {w : World} {base b : Nat} {v : Value} {l : List α} (h : OwnX T z c w base v l) (hb : b ≤ base) : OwnX T z c w b v l := by
  obtain ⟨h1, h2⟩ := h
  rcases h2 with ⟨rfl, h3⟩ | ⟨g, cap, cur, rfl, h3, h4, h5, h6, h7, h8⟩
  · exact ⟨h1, .inl ⟨rfl, h3⟩⟩
  · exact ⟨h1, .inr ⟨g, cap, cur, rfl, Nat.le_trans hb h3, h4, h5, h6, h7, h8⟩⟩
theorem OwnX.set (hz : ∀ p, (c p).size = z) {w : World} {base g n cap : Nat} {l : List α} {k : Nat} {p q : α} (h : w.ownsRow base T z (.slice (some ⟨g, 0, none⟩) n cap) n (rowL c l)) (hp : l[k]? = some p) (j : Nat) (u : Value) (hj : j < z) (hq : (c q).toList = (c p).toList.set j u) :
    (w.setCell ⟨g, k * z + j, none⟩ u).ownsRow base T z (.slice (some ⟨g, 0, none⟩) n cap) n (rowL c (l.set k q)) := by
  rw [← rowL_set hz l k p q hp j u hj hq]
  exact ownsRow_set h _ _
end
/-- The first of a list of strings. -/
theorem rdS_prefix {w : World} {a : Option Addr} {n cap : Nat} {l : List ByteArray} (h : Rd w 1 (.slice a n cap) l.length (l.map Value.string)) (m : Nat) (hm : m ≤ l.length) : Rd w 1 (.slice a m cap) (l.take m).length ((l.take m).map Value.string) := by
  obtain ⟨a', c', e, h1, h2, h3, h4, h5⟩ := h
  obtain ⟨rfl, rfl, rfl⟩ : a = a' ∧ n = l.length ∧ cap = c' := by cases e; exact ⟨rfl, rfl, rfl⟩
  have hlt : (l.take m).length = m := by rw [List.length_take]; omega
  refine ⟨a, cap, by rw [hlt], by omega, h2, by simp, fun e => ⟨by have := (h4 e).1; omega, (h4 e).2⟩, fun b hb => ?_⟩
  obtain ⟨q1, q2, q3⟩ := h5 b hb
  refine ⟨q1, q2, fun j u hj => q3 j u ?_⟩
  rw [List.map_take] at hj
  rw [← hj, List.getElem?_take]
  have hjl := (List.getElem?_eq_some_iff.1 hj).1
  simp at hjl
  rw [if_pos (by omega)]
end Go.Proofs.YtdcofbciebkfkaaDoor

/- A struct that is loaded behind '&&' or '||'. No program. -/
namespace Go.Proofs.YtdcofbciebkfkaaDoor
open Go.RowKit

theorem wpList_load_gd {P : Program} {ops : Array Oper} {rest : List Oper} {o : Oper} {a : Act} {w : World} {Q : Exit → Act → World → Prop} (hw : Region.wanted o (yielded ops a.tmps) = true) (ty : TypeId) (x : Operand) (ho : o.op = .load ty x)
    (ad : Addr) (hx : a.eval x = .pointer (some ad)) (cs : Array Value) (d : TypeDesc) (hc : ∀ j v, cs.toList[j]? = some v → w.cell? (ad.add j) = some v)
    (hu : P.underlying ty = some d) (hd : (match d with | .struct _ | .array _ _ => true | _ => false) = true) (hi : (P.info? ty).map (·.size) = some cs.size)
    (h : wpList P ops Q rest (a.put o.dst (.agg cs)) w) : wpList P ops Q (o :: rest) a w :=
  wpList_step fun K hK => by
    rw [if_pos hw]
    unfold Oper.wp execOp
    simp only [ho, hx, Instr.loadAt, Instr.sureAddr, Sem.run_bind, Sem.run_pure, Result.andThen_ok, run_loadVar_at w ad ty cs d hc hu hd hi]
    exact hK _ _ h
end Go.Proofs.YtdcofbciebkfkaaDoor

/- When a leg lasts: basic.Lasts, rentref1.Lasts; the function that With hands on; slices.IndexFunc, ContainsFunc at legs. -/
namespace Go.Proofs.YtdcofbciebkfkaaDoor
open Go.RowKit

/-- When a leg ends. -/
def toL (p : Lg) : Int := if p.2.2.1 = -1 then 5761440 else p.2.2.1
set_option maxRecDepth 100000 in
set_option maxHeartbeats 2000000 in
theorem lasts_c (p : Lg) (w : World) : Calls Tryd.prog 104 #[.agg #[.string p.1, .int .i64 p.2.1.1, .string p.2.1.2.1, .int .i64 p.2.1.2.2.1, .int .i64 p.2.1.2.2.2, .int .i64 p.2.2.1, .string p.2.2.2.1, .int .i64 p.2.2.2.2.1, .int .i64 p.2.2.2.2.2]] w fun e w' => e = .returned (.agg #[.int .i64 p.2.1.1, .int .i64 (toL p)]) ∧ G w w' none := by
  have hL := (Bk.new w 79 #[.string p.1, .int .i64 p.2.1.1, .string p.2.1.2.1, .int .i64 p.2.1.2.2.1, .int .i64 p.2.1.2.2.2, .int .i64 p.2.2.1, .string p.2.2.2.1, .int .i64 p.2.2.2.2.1, .int .i64 p.2.2.2.2.2]).alloc (.cells #[.int .i64 0, .int .i64 0] 30)
  have hW := Bk.newAt (w := w.alloc (.cells #[.string p.1, .int .i64 p.2.1.1, .string p.2.1.2.1, .int .i64 p.2.1.2.2.1, .int .i64 p.2.1.2.2.2, .int .i64 p.2.2.1, .string p.2.2.2.1, .int .i64 p.2.2.2.2.1, .int .i64 p.2.2.2.2.2] 79)) (b := w.heap.size + 1) (by simp) 30 #[.int .i64 0, .int .i64 0]
  have hG := ((G.refl w none).alloc (.cells #[.string p.1, .int .i64 p.2.1.1, .string p.2.1.2.1, .int .i64 p.2.1.2.2.1, .int .i64 p.2.1.2.2.2, .int .i64 p.2.2.1, .string p.2.2.2.1, .int .i64 p.2.2.2.2.1, .int .i64 p.2.2.2.2.2] 79)).alloc (.cells #[.int .i64 0, .int .i64 0] 30)
  obtain ⟨T, hT⟩ : ∃ T, toL p = T := ⟨_, rfl⟩
  have HT := Lib.hid hT
  rw [hT]
  clear hT
  go_enter Tryd.func104, Tryd.ntmps104
  go_upto_region 1 with fail
  generalize (w.alloc (.cells #[.string p.1, .int .i64 p.2.1.1, .string p.2.1.2.1, .int .i64 p.2.1.2.2.1, .int .i64 p.2.1.2.2.2, .int .i64 p.2.2.1, .string p.2.2.2.1, .int .i64 p.2.2.2.2.1, .int .i64 p.2.2.2.2.2] 79)).alloc (.cells #[.int .i64 0, .int .i64 0] 30) = w2 at hL hW hG ⊢
  have c1 : w2.cell? ⟨w.heap.size, 1, none⟩ = some (.int .i64 p.2.1.1) := hL.cell 1
  have c5 : w2.cell? ⟨w.heap.size, 5, none⟩ = some (.int .i64 p.2.2.1) := hL.cell 5
  by_cases h : p.2.2.1 = -1
  · have hTT : T = 5761440 := by rw [← HT.out, toL, if_pos h]
    subst hTT
    have h' : (p.2.2.1 == -1) = true := by rw [h]; rfl
    go_wp2_with (refine wpList_store_row rfl 30 _ _ rfl (w.heap.size + 1) #[.int .i64 p.2.1.1, .int .i64 5761440] rfl rfl 30 _ hW (wi_info _ _) rfl (wi_one _ _) ?_)
    refine bodyPost_ret (results_cell_row rfl _ _ (w.heap.size + 1) 30 #[.int .i64 p.2.1.1, .int .i64 5761440] (0, 0) _ rfl (hW.setRow _) Tryd.underlying30 rfl (wi_info _ _)) rfl ?_
    exact ⟨rfl, hG.setRow (.inl (by omega)) _⟩
  · have hTT : T = p.2.2.1 := by rw [← HT.out, toL, if_neg h]
    subst hTT
    have h' : (p.2.2.1 == -1) = false := by simpa using h
    go_wp2_with (refine wpList_store_row rfl 30 _ _ rfl (w.heap.size + 1) #[.int .i64 p.2.1.1, .int .i64 p.2.2.1] rfl rfl 30 _ hW (wi_info _ _) rfl (wi_one _ _) ?_)
    refine bodyPost_ret (results_cell_row rfl _ _ (w.heap.size + 1) 30 #[.int .i64 p.2.1.1, .int .i64 p.2.2.1] (0, 0) _ rfl (hW.setRow _) Tryd.underlying30 rfl (wi_info _ _)) rfl ?_
    exact ⟨rfl, hG.setRow (.inl (by omega)) _⟩
set_option maxRecDepth 100000 in
set_option maxHeartbeats 2000000 in
theorem lastsR_c (p : Lg) (w : World) : Calls Tryd.prog 109 #[.agg #[.string p.1, .int .i64 p.2.1.1, .string p.2.1.2.1, .int .i64 p.2.1.2.2.1, .int .i64 p.2.1.2.2.2, .int .i64 p.2.2.1, .string p.2.2.2.1, .int .i64 p.2.2.2.2.1, .int .i64 p.2.2.2.2.2]] w fun e w' => e = .returned (.agg #[.int .i64 p.2.1.1, .int .i64 (toL p)]) ∧ G w w' none := by
  have hL := (Bk.new w 79 #[.string p.1, .int .i64 p.2.1.1, .string p.2.1.2.1, .int .i64 p.2.1.2.2.1, .int .i64 p.2.1.2.2.2, .int .i64 p.2.2.1, .string p.2.2.2.1, .int .i64 p.2.2.2.2.1, .int .i64 p.2.2.2.2.2]).alloc (.cells #[.int .i64 0, .int .i64 0] 30)
  have hW := Bk.newAt (w := w.alloc (.cells #[.string p.1, .int .i64 p.2.1.1, .string p.2.1.2.1, .int .i64 p.2.1.2.2.1, .int .i64 p.2.1.2.2.2, .int .i64 p.2.2.1, .string p.2.2.2.1, .int .i64 p.2.2.2.2.1, .int .i64 p.2.2.2.2.2] 79)) (b := w.heap.size + 1) (by simp) 30 #[.int .i64 0, .int .i64 0]
  have hG := ((G.refl w none).alloc (.cells #[.string p.1, .int .i64 p.2.1.1, .string p.2.1.2.1, .int .i64 p.2.1.2.2.1, .int .i64 p.2.1.2.2.2, .int .i64 p.2.2.1, .string p.2.2.2.1, .int .i64 p.2.2.2.2.1, .int .i64 p.2.2.2.2.2] 79)).alloc (.cells #[.int .i64 0, .int .i64 0] 30)
  obtain ⟨T, hT⟩ : ∃ T, toL p = T := ⟨_, rfl⟩
  have HT := Lib.hid hT
  rw [hT]
  clear hT
  go_enter Tryd.func109, Tryd.ntmps109
  go_upto_region 1 with fail
  generalize (w.alloc (.cells #[.string p.1, .int .i64 p.2.1.1, .string p.2.1.2.1, .int .i64 p.2.1.2.2.1, .int .i64 p.2.1.2.2.2, .int .i64 p.2.2.1, .string p.2.2.2.1, .int .i64 p.2.2.2.2.1, .int .i64 p.2.2.2.2.2] 79)).alloc (.cells #[.int .i64 0, .int .i64 0] 30) = w2 at hL hW hG ⊢
  have c1 : w2.cell? ⟨w.heap.size, 1, none⟩ = some (.int .i64 p.2.1.1) := hL.cell 1
  have c5 : w2.cell? ⟨w.heap.size, 5, none⟩ = some (.int .i64 p.2.2.1) := hL.cell 5
  by_cases h : p.2.2.1 = -1
  · have hTT : T = 5761440 := by rw [← HT.out, toL, if_pos h]
    subst hTT
    have h' : (p.2.2.1 == -1) = true := by rw [h]; rfl
    go_wp2_with (refine wpList_store_row rfl 30 _ _ rfl (w.heap.size + 1) #[.int .i64 p.2.1.1, .int .i64 5761440] rfl rfl 30 _ hW (wi_info _ _) rfl (wi_one _ _) ?_)
    refine bodyPost_ret (results_cell_row rfl _ _ (w.heap.size + 1) 30 #[.int .i64 p.2.1.1, .int .i64 5761440] (0, 0) _ rfl (hW.setRow _) Tryd.underlying30 rfl (wi_info _ _)) rfl ?_
    exact ⟨rfl, hG.setRow (.inl (by omega)) _⟩
  · have hTT : T = p.2.2.1 := by rw [← HT.out, toL, if_neg h]
    subst hTT
    have h' : (p.2.2.1 == -1) = false := by simpa using h
    go_wp2_with (refine wpList_store_row rfl 30 _ _ rfl (w.heap.size + 1) #[.int .i64 p.2.1.1, .int .i64 p.2.2.1] rfl rfl 30 _ hW (wi_info _ _) rfl (wi_one _ _) ?_)
    refine bodyPost_ret (results_cell_row rfl _ _ (w.heap.size + 1) 30 #[.int .i64 p.2.1.1, .int .i64 p.2.2.1] (0, 0) _ rfl (hW.setRow _) Tryd.underlying30 rfl (wi_info _ _)) rfl ?_
    exact ⟨rfl, hG.setRow (.inl (by omega)) _⟩
/-- Has a leg a vehicle at a moment? -/
def hasL (v : ByteArray) (t : Int) (p : Lg) : Bool := p.1.toList == v.toList && hasB p.2.1.1 (toL p) t
set_option maxRecDepth 100000 in
set_option maxHeartbeats 2000000 in
theorem with1_c (p : Lg) (v : ByteArray) (t : Int) (g1 g2 : Nat) (w : World) (hv : Bk w g1 9 #[.string v]) (ht : Bk w g2 3 #[.int .i64 t]) :
    Calls Tryd.prog 102 #[.agg #[.string p.1, .int .i64 p.2.1.1, .string p.2.1.2.1, .int .i64 p.2.1.2.2.1, .int .i64 p.2.1.2.2.2, .int .i64 p.2.2.1, .string p.2.2.2.1, .int .i64 p.2.2.2.2.1, .int .i64 p.2.2.2.2.2], .pointer (some ⟨g1, 0, none⟩), .pointer (some ⟨g2, 0, none⟩)] w fun e w' => e = .returned (.bool (hasL v t p)) ∧ G w w' none := by
  have hL := Bk.new w 79 #[.string p.1, .int .i64 p.2.1.1, .string p.2.1.2.1, .int .i64 p.2.1.2.2.1, .int .i64 p.2.1.2.2.2, .int .i64 p.2.2.1, .string p.2.2.2.1, .int .i64 p.2.2.2.2.1, .int .i64 p.2.2.2.2.2]
  have hV := hv.alloc (.cells #[.string p.1, .int .i64 p.2.1.1, .string p.2.1.2.1, .int .i64 p.2.1.2.2.1, .int .i64 p.2.1.2.2.2, .int .i64 p.2.2.1, .string p.2.2.2.1, .int .i64 p.2.2.2.2.1, .int .i64 p.2.2.2.2.2] 79)
  have hT := ht.alloc (.cells #[.string p.1, .int .i64 p.2.1.1, .string p.2.1.2.1, .int .i64 p.2.1.2.2.1, .int .i64 p.2.1.2.2.2, .int .i64 p.2.2.1, .string p.2.2.2.1, .int .i64 p.2.2.2.2.1, .int .i64 p.2.2.2.2.2] 79)
  have hG := (G.refl w none).alloc (.cells #[.string p.1, .int .i64 p.2.1.1, .string p.2.1.2.1, .int .i64 p.2.1.2.2.1, .int .i64 p.2.1.2.2.2, .int .i64 p.2.2.1, .string p.2.2.2.1, .int .i64 p.2.2.2.2.1, .int .i64 p.2.2.2.2.2] 79)
  clear hv ht
  obtain ⟨B, hB⟩ : ∃ B, hasL v t p = B := ⟨_, rfl⟩
  have HB := Lib.hid hB
  rw [hB]
  clear hB
  go_enter Tryd.func102, Tryd.ntmps102
  go_upto_region 1 with fail
  generalize w.alloc (.cells #[.string p.1, .int .i64 p.2.1.1, .string p.2.1.2.1, .int .i64 p.2.1.2.2.1, .int .i64 p.2.1.2.2.2, .int .i64 p.2.2.1, .string p.2.2.2.1, .int .i64 p.2.2.2.2.1, .int .i64 p.2.2.2.2.2] 79) = w2 at hL hV hT hG ⊢
  generalize w.heap.size = g at hL ⊢
  have c0 : w2.cell? ⟨g, 0, none⟩ = some (.string p.1) := hL.cell 0
  have cv : w2.cell? ⟨g1, 0, none⟩ = some (.string v) := hV.cell 0
  have ct : w2.cell? ⟨g2, 0, none⟩ = some (.int .i64 t) := hT.cell 0
  cases he : (p.1.toList == v.toList) with
  | false =>
    have HF : Hid (B = false) := Lib.hid (by rw [← HB.out, hasL, he]; rfl)
    clear c0 cv ct
    refine wp_region_held_drew (S := (fun w' => w'.cell? ⟨g, 0, none⟩ = some (.string p.1) ∧ w'.cell? ⟨g, 1, none⟩ = some (.int .i64 p.2.1.1) ∧ w'.cell? ⟨g, 2, none⟩ = some (.string p.2.1.2.1) ∧ w'.cell? ⟨g, 3, none⟩ = some (.int .i64 p.2.1.2.2.1) ∧ w'.cell? ⟨g, 4, none⟩ = some (.int .i64 p.2.1.2.2.2) ∧ w'.cell? ⟨g, 5, none⟩ = some (.int .i64 p.2.2.1) ∧ w'.cell? ⟨g, 6, none⟩ = some (.string p.2.2.2.1) ∧ w'.cell? ⟨g, 7, none⟩ = some (.int .i64 p.2.2.2.2.1) ∧ w'.cell? ⟨g, 8, none⟩ = some (.int .i64 p.2.2.2.2.2) ∧ w'.cell? ⟨g1, 0, none⟩ = some (.string v) ∧ w'.cell? ⟨g2, 0, none⟩ = some (.int .i64 t))) (by kernel_rfl) ?_ (fun hHeld => ?_)
    · exact ⟨hL.cell 0, hL.cell 1, hL.cell 2, hL.cell 3, hL.cell 4, hL.cell 5, hL.cell 6, hL.cell 7, hL.cell 8, hV.cell 0, hT.cell 0⟩
    refine wpAnyH_take (i := 0) (oi := { dst := some 5, op := Op.fieldAddr 79 (Operand.tmp 3) 0, type := 0, pos := _, after := #[], guard := none }) (v := ?_) rfl (by kernel_rfl) (by kernel_rfl) (by kernel_rfl) (fun _ _ _ h => h) (Or.inl ⟨by rfl, ?_⟩) (by assumption) ?_
    rotate_left
    · (intro w hSw; obtain ⟨s0, s1, s2, s3, s4, s5, s6, s7, s8, s9, s10⟩ := hSw; (go_simp <;> with_reducible rfl))
    try simp only [Act.put, List.setIfInBounds_toArray, List.set_cons_zero, List.set_cons_succ]
    refine wpAnyH_take (i := 1) (oi := { dst := some 6, op := Op.load 9 (Operand.tmp 5), type := 9, pos := _, after := #[{ on := 0, ground := Ground.data }], guard := none }) (v := ?_) rfl (by kernel_rfl) (by kernel_rfl) (by kernel_rfl) (fun _ _ _ h => h) (Or.inl ⟨by rfl, ?_⟩) (by assumption) ?_
    rotate_left
    · (intro w hSw; obtain ⟨s0, s1, s2, s3, s4, s5, s6, s7, s8, s9, s10⟩ := hSw; (go_simp <;> with_reducible rfl))
    try simp only [Act.put, List.setIfInBounds_toArray, List.set_cons_zero, List.set_cons_succ]
    refine wpAnyH_take (i := 2) (oi := { dst := some 7, op := Op.load 9 (Operand.tmp 1), type := 9, pos := _, after := #[], guard := none }) (v := ?_) rfl (by kernel_rfl) (by kernel_rfl) (by kernel_rfl) (fun _ _ _ h => h) (Or.inl ⟨by rfl, ?_⟩) (by assumption) ?_
    rotate_left
    · (intro w hSw; obtain ⟨s0, s1, s2, s3, s4, s5, s6, s7, s8, s9, s10⟩ := hSw; (go_simp <;> with_reducible rfl))
    try simp only [Act.put, List.setIfInBounds_toArray, List.set_cons_zero, List.set_cons_succ]
    refine wpAnyH_take (i := 3) (oi := { dst := some 8, op := Op.binOp BinOp.eql 9 (Operand.tmp 6) (Operand.tmp 7) 9, type := 4, pos := _, after := #[{ on := 1, ground := Ground.data }, { on := 2, ground := Ground.data }], guard := none }) (v := ?_) rfl (by kernel_rfl) (by kernel_rfl) (by kernel_rfl) (fun _ _ _ h => h) (Or.inl ⟨by rfl, ?_⟩) (by assumption) ?_
    rotate_left
    · (intro w hSw; obtain ⟨s0, s1, s2, s3, s4, s5, s6, s7, s8, s9, s10⟩ := hSw; (go_simp <;> with_reducible rfl))
    try simp only [Act.put, List.setIfInBounds_toArray, List.set_cons_zero, List.set_cons_succ]
    refine wpAnyH_take (i := 4) (oi := { dst := some 9, op := Op.move (Operand.tmp 8), type := 4, pos := _, after := #[{ on := 3, ground := Ground.data }], guard := none }) (v := ?_) rfl (by kernel_rfl) (by kernel_rfl) (by kernel_rfl) (fun _ _ _ h => h) (Or.inl ⟨by rfl, ?_⟩) (by assumption) ?_
    rotate_left
    · (intro w hSw; obtain ⟨s0, s1, s2, s3, s4, s5, s6, s7, s8, s9, s10⟩ := hSw; (go_simp <;> with_reducible rfl))
    try simp only [Act.put, List.setIfInBounds_toArray, List.set_cons_zero, List.set_cons_succ]
    refine wpAnyH_take (i := 5) (oi := { dst := some 10, op := Op.load 79 (Operand.tmp 3), type := 79, pos := _, after := #[{ on := 4, ground := Ground.guard }], guard := some (4, true) }) (v := undef) rfl (by kernel_rfl) (by kernel_rfl) (by kernel_rfl) (fun _ _ _ h => h) (Or.inr ⟨by rfl, rfl⟩) (by assumption) ?_
    try simp only [Act.put, List.setIfInBounds_toArray, List.set_cons_zero, List.set_cons_succ]
    refine wpAnyH_take (i := 6) (oi := { dst := some 11, op := Op.call { callee := Callee.value (Operand.func 104), args := #[Operand.tmp 10], argTypes := #[79] }, type := 30, pos := _, after := #[{ on := 5, ground := Ground.data }, { on := 4, ground := Ground.chain }, { on := 4, ground := Ground.guard }], guard := some (4, true) }) (v := undef) rfl (by kernel_rfl) (by kernel_rfl) (by kernel_rfl) (fun _ _ _ h => h) (Or.inr ⟨by rfl, rfl⟩) (by assumption) ?_
    try simp only [Act.put, List.setIfInBounds_toArray, List.set_cons_zero, List.set_cons_succ]
    refine wpAnyH_take (i := 7) (oi := { dst := some 12, op := Op.load 3 (Operand.tmp 2), type := 3, pos := _, after := #[{ on := 4, ground := Ground.guard }], guard := some (4, true) }) (v := undef) rfl (by kernel_rfl) (by kernel_rfl) (by kernel_rfl) (fun _ _ _ h => h) (Or.inr ⟨by rfl, rfl⟩) (by assumption) ?_
    try simp only [Act.put, List.setIfInBounds_toArray, List.set_cons_zero, List.set_cons_succ]
    refine wpAnyH_take (i := 8) (oi := { dst := some 13, op := Op.call { callee := Callee.value (Operand.func 103), args := #[Operand.tmp 11, Operand.tmp 12], argTypes := #[30, 3] }, type := 4, pos := _, after := #[{ on := 6, ground := Ground.data }, { on := 7, ground := Ground.data }, { on := 6, ground := Ground.chain }, { on := 4, ground := Ground.guard }], guard := some (4, true) }) (v := undef) rfl (by kernel_rfl) (by kernel_rfl) (by kernel_rfl) (fun _ _ _ h => h) (Or.inr ⟨by rfl, rfl⟩) (by assumption) ?_
    try simp only [Act.put, List.setIfInBounds_toArray, List.set_cons_zero, List.set_cons_succ]
    refine wpAnyH_take (i := 9) (oi := { dst := some 14, op := Op.pick (Operand.tmp 9) (Operand.tmp 13) (Operand.const (Value.bool false)), type := 4, pos := _, after := #[{ on := 4, ground := Ground.data }, { on := 8, ground := Ground.data }], guard := none }) (v := ?_) rfl (by kernel_rfl) (by kernel_rfl) (by kernel_rfl) (fun _ _ _ h => h) (Or.inl ⟨by rfl, ?_⟩) (by assumption) ?_
    rotate_left
    · (intro w hSw; obtain ⟨s0, s1, s2, s3, s4, s5, s6, s7, s8, s9, s10⟩ := hSw; (go_simp <;> with_reducible rfl))
    try simp only [Act.put, List.setIfInBounds_toArray, List.set_cons_zero, List.set_cons_succ]
    refine wpAnyH_take (i := 10) (oi := { dst := some 4, op := Op.assign (Operand.tmp 14), type := 4, pos := _, after := #[{ on := 9, ground := Ground.data }, { on := 8, ground := Ground.chain }, { on := 0, ground := Ground.phase }, { on := 1, ground := Ground.phase }, { on := 2, ground := Ground.phase }, { on := 3, ground := Ground.phase }, { on := 4, ground := Ground.phase }, { on := 5, ground := Ground.phase }, { on := 6, ground := Ground.phase }, { on := 7, ground := Ground.phase }, { on := 8, ground := Ground.phase }, { on := 9, ground := Ground.phase }], guard := none }) (v := ?_) rfl (by kernel_rfl) (by kernel_rfl) (by kernel_rfl) (fun _ _ _ h => h) (Or.inl ⟨by rfl, ?_⟩) (by assumption) ?_
    rotate_left
    · (intro w hSw; obtain ⟨s0, s1, s2, s3, s4, s5, s6, s7, s8, s9, s10⟩ := hSw; (go_simp <;> with_reducible rfl))
    try simp only [Act.put, List.setIfInBounds_toArray, List.set_cons_zero, List.set_cons_succ]
    refine wpAnyH_done (by kernel_rfl) ?_ _
    go_wp2_with fail
    go_ret
    exact ⟨ret_bool HF.out.symm, hG.drew⟩
  | true =>
    have HF : Hid (B = hasB p.2.1.1 (toL p) t) := Lib.hid (by rw [← HB.out, hasL, he]; rfl)
    have hq := (G.refl w2 none).drew
    replace hL := hL.quiet hq
    replace hV := hV.quiet hq
    replace hT := hT.quiet hq
    replace hG := hG.trans hq
    clear hq c0 cv ct
    refine wp_region_held_drew (S := (fun w' => w'.cell? ⟨g, 0, none⟩ = some (.string p.1) ∧ w'.cell? ⟨g, 1, none⟩ = some (.int .i64 p.2.1.1) ∧ w'.cell? ⟨g, 2, none⟩ = some (.string p.2.1.2.1) ∧ w'.cell? ⟨g, 3, none⟩ = some (.int .i64 p.2.1.2.2.1) ∧ w'.cell? ⟨g, 4, none⟩ = some (.int .i64 p.2.1.2.2.2) ∧ w'.cell? ⟨g, 5, none⟩ = some (.int .i64 p.2.2.1) ∧ w'.cell? ⟨g, 6, none⟩ = some (.string p.2.2.2.1) ∧ w'.cell? ⟨g, 7, none⟩ = some (.int .i64 p.2.2.2.2.1) ∧ w'.cell? ⟨g, 8, none⟩ = some (.int .i64 p.2.2.2.2.2) ∧ w'.cell? ⟨g1, 0, none⟩ = some (.string v) ∧ w'.cell? ⟨g2, 0, none⟩ = some (.int .i64 t))) (by kernel_rfl) ?_ (fun hHeld => ?_)
    · exact ⟨hL.cell 0, hL.cell 1, hL.cell 2, hL.cell 3, hL.cell 4, hL.cell 5, hL.cell 6, hL.cell 7, hL.cell 8, hV.cell 0, hT.cell 0⟩
    refine wpAnyH_take (i := 0) (oi := { dst := some 5, op := Op.fieldAddr 79 (Operand.tmp 3) 0, type := 0, pos := _, after := #[], guard := none }) (v := ?_) rfl (by kernel_rfl) (by kernel_rfl) (by kernel_rfl) (fun _ _ _ h => h) (Or.inl ⟨by rfl, ?_⟩) (by assumption) ?_
    rotate_left
    · (intro w hSw; obtain ⟨s0, s1, s2, s3, s4, s5, s6, s7, s8, s9, s10⟩ := hSw; (go_simp <;> with_reducible rfl))
    try simp only [Act.put, List.setIfInBounds_toArray, List.set_cons_zero, List.set_cons_succ]
    refine wpAnyH_take (i := 1) (oi := { dst := some 6, op := Op.load 9 (Operand.tmp 5), type := 9, pos := _, after := #[{ on := 0, ground := Ground.data }], guard := none }) (v := ?_) rfl (by kernel_rfl) (by kernel_rfl) (by kernel_rfl) (fun _ _ _ h => h) (Or.inl ⟨by rfl, ?_⟩) (by assumption) ?_
    rotate_left
    · (intro w hSw; obtain ⟨s0, s1, s2, s3, s4, s5, s6, s7, s8, s9, s10⟩ := hSw; (go_simp <;> with_reducible rfl))
    try simp only [Act.put, List.setIfInBounds_toArray, List.set_cons_zero, List.set_cons_succ]
    refine wpAnyH_take (i := 2) (oi := { dst := some 7, op := Op.load 9 (Operand.tmp 1), type := 9, pos := _, after := #[], guard := none }) (v := ?_) rfl (by kernel_rfl) (by kernel_rfl) (by kernel_rfl) (fun _ _ _ h => h) (Or.inl ⟨by rfl, ?_⟩) (by assumption) ?_
    rotate_left
    · (intro w hSw; obtain ⟨s0, s1, s2, s3, s4, s5, s6, s7, s8, s9, s10⟩ := hSw; (go_simp <;> with_reducible rfl))
    try simp only [Act.put, List.setIfInBounds_toArray, List.set_cons_zero, List.set_cons_succ]
    refine wpAnyH_take (i := 3) (oi := { dst := some 8, op := Op.binOp BinOp.eql 9 (Operand.tmp 6) (Operand.tmp 7) 9, type := 4, pos := _, after := #[{ on := 1, ground := Ground.data }, { on := 2, ground := Ground.data }], guard := none }) (v := ?_) rfl (by kernel_rfl) (by kernel_rfl) (by kernel_rfl) (fun _ _ _ h => h) (Or.inl ⟨by rfl, ?_⟩) (by assumption) ?_
    rotate_left
    · (intro w hSw; obtain ⟨s0, s1, s2, s3, s4, s5, s6, s7, s8, s9, s10⟩ := hSw; (go_simp <;> with_reducible rfl))
    try simp only [Act.put, List.setIfInBounds_toArray, List.set_cons_zero, List.set_cons_succ]
    refine wpAnyH_take (i := 4) (oi := { dst := some 9, op := Op.move (Operand.tmp 8), type := 4, pos := _, after := #[{ on := 3, ground := Ground.data }], guard := none }) (v := ?_) rfl (by kernel_rfl) (by kernel_rfl) (by kernel_rfl) (fun _ _ _ h => h) (Or.inl ⟨by rfl, ?_⟩) (by assumption) ?_
    rotate_left
    · (intro w hSw; obtain ⟨s0, s1, s2, s3, s4, s5, s6, s7, s8, s9, s10⟩ := hSw; (go_simp <;> with_reducible rfl))
    try simp only [Act.put, List.setIfInBounds_toArray, List.set_cons_zero, List.set_cons_succ]
    refine wpAnyH_take (i := 5) (oi := { dst := some 10, op := Op.load 79 (Operand.tmp 3), type := 79, pos := _, after := #[{ on := 4, ground := Ground.guard }], guard := some (4, true) }) (v := ?_) rfl (by kernel_rfl) (by kernel_rfl) (by kernel_rfl) (fun _ _ _ h => h) (Or.inl ⟨by rfl, ?_⟩) (by assumption) ?_
    rotate_left
    · (intro w hSw; obtain ⟨s0, s1, s2, s3, s4, s5, s6, s7, s8, s9, s10⟩ := hSw; (go_simp <;> with_reducible rfl))
    try simp only [Act.put, List.setIfInBounds_toArray, List.set_cons_zero, List.set_cons_succ]
    refine wpAnyH_take (i := 7) (oi := { dst := some 12, op := Op.load 3 (Operand.tmp 2), type := 3, pos := _, after := #[{ on := 4, ground := Ground.guard }], guard := some (4, true) }) (v := ?_) rfl (by kernel_rfl) (by kernel_rfl) (by kernel_rfl) (fun _ _ _ h => h) (Or.inl ⟨by rfl, ?_⟩) (by assumption) ?_
    rotate_left
    · (intro w hSw; obtain ⟨s0, s1, s2, s3, s4, s5, s6, s7, s8, s9, s10⟩ := hSw; (go_simp <;> with_reducible rfl))
    try simp only [Act.put, List.setIfInBounds_toArray, List.set_cons_zero, List.set_cons_succ]
    refine wpAnyH_ready (rs := [6]) (by kernel_rfl) (by simp) ?_
    refine AllReadyH.cons (o := { dst := some 11, op := Op.call { callee := Callee.value (Operand.func 104), args := #[Operand.tmp 10], argTypes := #[79] }, type := 30, pos := _, after := #[{ on := 5, ground := Ground.data }, { on := 4, ground := Ground.chain }, { on := 4, ground := Ground.guard }], guard := some (4, true) }) rfl (fun K hK => ?_) AllReadyH.nil
    go_simp
    refine (lasts_c p _).mono ?_
    rintro e w3 ⟨rfl, hh⟩
    replace hL := hL.quiet hh
    replace hV := hV.quiet hh
    replace hT := hT.quiet hh
    replace hG := hG.trans hh
    clear hh
    refine hK.out _ _ ?_ (fun hHeld => ?_)
    · exact ⟨hL.cell 0, hL.cell 1, hL.cell 2, hL.cell 3, hL.cell 4, hL.cell 5, hL.cell 6, hL.cell 7, hL.cell 8, hV.cell 0, hT.cell 0⟩
    clear hK K
    try simp only [Act.put, List.setIfInBounds_toArray, List.set_cons_zero, List.set_cons_succ]
    refine wpAnyH_ready (rs := [8]) (by kernel_rfl) (by simp) ?_
    refine AllReadyH.cons (o := { dst := some 13, op := Op.call { callee := Callee.value (Operand.func 103), args := #[Operand.tmp 11, Operand.tmp 12], argTypes := #[30, 3] }, type := 4, pos := _, after := #[{ on := 6, ground := Ground.data }, { on := 7, ground := Ground.data }, { on := 6, ground := Ground.chain }, { on := 4, ground := Ground.guard }], guard := some (4, true) }) rfl (fun K hK => ?_) AllReadyH.nil
    go_simp
    refine (has_c p.2.1.1 (toL p) t _).mono ?_
    rintro e w4 ⟨rfl, hh⟩
    replace hL := hL.quiet hh
    replace hV := hV.quiet hh
    replace hT := hT.quiet hh
    replace hG := hG.trans hh
    clear hh
    refine hK.out _ _ ?_ (fun hHeld => ?_)
    · exact ⟨hL.cell 0, hL.cell 1, hL.cell 2, hL.cell 3, hL.cell 4, hL.cell 5, hL.cell 6, hL.cell 7, hL.cell 8, hV.cell 0, hT.cell 0⟩
    clear hK K
    try simp only [Act.put, List.setIfInBounds_toArray, List.set_cons_zero, List.set_cons_succ]
    refine wpAnyH_take (i := 9) (oi := { dst := some 14, op := Op.pick (Operand.tmp 9) (Operand.tmp 13) (Operand.const (Value.bool false)), type := 4, pos := _, after := #[{ on := 4, ground := Ground.data }, { on := 8, ground := Ground.data }], guard := none }) (v := ?_) rfl (by kernel_rfl) (by kernel_rfl) (by kernel_rfl) (fun _ _ _ h => h) (Or.inl ⟨by rfl, ?_⟩) (by assumption) ?_
    rotate_left
    · (intro w hSw; obtain ⟨s0, s1, s2, s3, s4, s5, s6, s7, s8, s9, s10⟩ := hSw; (go_simp <;> with_reducible rfl))
    try simp only [Act.put, List.setIfInBounds_toArray, List.set_cons_zero, List.set_cons_succ]
    refine wpAnyH_take (i := 10) (oi := { dst := some 4, op := Op.assign (Operand.tmp 14), type := 4, pos := _, after := #[{ on := 9, ground := Ground.data }, { on := 8, ground := Ground.chain }, { on := 0, ground := Ground.phase }, { on := 1, ground := Ground.phase }, { on := 2, ground := Ground.phase }, { on := 3, ground := Ground.phase }, { on := 4, ground := Ground.phase }, { on := 5, ground := Ground.phase }, { on := 6, ground := Ground.phase }, { on := 7, ground := Ground.phase }, { on := 8, ground := Ground.phase }, { on := 9, ground := Ground.phase }], guard := none }) (v := ?_) rfl (by kernel_rfl) (by kernel_rfl) (by kernel_rfl) (fun _ _ _ h => h) (Or.inl ⟨by rfl, ?_⟩) (by assumption) ?_
    rotate_left
    · (intro w hSw; obtain ⟨s0, s1, s2, s3, s4, s5, s6, s7, s8, s9, s10⟩ := hSw; (go_simp <;> with_reducible rfl))
    try simp only [Act.put, List.setIfInBounds_toArray, List.set_cons_zero, List.set_cons_succ]
    refine wpAnyH_done (by kernel_rfl) ?_ _
    go_wp2_with fail
    go_ret
    exact ⟨ret_bool HF.out.symm, hG⟩
end Go.Proofs.YtdcofbciebkfkaaDoor

/- Steps of a region that draws its order, by hand. No program. -/
namespace Go.Proofs.YtdcofbciebkfkaaDoor
open Go.RowKit
section
variable {P : Program} {ops : Array Oper} {o : Oper} {a : Act} {w : World} {K : Act → World → Prop} {Q : Exit → Act → World → Prop} {E : Prop}
theorem st_val (hg : o.guard = none) {v : Value} {w' : World} (hr : (execOp a.eval o).run P w = .ok (.value v) w') (hK : K (a.put o.dst v) w') : if Region.wanted o (yielded ops a.tmps) = true then Oper.wp P o a w K Q else E := by
  rw [if_pos (by simp [Region.wanted, hg])]
  unfold Oper.wp
  rw [hr]
  exact hK
theorem st_wp (hg : o.guard = none) (h : Oper.wp P o a w K Q) : if Region.wanted o (yielded ops a.tmps) = true then Oper.wp P o a w K Q else E := by
  rw [if_pos (by simp [Region.wanted, hg])]
  exact h
theorem st_call (hg : o.guard = none) {f : FuncId} {args : Array Value} {w1 : World} (hr : (execOp a.eval o).run P w = .ok (.enter f args) w1) (hc : Calls P f args w1 fun e w' => ∃ v, e = .returned v ∧ K (a.put o.dst v) w') : if Region.wanted o (yielded ops a.tmps) = true then Oper.wp P o a w K Q else E := by
  rw [if_pos (by simp [Region.wanted, hg])]
  unfold Oper.wp
  rw [hr]
  refine hc.mono ?_
  rintro e w' ⟨v, rfl, hK⟩
  exact hK
theorem run_load_row {ty : TypeId} {x : Operand} (ho : o.op = .load ty x) (g : Nat) (hx : a.eval x = .pointer (some ⟨g, 0, none⟩)) (t : TypeId) (cs : Array Value) (d : TypeDesc) (hg : Bk w g t cs)
    (hu : P.underlying ty = some d) (hd : (match d with | .struct _ | .array _ _ => true | _ => false) = true) (hi : (P.info? ty).map (·.size) = some cs.size) : (execOp a.eval o).run P w = .ok (.value (.agg cs)) w := by
  unfold execOp
  simp only [ho, hx, Instr.loadAt, Instr.sureAddr, Sem.run_bind, Sem.run_pure, Result.andThen_ok, run_loadVar_row w g t ty cs (0, 0) d hg hu hd hi]
/-- One that may come up, and it alone. -/
theorem ready_one {md : Region.Mode} {fuel : Nat} {listed : Array Bool} {i : Nat} (hr : Region.ready md ops listed = [i]) (ho : ops[i]? = some o)
    (h : ∀ K' : Act → World → Prop, (∀ a w, wpAny P md ops Q fuel (listed.setIfInBounds i true) a w → K' a w) → if Region.wanted o (yielded ops a.tmps) = true then Oper.wp P o a w K' Q else K' (a.put o.dst undef) w) : wpAny P md ops Q (fuel + 1) listed a w :=
  wpAny_ready hr (by simp) (AllReady.cons ho h AllReady.nil)
theorem ready_two {md : Region.Mode} {fuel : Nat} {listed : Array Bool} {i j : Nat} {o2 : Oper} (hr : Region.ready md ops listed = [i, j]) (ho : ops[i]? = some o) (ho2 : ops[j]? = some o2)
    (h : ∀ K' : Act → World → Prop, (∀ a w, wpAny P md ops Q fuel (listed.setIfInBounds i true) a w → K' a w) → if Region.wanted o (yielded ops a.tmps) = true then Oper.wp P o a w K' Q else K' (a.put o.dst undef) w)
    (h2 : ∀ K' : Act → World → Prop, (∀ a w, wpAny P md ops Q fuel (listed.setIfInBounds j true) a w → K' a w) → if Region.wanted o2 (yielded ops a.tmps) = true then Oper.wp P o2 a w K' Q else K' (a.put o2.dst undef) w) : wpAny P md ops Q (fuel + 1) listed a w :=
  wpAny_ready hr (by simp) (AllReady.cons ho h (AllReady.cons ho2 h2 AllReady.nil))
end
end Go.Proofs.YtdcofbciebkfkaaDoor
