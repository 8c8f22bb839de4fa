/- Sop, Cle, Cmf, Gat, Bkf, Chr. -/
import Derived.Test.YtamoefnpfkcigaaDoorZc2
import Derived.Test.YtamoefnpfkcigaaDoorZc1
import Derived.Deep.MidRow
import Derived.Laws.IdiomCopy
import Derived.Laws.OwnMore
/- slices.SortStableFunc at passages, fewer than 20: insertion. Written by gensop.py. -/
namespace Go.Proofs.YtamoefnpfkcigaaDoor
open Go.RowKit

theorem pa_oneL (r : Pa) : ∀ u ∈ (paC r).toList, u.oneCell' = true := by
  intro u hu
  simp [paC] at hu
  rcases hu with rfl | rfl | rfl | rfl <;> rfl
theorem pa_one (x : Pa) : (paC x).all (·.oneCell') = true := by simp [paC, Value.oneCell']
theorem pa_rowOk : RowOk Tryd.prog 90 53 4 48 (.agg #[.int .i64 0, .string ⟨#[]⟩, .string ⟨#[]⟩, .int .i64 0]) paC := ⟨by kernel_rfl, Tryd.underlying53, pa_oneL, paC_sz, rfl, by omega, by omega⟩
abbrev OwnPa (w : World) (base : Nat) (v : Value) (l : List Pa) : Prop := OwnX 90 4 paC w base v l
theorem pa_there {w : World} {base g n cap : Nat} {l : List Pa} {j : Nat} {t : Int} {a b : ByteArray} {c : Int} (h : OwnPa w base (.slice (some ⟨g, 0, none⟩) n cap) l) (hl : l.length = n) (hj : j < n) : w.there g (j * 4) (#[.int .i64 t, .string a, .string b, .int .i64 c] : Array Value).size := fun i hi => by
  subst hl
  have hi4 : i < 4 := hi
  have h1 := World.ownsRow.cellAt h (j * 4 + i) (by omega)
  have hr : (rowL paC l).length = l.length * 4 := h.1
  rw [List.getElem?_eq_getElem (by rw [hr]; omega)] at h1
  exact ⟨by rw [h1]; rfl, World.ownsRow.frozenAt h _⟩
theorem pa_set {w : World} {base g n cap : Nat} {l : List Pa} (h : OwnPa w base (.slice (some ⟨g, 0, none⟩) n cap) l) (hl : l.length = n) {j : Nat} {p : Pa} (hp : l[j]? = some p) (q : Pa) :
    OwnPa (w.setCells g (j * 4) [.int .i64 q.1, .string q.2.1, .string q.2.2.1, .int .i64 q.2.2.2]) base (.slice (some ⟨g, 0, none⟩) n cap) (l.set j q) := by
  subst hl
  obtain ⟨t, a, b, c⟩ := q
  have jl := (List.getElem?_eq_some_iff.1 hp).1
  have o1 := OwnX.set paC_sz h hp (q := (t, p.2)) 0 (.int .i64 t) (by omega) rfl
  have o2 := OwnX.set paC_sz o1 (show (l.set j (t, p.2))[j]? = some (t, p.2) by rw [List.getElem?_set_self jl]) (q := (t, a, p.2.2)) 1 (.string a) (by omega) rfl
  rw [List.set_set] at o2
  have o3 := OwnX.set paC_sz o2 (show (l.set j (t, a, p.2.2))[j]? = some (t, a, p.2.2) by rw [List.getElem?_set_self jl]) (q := (t, a, b, p.2.2.2)) 2 (.string b) (by omega) rfl
  rw [List.set_set] at o3
  have o4 := OwnX.set paC_sz o3 (show (l.set j (t, a, b, p.2.2.2))[j]? = some (t, a, b, p.2.2.2) by rw [List.getElem?_set_self jl]) (q := (t, a, b, c)) 3 (.int .i64 c) (by omega) rfl
  rw [List.set_set] at o4
  unfold OwnPa OwnX
  rw [List.length_set]
  exact o4
theorem pa_grow (w : World) (g o : Nat) (q : Pa) : G w (w.setCells g o [.int .i64 q.1, .string q.2.1, .string q.2.2.1, .int .i64 q.2.2.2]) (some g) :=
  ((((G.refl w (some g)).setCell (p := ⟨g, o, none⟩) (.inr rfl) (.int .i64 q.1)).setCell (p := ⟨g, o + 1, none⟩) (.inr rfl) (.string q.2.1)).setCell (p := ⟨g, o + 1 + 1, none⟩) (.inr rfl) (.string q.2.2.1)).setCell (p := ⟨g, o + 1 + 1 + 1, none⟩) (.inr rfl) (.int .i64 q.2.2.2)
def SoP (w : World) (base : Nat) (v : Value) (c : Pa → Pa → Bool) (l0 : List Pa) (s8 : Value) (wr : World) : Prop :=
  ∃ (i : Nat) (l : List Pa), 1 ≤ i ∧ i ≤ max l0.length 1 ∧ s8 = .int .i64 i ∧ isrt c l0 = isF c (l0.length - i) i l ∧ l.length = l0.length ∧ (∀ z ∈ l, z ∈ l0) ∧ OwnPa wr base v l ∧ GS (S1 v) w wr
def SiP (w : World) (base : Nat) (v : Value) (c : Pa → Pa → Bool) (l0 : List Pa) (i : Nat) (li : List Pa) (s9 : Value) (wr : World) : Prop :=
  ∃ (j : Nat) (l : List Pa), j ≤ i ∧ s9 = .int .i64 j ∧ insJ c i li = insJ c j l ∧ l.length = l0.length ∧ (∀ z ∈ l, z ∈ l0) ∧ OwnPa wr base v l ∧ GS (S1 v) w wr
theorem insP_mem {α : Type} (c : α → α → Bool) : ∀ (j : Nat) (l : List α) (z : α), z ∈ insJ c j l → z ∈ l
  | 0, _, _, h => h
  | j + 1, l, z, h => by
    unfold insJ at h
    split at h
    · rename_i x y hx hy
      split at h
      · have := insP_mem c j _ z h
        rcases List.mem_or_eq_of_mem_set this with h1 | rfl
        · rcases List.mem_or_eq_of_mem_set h1 with h1 | rfl
          · exact h1
          · exact List.mem_of_getElem? hy
        · exact List.mem_of_getElem? hx
      · exact h
    · exact h
theorem isFP_mem {α : Type} (c : α → α → Bool) : ∀ (n i : Nat) (l : List α) (z : α), z ∈ isF c n i l → z ∈ l
  | 0, _, _, _, h => h
  | n + 1, i, l, z, h => insP_mem c i l z (isFP_mem c n (i + 1) _ z h)
theorem isrtP_mem {α : Type} (c : α → α → Bool) (l : List α) (z : α) (h : z ∈ isrt c l) : z ∈ l := isFP_mem c _ _ l z h
theorem isrtP_len {α : Type} (c : α → α → Bool) (l : List α) : (isrt c l).length = l.length := isF_len c _ _ l
set_option maxRecDepth 100000 in
set_option maxHeartbeats 8000000 in
theorem insSortP_c (F : FuncId) (caps : Array Value) (cf : Pa → Pa → Int) (v : Value) (l0 : List Pa) (base : Nat) (w : World) (hcf : ∀ (args : Array Value) (w : World), (callFunc F args).run Tryd.prog w = .ok (.enter F args) w)
    (hal : ∀ (x y : Pa) (w' : World), x ∈ l0 → y ∈ l0 → GS (S1 v) w w' → Calls Tryd.prog F (#[.agg (paC x), .agg (paC y)] ++ caps) w' fun e w'' => e = .returned (.int .i64 (cf x y)) ∧ G w' w'' none)
    (hown : OwnPa w base v l0) (hn : l0.length ≤ 1000) :
    Calls Tryd.prog 81 #[v, .int .i64 0, .int .i64 l0.length, .func (.func F) #[] caps] w fun e w' => e = .returned (.tuple #[]) ∧ OwnPa w' base v (isrt (fun x y => decide (cf x y < 0)) l0) ∧ GS (S1 v) w w' := by
  have HAL := Lib.hid hal
  obtain ⟨a, cap, rfl, hcap, hm⟩ := RdR.form (c := paC) (Rd.of_owns hown)
  clear hal
  go_enter Tryd.func81, Tryd.ntmps81
  go_wp2_with fail
  go_loopw [8] (SoP w base (.slice a l0.length cap) (fun x y => decide (cf x y < 0)) l0) (fun i _ => l0.length - (intOf i).toNat)
  case atStart => exact ⟨1, l0, by omega, by omega, rfl, rfl, rfl, fun z hz => hz, hown, GS.refl _ _⟩
  case round =>
    obtain ⟨i, l, hi1, hil, rfl, heq, hll, hsub, hownr, hGr⟩ := hrel
    have HSUB := Lib.hid hsub
    clear hsub
    have HE := Lib.hid heq
    clear heq hown
    by_cases hlt : i < l0.length
    · have HD : Hid (isrt (fun x y => decide (cf x y < 0)) l0 = isF (fun x y => decide (cf x y < 0)) (l0.length - (i + 1)) (i + 1) (insJ (fun x y => decide (cf x y < 0)) i l)) := Lib.hid (by
        rw [HE.out, show l0.length - i = (l0.length - (i + 1)) + 1 by omega, isF])
      have HI := Lib.hid hlt
      go_wp2_with fail
      go_loopw [9] (SiP w base (.slice a l0.length cap) (fun x y => decide (cf x y < 0)) l0 i l) (fun j _ => (intOf j).toNat)
      case atStart => exact ⟨i, l, by omega, rfl, rfl, hll, HSUB.out, hownr, hGr⟩
      case round =>
        clear hownr hGr
        obtain ⟨j, l', hji, rfl, heq, hl', hsub2, hown2, hG2⟩ := hrel
        have HSUB2 := Lib.hid hsub2
        clear hsub2
        have HQ := Lib.hid heq
        clear heq
        match j, hji, HQ with
        | 0, hji, HQ =>
          have HF : Hid (insJ (fun x y => decide (cf x y < 0)) i l = l') := Lib.hid (by rw [HQ.out, insJ])
          have h0 : ¬ ((0 : Int) > 0) := by omega
          go_upto_region 4 with fail
          refine wp_region_held_drew (S := (fun _ : World => True)) (by kernel_rfl) ?_ (fun hHeld => ?_)
          · exact trivial
          refine wpAnyH_take (i := 0) (oi := { dst := some 18, op := Op.move (Operand.tmp 9), type := 3, pos := _, after := #[], guard := none }) (v := ?_) rfl (by kernel_rfl) (by kernel_rfl) (by kernel_rfl) (fun _ _ _ h => h) (Or.inl ⟨by rfl, ?_⟩) (by assumption) ?_
          rotate_left
          · (intro w hSw; clear hSw; (go_simp <;> with_reducible rfl))
          try simp only [Act.put, List.setIfInBounds_toArray, List.set_cons_zero, List.set_cons_succ]
          refine wpAnyH_take (i := 1) (oi := { dst := some 19, op := Op.move (Operand.tmp 1), type := 3, pos := _, after := #[], guard := none }) (v := ?_) rfl (by kernel_rfl) (by kernel_rfl) (by kernel_rfl) (fun _ _ _ h => h) (Or.inl ⟨by rfl, ?_⟩) (by assumption) ?_
          rotate_left
          · (intro w hSw; clear hSw; (go_simp <;> with_reducible rfl))
          try simp only [Act.put, List.setIfInBounds_toArray, List.set_cons_zero, List.set_cons_succ]
          refine wpAnyH_take (i := 2) (oi := { dst := some 20, op := Op.binOp BinOp.gtr 3 (Operand.tmp 18) (Operand.tmp 19) 3, type := 4, pos := _, after := #[{ on := 0, ground := Ground.data }, { on := 1, ground := Ground.data }], guard := none }) (v := ?_) rfl (by kernel_rfl) (by kernel_rfl) (by kernel_rfl) (fun _ _ _ h => h) (Or.inl ⟨by rfl, ?_⟩) (by assumption) ?_
          rotate_left
          · (intro w hSw; clear hSw; (go_simp <;> with_reducible rfl))
          try simp only [Act.put, List.setIfInBounds_toArray, List.set_cons_zero, List.set_cons_succ]
          refine wpAnyH_take (i := 3) (oi := { dst := some 21, op := Op.move (Operand.tmp 20), type := 4, pos := _, after := #[{ on := 2, ground := Ground.data }], guard := none }) (v := ?_) rfl (by kernel_rfl) (by kernel_rfl) (by kernel_rfl) (fun _ _ _ h => h) (Or.inl ⟨by rfl, ?_⟩) (by assumption) ?_
          rotate_left
          · (intro w hSw; clear hSw; (go_simp <;> with_reducible rfl))
          try simp only [Act.put, List.setIfInBounds_toArray, List.set_cons_zero, List.set_cons_succ]
          refine wpAnyH_take (i := 4) (oi := { dst := some 22, op := Op.move (Operand.tmp 3), type := 92, pos := _, after := #[{ on := 3, ground := Ground.guard }], guard := some (3, true) }) (v := undef) rfl (by kernel_rfl) (by kernel_rfl) (by kernel_rfl) (fun _ _ _ h => h) (Or.inr ⟨by rfl, rfl⟩) (by assumption) ?_
          try simp only [Act.put, List.setIfInBounds_toArray, List.set_cons_zero, List.set_cons_succ]
          refine wpAnyH_take (i := 5) (oi := { dst := some 23, op := Op.move (Operand.tmp 0), type := 53, pos := _, after := #[{ on := 3, ground := Ground.guard }], guard := some (3, true) }) (v := undef) rfl (by kernel_rfl) (by kernel_rfl) (by kernel_rfl) (fun _ _ _ h => h) (Or.inr ⟨by rfl, rfl⟩) (by assumption) ?_
          try simp only [Act.put, List.setIfInBounds_toArray, List.set_cons_zero, List.set_cons_succ]
          refine wpAnyH_take (i := 6) (oi := { dst := some 24, op := Op.move (Operand.tmp 9), type := 3, pos := _, after := #[{ on := 3, ground := Ground.guard }], guard := some (3, true) }) (v := undef) rfl (by kernel_rfl) (by kernel_rfl) (by kernel_rfl) (fun _ _ _ h => h) (Or.inr ⟨by rfl, rfl⟩) (by assumption) ?_
          try simp only [Act.put, List.setIfInBounds_toArray, List.set_cons_zero, List.set_cons_succ]
          refine wpAnyH_take (i := 7) (oi := { dst := some 25, op := Op.indexAddr 53 (Operand.tmp 23) (Operand.tmp 24), type := 0, pos := _, after := #[{ on := 5, ground := Ground.data }, { on := 6, ground := Ground.data }, { on := 3, ground := Ground.guard }], guard := some (3, true) }) (v := undef) rfl (by kernel_rfl) (by kernel_rfl) (by kernel_rfl) (fun _ _ _ h => h) (Or.inr ⟨by rfl, rfl⟩) (by assumption) ?_
          try simp only [Act.put, List.setIfInBounds_toArray, List.set_cons_zero, List.set_cons_succ]
          refine wpAnyH_take (i := 8) (oi := { dst := some 26, op := Op.load 90 (Operand.tmp 25), type := 90, pos := _, after := #[{ on := 7, ground := Ground.data }, { on := 3, ground := Ground.guard }], guard := some (3, true) }) (v := undef) rfl (by kernel_rfl) (by kernel_rfl) (by kernel_rfl) (fun _ _ _ h => h) (Or.inr ⟨by rfl, rfl⟩) (by assumption) ?_
          try simp only [Act.put, List.setIfInBounds_toArray, List.set_cons_zero, List.set_cons_succ]
          refine wpAnyH_take (i := 9) (oi := { dst := some 27, op := Op.move (Operand.tmp 0), type := 53, pos := _, after := #[{ on := 3, ground := Ground.guard }], guard := some (3, true) }) (v := undef) rfl (by kernel_rfl) (by kernel_rfl) (by kernel_rfl) (fun _ _ _ h => h) (Or.inr ⟨by rfl, rfl⟩) (by assumption) ?_
          try simp only [Act.put, List.setIfInBounds_toArray, List.set_cons_zero, List.set_cons_succ]
          refine wpAnyH_take (i := 10) (oi := { dst := some 28, op := Op.move (Operand.tmp 9), type := 3, pos := _, after := #[{ on := 3, ground := Ground.guard }], guard := some (3, true) }) (v := undef) rfl (by kernel_rfl) (by kernel_rfl) (by kernel_rfl) (fun _ _ _ h => h) (Or.inr ⟨by rfl, rfl⟩) (by assumption) ?_
          try simp only [Act.put, List.setIfInBounds_toArray, List.set_cons_zero, List.set_cons_succ]
          refine wpAnyH_take (i := 11) (oi := { dst := some 29, op := Op.binOp BinOp.sub 3 (Operand.tmp 28) (Operand.const (Value.int IntKind.i64 1)) 3, type := 3, pos := _, after := #[{ on := 10, ground := Ground.data }, { on := 3, ground := Ground.guard }], guard := some (3, true) }) (v := undef) rfl (by kernel_rfl) (by kernel_rfl) (by kernel_rfl) (fun _ _ _ h => h) (Or.inr ⟨by rfl, rfl⟩) (by assumption) ?_
          try simp only [Act.put, List.setIfInBounds_toArray, List.set_cons_zero, List.set_cons_succ]
          refine wpAnyH_take (i := 12) (oi := { dst := some 30, op := Op.indexAddr 53 (Operand.tmp 27) (Operand.tmp 29), type := 0, pos := _, after := #[{ on := 9, ground := Ground.data }, { on := 11, ground := Ground.data }, { on := 3, ground := Ground.guard }], guard := some (3, true) }) (v := undef) rfl (by kernel_rfl) (by kernel_rfl) (by kernel_rfl) (fun _ _ _ h => h) (Or.inr ⟨by rfl, rfl⟩) (by assumption) ?_
          try simp only [Act.put, List.setIfInBounds_toArray, List.set_cons_zero, List.set_cons_succ]
          refine wpAnyH_take (i := 13) (oi := { dst := some 31, op := Op.load 90 (Operand.tmp 30), type := 90, pos := _, after := #[{ on := 12, ground := Ground.data }, { on := 3, ground := Ground.guard }], guard := some (3, true) }) (v := undef) rfl (by kernel_rfl) (by kernel_rfl) (by kernel_rfl) (fun _ _ _ h => h) (Or.inr ⟨by rfl, rfl⟩) (by assumption) ?_
          try simp only [Act.put, List.setIfInBounds_toArray, List.set_cons_zero, List.set_cons_succ]
          refine wpAnyH_take (i := 14) (oi := { dst := some 32, op := Op.call { callee := Callee.value (Operand.tmp 22), args := #[Operand.tmp 26, Operand.tmp 31], argTypes := #[90, 90] }, type := 3, pos := _, after := #[{ on := 4, ground := Ground.data }, { on := 8, ground := Ground.data }, { on := 13, ground := Ground.data }, { on := 3, ground := Ground.chain }, { on := 3, ground := Ground.guard }], guard := some (3, true) }) (v := undef) rfl (by kernel_rfl) (by kernel_rfl) (by kernel_rfl) (fun _ _ _ h => h) (Or.inr ⟨by rfl, rfl⟩) (by assumption) ?_
          try simp only [Act.put, List.setIfInBounds_toArray, List.set_cons_zero, List.set_cons_succ]
          refine wpAnyH_take (i := 15) (oi := { dst := some 33, op := Op.binOp BinOp.lss 3 (Operand.tmp 32) (Operand.const (Value.int IntKind.i64 0)) 3, type := 4, pos := _, after := #[{ on := 14, ground := Ground.data }, { on := 3, ground := Ground.guard }], guard := some (3, true) }) (v := undef) rfl (by kernel_rfl) (by kernel_rfl) (by kernel_rfl) (fun _ _ _ h => h) (Or.inr ⟨by rfl, rfl⟩) (by assumption) ?_
          try simp only [Act.put, List.setIfInBounds_toArray, List.set_cons_zero, List.set_cons_succ]
          refine wpAnyH_take (i := 16) (oi := { dst := some 34, op := Op.pick (Operand.tmp 21) (Operand.tmp 33) (Operand.const (Value.bool false)), type := 4, pos := _, after := #[{ on := 3, ground := Ground.data }, { on := 15, ground := Ground.data }], guard := none }) (v := ?_) rfl (by kernel_rfl) (by kernel_rfl) (by kernel_rfl) (fun _ _ _ h => h) (Or.inl ⟨by rfl, ?_⟩) (by assumption) ?_
          rotate_left
          · (intro w hSw; clear hSw; (go_simp <;> with_reducible rfl))
          try simp only [Act.put, List.setIfInBounds_toArray, List.set_cons_zero, List.set_cons_succ]
          refine wpAnyH_done (by kernel_rfl) ?_ _
          generalize hwd : wr.drew = wd at hHeld ⊢
          have hown3 : OwnPa wd base (.slice a l0.length cap) l' := by rw [← hwd]; exact OwnX.drew hown2
          have hG3 : GS (S1 (.slice a l0.length cap)) w wd := by rw [← hwd]; exact hG2.trans (GS.of_G (G.refl wr none).drew)
          clear hwd hHeld
          go_wp2_with fail
          go_roundw
          case rel => exact ⟨i + 1, l', by omega, by omega, by go_num, by rw [HD.out, HF.out], hl', HSUB2.out, hown3, hG3⟩
          case measure => have := HI.out; simp [intOf]; omega
        | j + 1, hji, HQ =>
          obtain ⟨⟨x1, x2, x3, x4⟩, hx⟩ : ∃ x, l'[j + 1]? = some x := ⟨_, List.getElem?_eq_getElem (by omega)⟩
          obtain ⟨⟨y1, y2, y3, y4⟩, hy⟩ : ∃ y, l'[j]? = some y := ⟨_, List.getElem?_eq_getElem (by omega)⟩
          have HDJ : Hid (insJ (fun x y => decide (cf x y < 0)) i l = if cf (x1, x2, x3, x4) (y1, y2, y3, y4) < 0 then insJ (fun x y => decide (cf x y < 0)) j ((l'.set (j + 1) (y1, y2, y3, y4)).set j (x1, x2, x3, x4)) else l') := Lib.hid (by
            rw [HQ.out, insJ, hx, hy]; simp)
          obtain ⟨g, cap', cur, e, hB⟩ := OwnX.form0 hown2 (by omega)
          rw [hl'] at e
          cases e
          have hcc : ∀ w', G wr w' none → w'.cell? ⟨g, (j + 1) * 4, none⟩ = some (.int .i64 x1) ∧ w'.cell? ⟨g, (j + 1) * 4 + 1, none⟩ = some (.string x2) ∧ w'.cell? ⟨g, (j + 1) * 4 + 2, none⟩ = some (.string x3) ∧ w'.cell? ⟨g, (j + 1) * 4 + 3, none⟩ = some (.int .i64 x4) ∧ w'.cell? ⟨g, j * 4, none⟩ = some (.int .i64 y1) ∧ w'.cell? ⟨g, j * 4 + 1, none⟩ = some (.string y2) ∧ w'.cell? ⟨g, j * 4 + 2, none⟩ = some (.string y3) ∧ w'.cell? ⟨g, j * 4 + 3, none⟩ = some (.int .i64 y4) := fun w' q => by
            have ex0 := RdR.cell paC_sz (Rd.of_owns hown2) q hx 0 (.int .i64 x1) rfl; have ex1 := RdR.cell paC_sz (Rd.of_owns hown2) q hx 1 (.string x2) rfl; have ex2 := RdR.cell paC_sz (Rd.of_owns hown2) q hx 2 (.string x3) rfl; have ex3 := RdR.cell paC_sz (Rd.of_owns hown2) q hx 3 (.int .i64 x4) rfl; have ey0 := RdR.cell paC_sz (Rd.of_owns hown2) q hy 0 (.int .i64 y1) rfl; have ey1 := RdR.cell paC_sz (Rd.of_owns hown2) q hy 1 (.string y2) rfl; have ey2 := RdR.cell paC_sz (Rd.of_owns hown2) q hy 2 (.string y3) rfl; have ey3 := RdR.cell paC_sz (Rd.of_owns hown2) q hy 3 (.int .i64 y4) rfl
            simp only [Nat.add_zero, Nat.zero_add] at ex0 ex1 ex2 ex3 ey0 ey1 ey2 ey3
            exact ⟨ex0, ex1, ex2, ex3, ey0, ey1, ey2, ey3⟩
          have HG0 := Lib.hid hG2
          have h0 : ((j : Int) + 1) > 0 := by omega
          have h1 : IntKind.i64.wrap ((j : Int) + 1 - 1) = (j : Int) := by rw [IntKind.wrap_i64]; omega
          have h2 : IntKind.i64.wrap (j : Int) = (j : Int) := by rw [IntKind.wrap_i64]; omega
          have h3 : (j : Int) + 1 < (l0.length : Int) := by omega
          have h4 : (j : Int) < (l0.length : Int) := by omega
          have h5 : (0 : Int) ≤ (j : Int) + 1 := by omega
          have h6 : (0 : Int) ≤ (j : Int) := by omega
          go_upto_region 4 with fail
          have hS := (G.refl wr none).drew
          refine wp_region_held_drew (S := (fun w' : World => w'.cell? ⟨g, (j + 1) * 4, none⟩ = some (.int .i64 x1) ∧ w'.cell? ⟨g, (j + 1) * 4 + 1, none⟩ = some (.string x2) ∧ w'.cell? ⟨g, (j + 1) * 4 + 2, none⟩ = some (.string x3) ∧ w'.cell? ⟨g, (j + 1) * 4 + 3, none⟩ = some (.int .i64 x4) ∧ w'.cell? ⟨g, j * 4, none⟩ = some (.int .i64 y1) ∧ w'.cell? ⟨g, j * 4 + 1, none⟩ = some (.string y2) ∧ w'.cell? ⟨g, j * 4 + 2, none⟩ = some (.string y3) ∧ w'.cell? ⟨g, j * 4 + 3, none⟩ = some (.int .i64 y4))) (by kernel_rfl) ?_ (fun hHeld => ?_)
          · exact hcc _ hS
          refine wpAnyH_take (i := 0) (oi := { dst := some 18, op := Op.move (Operand.tmp 9), type := 3, pos := _, after := #[], guard := none }) (v := ?_) rfl (by kernel_rfl) (by kernel_rfl) (by kernel_rfl) (fun _ _ _ h => h) (Or.inl ⟨by rfl, ?_⟩) (by assumption) ?_
          rotate_left
          · (intro w hSw; obtain ⟨q0, q1, q2, q3, q4, q5, q6, q7⟩ := hSw; (go_simp <;> with_reducible rfl))
          try simp only [Act.put, List.setIfInBounds_toArray, List.set_cons_zero, List.set_cons_succ]
          refine wpAnyH_take (i := 1) (oi := { dst := some 19, op := Op.move (Operand.tmp 1), type := 3, pos := _, after := #[], guard := none }) (v := ?_) rfl (by kernel_rfl) (by kernel_rfl) (by kernel_rfl) (fun _ _ _ h => h) (Or.inl ⟨by rfl, ?_⟩) (by assumption) ?_
          rotate_left
          · (intro w hSw; obtain ⟨q0, q1, q2, q3, q4, q5, q6, q7⟩ := hSw; (go_simp <;> with_reducible rfl))
          try simp only [Act.put, List.setIfInBounds_toArray, List.set_cons_zero, List.set_cons_succ]
          refine wpAnyH_take (i := 2) (oi := { dst := some 20, op := Op.binOp BinOp.gtr 3 (Operand.tmp 18) (Operand.tmp 19) 3, type := 4, pos := _, after := #[{ on := 0, ground := Ground.data }, { on := 1, ground := Ground.data }], guard := none }) (v := ?_) rfl (by kernel_rfl) (by kernel_rfl) (by kernel_rfl) (fun _ _ _ h => h) (Or.inl ⟨by rfl, ?_⟩) (by assumption) ?_
          rotate_left
          · (intro w hSw; obtain ⟨q0, q1, q2, q3, q4, q5, q6, q7⟩ := hSw; (go_simp <;> with_reducible rfl))
          try simp only [Act.put, List.setIfInBounds_toArray, List.set_cons_zero, List.set_cons_succ]
          refine wpAnyH_take (i := 3) (oi := { dst := some 21, op := Op.move (Operand.tmp 20), type := 4, pos := _, after := #[{ on := 2, ground := Ground.data }], guard := none }) (v := ?_) rfl (by kernel_rfl) (by kernel_rfl) (by kernel_rfl) (fun _ _ _ h => h) (Or.inl ⟨by rfl, ?_⟩) (by assumption) ?_
          rotate_left
          · (intro w hSw; obtain ⟨q0, q1, q2, q3, q4, q5, q6, q7⟩ := hSw; (go_simp <;> with_reducible rfl))
          try simp only [Act.put, List.setIfInBounds_toArray, List.set_cons_zero, List.set_cons_succ]
          refine wpAnyH_take (i := 4) (oi := { dst := some 22, op := Op.move (Operand.tmp 3), type := 92, pos := _, after := #[{ on := 3, ground := Ground.guard }], guard := some (3, true) }) (v := ?_) rfl (by kernel_rfl) (by kernel_rfl) (by kernel_rfl) (fun _ _ _ h => h) (Or.inl ⟨by rfl, ?_⟩) (by assumption) ?_
          rotate_left
          · (intro w hSw; obtain ⟨q0, q1, q2, q3, q4, q5, q6, q7⟩ := hSw; (go_simp <;> with_reducible rfl))
          try simp only [Act.put, List.setIfInBounds_toArray, List.set_cons_zero, List.set_cons_succ]
          refine wpAnyH_take (i := 5) (oi := { dst := some 23, op := Op.move (Operand.tmp 0), type := 53, pos := _, after := #[{ on := 3, ground := Ground.guard }], guard := some (3, true) }) (v := ?_) rfl (by kernel_rfl) (by kernel_rfl) (by kernel_rfl) (fun _ _ _ h => h) (Or.inl ⟨by rfl, ?_⟩) (by assumption) ?_
          rotate_left
          · (intro w hSw; obtain ⟨q0, q1, q2, q3, q4, q5, q6, q7⟩ := hSw; (go_simp <;> with_reducible rfl))
          try simp only [Act.put, List.setIfInBounds_toArray, List.set_cons_zero, List.set_cons_succ]
          refine wpAnyH_take (i := 6) (oi := { dst := some 24, op := Op.move (Operand.tmp 9), type := 3, pos := _, after := #[{ on := 3, ground := Ground.guard }], guard := some (3, true) }) (v := ?_) rfl (by kernel_rfl) (by kernel_rfl) (by kernel_rfl) (fun _ _ _ h => h) (Or.inl ⟨by rfl, ?_⟩) (by assumption) ?_
          rotate_left
          · (intro w hSw; obtain ⟨q0, q1, q2, q3, q4, q5, q6, q7⟩ := hSw; (go_simp <;> with_reducible rfl))
          try simp only [Act.put, List.setIfInBounds_toArray, List.set_cons_zero, List.set_cons_succ]
          refine wpAnyH_take (i := 7) (oi := { dst := some 25, op := Op.indexAddr 53 (Operand.tmp 23) (Operand.tmp 24), type := 0, pos := _, after := #[{ on := 5, ground := Ground.data }, { on := 6, ground := Ground.data }, { on := 3, ground := Ground.guard }], guard := some (3, true) }) (v := ?_) rfl (by kernel_rfl) (by kernel_rfl) (by kernel_rfl) (fun _ _ _ h => h) (Or.inl ⟨by rfl, ?_⟩) (by assumption) ?_
          rotate_left
          · (intro w hSw; obtain ⟨q0, q1, q2, q3, q4, q5, q6, q7⟩ := hSw; (go_simp <;> with_reducible rfl))
          try simp only [Act.put, List.setIfInBounds_toArray, List.set_cons_zero, List.set_cons_succ]
          refine wpAnyH_take (i := 8) (oi := { dst := some 26, op := Op.load 90 (Operand.tmp 25), type := 90, pos := _, after := #[{ on := 7, ground := Ground.data }, { on := 3, ground := Ground.guard }], guard := some (3, true) }) (v := ?_) rfl (by kernel_rfl) (by kernel_rfl) (by kernel_rfl) (fun _ _ _ h => h) (Or.inl ⟨by rfl, ?_⟩) (by assumption) ?_
          rotate_left
          · (intro w hSw; obtain ⟨q0, q1, q2, q3, q4, q5, q6, q7⟩ := hSw; (go_simp <;> with_reducible rfl))
          try simp only [Act.put, List.setIfInBounds_toArray, List.set_cons_zero, List.set_cons_succ]
          refine wpAnyH_take (i := 9) (oi := { dst := some 27, op := Op.move (Operand.tmp 0), type := 53, pos := _, after := #[{ on := 3, ground := Ground.guard }], guard := some (3, true) }) (v := ?_) rfl (by kernel_rfl) (by kernel_rfl) (by kernel_rfl) (fun _ _ _ h => h) (Or.inl ⟨by rfl, ?_⟩) (by assumption) ?_
          rotate_left
          · (intro w hSw; obtain ⟨q0, q1, q2, q3, q4, q5, q6, q7⟩ := hSw; (go_simp <;> with_reducible rfl))
          try simp only [Act.put, List.setIfInBounds_toArray, List.set_cons_zero, List.set_cons_succ]
          refine wpAnyH_take (i := 10) (oi := { dst := some 28, op := Op.move (Operand.tmp 9), type := 3, pos := _, after := #[{ on := 3, ground := Ground.guard }], guard := some (3, true) }) (v := ?_) rfl (by kernel_rfl) (by kernel_rfl) (by kernel_rfl) (fun _ _ _ h => h) (Or.inl ⟨by rfl, ?_⟩) (by assumption) ?_
          rotate_left
          · (intro w hSw; obtain ⟨q0, q1, q2, q3, q4, q5, q6, q7⟩ := hSw; (go_simp <;> with_reducible rfl))
          try simp only [Act.put, List.setIfInBounds_toArray, List.set_cons_zero, List.set_cons_succ]
          refine wpAnyH_take (i := 11) (oi := { dst := some 29, op := Op.binOp BinOp.sub 3 (Operand.tmp 28) (Operand.const (Value.int IntKind.i64 1)) 3, type := 3, pos := _, after := #[{ on := 10, ground := Ground.data }, { on := 3, ground := Ground.guard }], guard := some (3, true) }) (v := ?_) rfl (by kernel_rfl) (by kernel_rfl) (by kernel_rfl) (fun _ _ _ h => h) (Or.inl ⟨by rfl, ?_⟩) (by assumption) ?_
          rotate_left
          · (intro w hSw; obtain ⟨q0, q1, q2, q3, q4, q5, q6, q7⟩ := hSw; (go_simp <;> with_reducible rfl))
          try simp only [Act.put, List.setIfInBounds_toArray, List.set_cons_zero, List.set_cons_succ]
          refine wpAnyH_take (i := 12) (oi := { dst := some 30, op := Op.indexAddr 53 (Operand.tmp 27) (Operand.tmp 29), type := 0, pos := _, after := #[{ on := 9, ground := Ground.data }, { on := 11, ground := Ground.data }, { on := 3, ground := Ground.guard }], guard := some (3, true) }) (v := ?_) rfl (by kernel_rfl) (by kernel_rfl) (by kernel_rfl) (fun _ _ _ h => h) (Or.inl ⟨by rfl, ?_⟩) (by assumption) ?_
          rotate_left
          · (intro w hSw; obtain ⟨q0, q1, q2, q3, q4, q5, q6, q7⟩ := hSw; (go_simp <;> with_reducible rfl))
          try simp only [Act.put, List.setIfInBounds_toArray, List.set_cons_zero, List.set_cons_succ]
          refine wpAnyH_take (i := 13) (oi := { dst := some 31, op := Op.load 90 (Operand.tmp 30), type := 90, pos := _, after := #[{ on := 12, ground := Ground.data }, { on := 3, ground := Ground.guard }], guard := some (3, true) }) (v := ?_) rfl (by kernel_rfl) (by kernel_rfl) (by kernel_rfl) (fun _ _ _ h => h) (Or.inl ⟨by rfl, ?_⟩) (by assumption) ?_
          rotate_left
          · (intro w hSw; obtain ⟨q0, q1, q2, q3, q4, q5, q6, q7⟩ := hSw; (go_simp <;> with_reducible rfl))
          try simp only [Act.put, List.setIfInBounds_toArray, List.set_cons_zero, List.set_cons_succ]
          refine wpAnyH_ready (rs := [14]) (by kernel_rfl) (by simp) ?_
          refine AllReadyH.cons (o := { dst := some 32, op := Op.call { callee := Callee.value (Operand.tmp 22), args := #[Operand.tmp 26, Operand.tmp 31], argTypes := #[90, 90] }, type := 3, pos := _, after := #[{ on := 4, ground := Ground.data }, { on := 8, ground := Ground.data }, { on := 13, ground := Ground.data }, { on := 3, ground := Ground.chain }, { on := 3, ground := Ground.guard }], guard := some (3, true) }) rfl (fun K hK => ?_) AllReadyH.nil
          go_simp
          refine (HAL.out (x1, x2, x3, x4) (y1, y2, y3, y4) _ (HSUB2.out _ (List.mem_of_getElem? hx)) (HSUB2.out _ (List.mem_of_getElem? hy)) (HG0.out.trans (GS.of_G hS))).mono ?_
          rintro e w4 ⟨rfl, hh⟩
          replace hS := hS.trans hh
          clear hh
          refine hK.out _ _ ?_ (fun hHeld => ?_)
          · exact hcc _ hS
          clear hK K
          try simp only [Act.put, List.setIfInBounds_toArray, List.set_cons_zero, List.set_cons_succ]
          refine wpAnyH_take (i := 15) (oi := { dst := some 33, op := Op.binOp BinOp.lss 3 (Operand.tmp 32) (Operand.const (Value.int IntKind.i64 0)) 3, type := 4, pos := _, after := #[{ on := 14, ground := Ground.data }, { on := 3, ground := Ground.guard }], guard := some (3, true) }) (v := ?_) rfl (by kernel_rfl) (by kernel_rfl) (by kernel_rfl) (fun _ _ _ h => h) (Or.inl ⟨by rfl, ?_⟩) (by assumption) ?_
          rotate_left
          · (intro w hSw; obtain ⟨q0, q1, q2, q3, q4, q5, q6, q7⟩ := hSw; (go_simp <;> with_reducible rfl))
          try simp only [Act.put, List.setIfInBounds_toArray, List.set_cons_zero, List.set_cons_succ]
          refine wpAnyH_take (i := 16) (oi := { dst := some 34, op := Op.pick (Operand.tmp 21) (Operand.tmp 33) (Operand.const (Value.bool false)), type := 4, pos := _, after := #[{ on := 3, ground := Ground.data }, { on := 15, ground := Ground.data }], guard := none }) (v := ?_) rfl (by kernel_rfl) (by kernel_rfl) (by kernel_rfl) (fun _ _ _ h => h) (Or.inl ⟨by rfl, ?_⟩) (by assumption) ?_
          rotate_left
          · (intro w hSw; obtain ⟨q0, q1, q2, q3, q4, q5, q6, q7⟩ := hSw; (go_simp <;> with_reducible rfl))
          try simp only [Act.put, List.setIfInBounds_toArray, List.set_cons_zero, List.set_cons_succ]
          refine wpAnyH_done (by kernel_rfl) ?_ _
          clear hHeld
          have hown4 := OwnX.quiet hown2 hS
          have hG4 := hG2.trans (GS.of_G hS)
          by_cases hc : cf (x1, x2, x3, x4) (y1, y2, y3, y4) < 0
          · have HF : Hid (insJ (fun x y => decide (cf x y < 0)) i l = insJ (fun x y => decide (cf x y < 0)) j ((l'.set (j + 1) (y1, y2, y3, y4)).set j (x1, x2, x3, x4))) := Lib.hid (by rw [HDJ.out, if_pos hc])
            obtain ⟨m0, m1, m2, m3, n0, n1, n2, n3⟩ := hcc _ hS
            go_upto_region 6 with fail
            have hown5 : OwnPa w4.drew base _ _ := OwnX.drew hown4
            have hG5 := hG4.trans (GS.of_G (G.refl w4 none).drew)
            clear m0 m1 m2 m3 n0 n1 n2 n3 hown4 hG4
            have hS5 := hS.drew
            clear hS
            obtain ⟨w5, hw5⟩ : ∃ w5, w4.drew = w5 := ⟨_, rfl⟩
            rw [hw5] at hown5 hG5 hS5
            have HSUB3 : Hid (∀ z ∈ (l'.set (j + 1) (y1, y2, y3, y4)).set j (x1, x2, x3, x4), z ∈ l0) := Lib.hid (fun z hz => by
              rcases List.mem_or_eq_of_mem_set hz with hz | rfl
              · rcases List.mem_or_eq_of_mem_set hz with hz | rfl
                · exact HSUB2.out z hz
                · exact HSUB2.out _ (List.mem_of_getElem? hy)
              · exact HSUB2.out _ (List.mem_of_getElem? hx))
            obtain ⟨m0, m1, m2, m3, n0, n1, n2, n3⟩ := hcc _ hS5
            have hj1 : l'[j + 1]? = some (x1, x2, x3, x4) := hx
            have HT1 : Hid (w5.there g ((j + 1) * 4) (#[.int .i64 y1, .string y2, .string y3, .int .i64 y4] : Array Value).size) := Lib.hid (pa_there hown5 hl' (by omega))
            have hA := pa_set hown5 hl' hj1 (y1, y2, y3, y4)
            have hy2 : (l'.set (j + 1) (y1, y2, y3, y4))[j]? = some (y1, y2, y3, y4) := by rw [List.getElem?_set_ne (by omega)]; exact hy
            have HT2 : Hid ((w5.setCells g ((j + 1) * 4) [.int .i64 y1, .string y2, .string y3, .int .i64 y4]).there g (j * 4) (#[.int .i64 x1, .string x2, .string x3, .int .i64 x4] : Array Value).size) := Lib.hid (pa_there hA (by rw [List.length_set]; exact hl') (by omega))
            have hBB := pa_set hA (by rw [List.length_set]; exact hl') hy2 (x1, x2, x3, x4)
            have hG6 := (hG5.trans (GS.of_Gs (pa_grow w5 g ((j + 1) * 4) (y1, y2, y3, y4)) (show S1 _ g from rfl))).trans (GS.of_Gs (pa_grow _ g (j * 4) (x1, x2, x3, x4)) (show S1 _ g from rfl))
            refine wp_region_held_drew (S := (fun _ : World => True)) (by kernel_rfl) ?_ (fun hHeld => ?_)
            · exact trivial
            rw [hw5]
            clear hw5
            refine wpAnyH_take (i := 0) (oi := { dst := some 37, op := Op.move (Operand.tmp 0), type := 53, pos := _, after := #[], guard := none }) (v := ?_) rfl (by kernel_rfl) (by kernel_rfl) (by kernel_rfl) (fun _ _ _ h => h) (Or.inl ⟨by rfl, ?_⟩) (by assumption) ?_
            rotate_left
            · (intro w hSw; clear hSw; (go_simp <;> with_reducible rfl))
            try simp only [Act.put, List.setIfInBounds_toArray, List.set_cons_zero, List.set_cons_succ]
            refine wpAnyH_take (i := 1) (oi := { dst := some 38, op := Op.move (Operand.tmp 9), type := 3, pos := _, after := #[], guard := none }) (v := ?_) rfl (by kernel_rfl) (by kernel_rfl) (by kernel_rfl) (fun _ _ _ h => h) (Or.inl ⟨by rfl, ?_⟩) (by assumption) ?_
            rotate_left
            · (intro w hSw; clear hSw; (go_simp <;> with_reducible rfl))
            try simp only [Act.put, List.setIfInBounds_toArray, List.set_cons_zero, List.set_cons_succ]
            refine wpAnyH_take (i := 2) (oi := { dst := some 39, op := Op.move (Operand.tmp 0), type := 53, pos := _, after := #[{ on := 15, ground := Ground.gcOnly Departure.lateStores }], guard := none }) (v := ?_) rfl (by kernel_rfl) (by kernel_rfl) (by kernel_rfl) (fun _ _ _ h => h) (Or.inl ⟨by rfl, ?_⟩) (by assumption) ?_
            rotate_left
            · (intro w hSw; clear hSw; (go_simp <;> with_reducible rfl))
            try simp only [Act.put, List.setIfInBounds_toArray, List.set_cons_zero, List.set_cons_succ]
            refine wpAnyH_take (i := 3) (oi := { dst := some 40, op := Op.move (Operand.tmp 9), type := 3, pos := _, after := #[{ on := 15, ground := Ground.gcOnly Departure.lateStores }], guard := none }) (v := ?_) rfl (by kernel_rfl) (by kernel_rfl) (by kernel_rfl) (fun _ _ _ h => h) (Or.inl ⟨by rfl, ?_⟩) (by assumption) ?_
            rotate_left
            · (intro w hSw; clear hSw; (go_simp <;> with_reducible rfl))
            try simp only [Act.put, List.setIfInBounds_toArray, List.set_cons_zero, List.set_cons_succ]
            refine wpAnyH_take (i := 4) (oi := { dst := some 41, op := Op.binOp BinOp.sub 3 (Operand.tmp 40) (Operand.const (Value.int IntKind.i64 1)) 3, type := 3, pos := _, after := #[{ on := 3, ground := Ground.data }, { on := 15, ground := Ground.gcOnly Departure.lateStores }], guard := none }) (v := ?_) rfl (by kernel_rfl) (by kernel_rfl) (by kernel_rfl) (fun _ _ _ h => h) (Or.inl ⟨by rfl, ?_⟩) (by assumption) ?_
            rotate_left
            · (intro w hSw; clear hSw; (go_simp <;> with_reducible rfl))
            try simp only [Act.put, List.setIfInBounds_toArray, List.set_cons_zero, List.set_cons_succ]
            refine wpAnyH_take (i := 5) (oi := { dst := some 42, op := Op.move (Operand.tmp 0), type := 53, pos := _, after := #[], guard := none }) (v := ?_) rfl (by kernel_rfl) (by kernel_rfl) (by kernel_rfl) (fun _ _ _ h => h) (Or.inl ⟨by rfl, ?_⟩) (by assumption) ?_
            rotate_left
            · (intro w hSw; clear hSw; (go_simp <;> with_reducible rfl))
            try simp only [Act.put, List.setIfInBounds_toArray, List.set_cons_zero, List.set_cons_succ]
            refine wpAnyH_take (i := 6) (oi := { dst := some 43, op := Op.move (Operand.tmp 9), type := 3, pos := _, after := #[], guard := none }) (v := ?_) rfl (by kernel_rfl) (by kernel_rfl) (by kernel_rfl) (fun _ _ _ h => h) (Or.inl ⟨by rfl, ?_⟩) (by assumption) ?_
            rotate_left
            · (intro w hSw; clear hSw; (go_simp <;> with_reducible rfl))
            try simp only [Act.put, List.setIfInBounds_toArray, List.set_cons_zero, List.set_cons_succ]
            refine wpAnyH_take (i := 7) (oi := { dst := some 44, op := Op.binOp BinOp.sub 3 (Operand.tmp 43) (Operand.const (Value.int IntKind.i64 1)) 3, type := 3, pos := _, after := #[{ on := 6, ground := Ground.data }], guard := none }) (v := ?_) rfl (by kernel_rfl) (by kernel_rfl) (by kernel_rfl) (fun _ _ _ h => h) (Or.inl ⟨by rfl, ?_⟩) (by assumption) ?_
            rotate_left
            · (intro w hSw; clear hSw; (go_simp <;> with_reducible rfl))
            try simp only [Act.put, List.setIfInBounds_toArray, List.set_cons_zero, List.set_cons_succ]
            refine wpAnyH_take (i := 8) (oi := { dst := some 45, op := Op.indexAddr 53 (Operand.tmp 42) (Operand.tmp 44), type := 0, pos := _, after := #[{ on := 5, ground := Ground.data }, { on := 7, ground := Ground.data }], guard := none }) (v := ?_) rfl (by kernel_rfl) (by kernel_rfl) (by kernel_rfl) (fun _ _ _ h => h) (Or.inl ⟨by rfl, ?_⟩) (by assumption) ?_
            rotate_left
            · (intro w hSw; clear hSw; (go_simp <;> with_reducible rfl))
            try simp only [Act.put, List.setIfInBounds_toArray, List.set_cons_zero, List.set_cons_succ]
            refine wpAnyH_take (i := 10) (oi := { dst := some 47, op := Op.move (Operand.tmp 0), type := 53, pos := _, after := #[], guard := none }) (v := ?_) rfl (by kernel_rfl) (by kernel_rfl) (by kernel_rfl) (fun _ _ _ h => h) (Or.inl ⟨by rfl, ?_⟩) (by assumption) ?_
            rotate_left
            · (intro w hSw; clear hSw; (go_simp <;> with_reducible rfl))
            try simp only [Act.put, List.setIfInBounds_toArray, List.set_cons_zero, List.set_cons_succ]
            refine wpAnyH_take (i := 11) (oi := { dst := some 48, op := Op.move (Operand.tmp 9), type := 3, pos := _, after := #[], guard := none }) (v := ?_) rfl (by kernel_rfl) (by kernel_rfl) (by kernel_rfl) (fun _ _ _ h => h) (Or.inl ⟨by rfl, ?_⟩) (by assumption) ?_
            rotate_left
            · (intro w hSw; clear hSw; (go_simp <;> with_reducible rfl))
            try simp only [Act.put, List.setIfInBounds_toArray, List.set_cons_zero, List.set_cons_succ]
            refine wpAnyH_take (i := 12) (oi := { dst := some 49, op := Op.indexAddr 53 (Operand.tmp 47) (Operand.tmp 48), type := 0, pos := _, after := #[{ on := 10, ground := Ground.data }, { on := 11, ground := Ground.data }], guard := none }) (v := ?_) rfl (by kernel_rfl) (by kernel_rfl) (by kernel_rfl) (fun _ _ _ h => h) (Or.inl ⟨by rfl, ?_⟩) (by assumption) ?_
            rotate_left
            · (intro w hSw; clear hSw; (go_simp <;> with_reducible rfl))
            try simp only [Act.put, List.setIfInBounds_toArray, List.set_cons_zero, List.set_cons_succ]
            refine wpAnyH_ready (rs := [9, 13]) (by kernel_rfl) (by simp) ?_
            refine (AllReadyH.cons (o := { dst := some 46, op := Op.load 90 (Operand.tmp 45), type := 90, pos := _, after := #[{ on := 8, ground := Ground.data }], guard := none }) rfl (fun K hK => ?_) (AllReadyH.cons (o := { dst := some 50, op := Op.load 90 (Operand.tmp 49), type := 90, pos := _, after := #[{ on := 12, ground := Ground.data }], guard := none }) rfl (fun K hK => ?_) AllReadyH.nil))
            · go_simp
              refine hK.out _ _ ?_ (fun hHeld => ?_)
              · exact trivial
              clear hK K
              try simp only [Act.put, List.setIfInBounds_toArray, List.set_cons_zero, List.set_cons_succ]
              refine wpAnyH_ready (rs := [13]) (by kernel_rfl) (by simp) ?_
              refine (AllReadyH.cons (o := { dst := some 50, op := Op.load 90 (Operand.tmp 49), type := 90, pos := _, after := #[{ on := 12, ground := Ground.data }], guard := none }) rfl (fun K hK => ?_) AllReadyH.nil)
              go_simp
              refine hK.out _ _ ?_ (fun hHeld => ?_)
              · exact trivial
              clear hK K
              try simp only [Act.put, List.setIfInBounds_toArray, List.set_cons_zero, List.set_cons_succ]
              refine wpAnyH_take (i := 14) (oi := { dst := some 51, op := Op.indexAddr 53 (Operand.tmp 37) (Operand.tmp 38), type := 0, pos := _, after := #[{ on := 0, ground := Ground.data }, { on := 1, ground := Ground.data }, { on := 0, ground := Ground.phase }, { on := 1, ground := Ground.phase }, { on := 2, ground := Ground.textOnly Departure.lateStores }, { on := 3, ground := Ground.textOnly Departure.lateStores }, { on := 4, ground := Ground.textOnly Departure.lateStores }, { on := 5, ground := Ground.phase }, { on := 6, ground := Ground.phase }, { on := 7, ground := Ground.phase }, { on := 8, ground := Ground.phase }, { on := 9, ground := Ground.phase }, { on := 10, ground := Ground.textOnly Departure.lateStores }, { on := 11, ground := Ground.textOnly Departure.lateStores }, { on := 12, ground := Ground.textOnly Departure.lateStoresUnsure }, { on := 13, ground := Ground.phase }], guard := none }) (v := ?_) rfl (by kernel_rfl) (by kernel_rfl) (by kernel_rfl) (fun _ _ _ h => h) (Or.inl ⟨by rfl, ?_⟩) (by assumption) ?_
              rotate_left
              · (intro w hSw; clear hSw; (go_simp <;> with_reducible rfl))
              try simp only [Act.put, List.setIfInBounds_toArray, List.set_cons_zero, List.set_cons_succ]
              refine wpAnyH_ready (rs := [15]) (by kernel_rfl) (by simp) ?_
              refine (AllReadyH.cons (o := { dst := none, op := Op.store 90 (Operand.tmp 51) (Operand.tmp 46), type := 0, pos := _, after := #[{ on := 14, ground := Ground.data }, { on := 9, ground := Ground.data }, { on := 0, ground := Ground.phase }, { on := 1, ground := Ground.phase }, { on := 2, ground := Ground.textOnly Departure.lateStores }, { on := 3, ground := Ground.textOnly Departure.lateStores }, { on := 4, ground := Ground.textOnly Departure.lateStores }, { on := 5, ground := Ground.phase }, { on := 6, ground := Ground.phase }, { on := 7, ground := Ground.phase }, { on := 8, ground := Ground.phase }, { on := 9, ground := Ground.phase }, { on := 10, ground := Ground.textOnly Departure.lateStores }, { on := 11, ground := Ground.textOnly Departure.lateStores }, { on := 12, ground := Ground.textOnly Departure.lateStoresUnsure }, { on := 13, ground := Ground.phase }], guard := none }) rfl (fun K hK => ?_) AllReadyH.nil)
              refine st_wp rfl (wp_store_mid 90 _ _ rfl g ((j + 1) * 4) #[.int .i64 y1, .string y2, .string y3, .int .i64 y4] rfl rfl HT1.out (pa_info (y1, y2, y3, y4)) (pa_one (y1, y2, y3, y4)) ?_)
              refine hK.out _ _ ?_ (fun hHeld => ?_)
              · exact trivial
              clear hK K
              try simp only [Act.put, List.setIfInBounds_toArray, List.set_cons_zero, List.set_cons_succ]
              refine wpAnyH_take (i := 16) (oi := { dst := some 52, op := Op.indexAddr 53 (Operand.tmp 39) (Operand.tmp 41), type := 0, pos := _, after := #[{ on := 2, ground := Ground.data }, { on := 4, ground := Ground.data }, { on := 0, ground := Ground.phase }, { on := 1, ground := Ground.phase }, { on := 2, ground := Ground.phase }, { on := 3, ground := Ground.phase }, { on := 4, ground := Ground.phase }, { on := 5, ground := Ground.phase }, { on := 6, ground := Ground.phase }, { on := 7, ground := Ground.phase }, { on := 8, ground := Ground.phase }, { on := 9, ground := Ground.phase }, { on := 10, ground := Ground.phase }, { on := 11, ground := Ground.phase }, { on := 12, ground := Ground.phase }, { on := 13, ground := Ground.phase }, { on := 14, ground := Ground.phase }, { on := 15, ground := Ground.phase }], guard := none }) (v := ?_) rfl (by kernel_rfl) (by kernel_rfl) (by kernel_rfl) (fun _ _ _ h => h) (Or.inl ⟨by rfl, ?_⟩) (by assumption) ?_
              rotate_left
              · (intro w hSw; clear hSw; (go_simp <;> with_reducible rfl))
              try simp only [Act.put, List.setIfInBounds_toArray, List.set_cons_zero, List.set_cons_succ]
              refine wpAnyH_ready (rs := [17]) (by kernel_rfl) (by simp) ?_
              refine (AllReadyH.cons (o := { dst := none, op := Op.store 90 (Operand.tmp 52) (Operand.tmp 50), type := 0, pos := _, after := #[{ on := 16, ground := Ground.data }, { on := 13, ground := Ground.data }, { on := 15, ground := Ground.chain }, { on := 0, ground := Ground.phase }, { on := 1, ground := Ground.phase }, { on := 2, ground := Ground.phase }, { on := 3, ground := Ground.phase }, { on := 4, ground := Ground.phase }, { on := 5, ground := Ground.phase }, { on := 6, ground := Ground.phase }, { on := 7, ground := Ground.phase }, { on := 8, ground := Ground.phase }, { on := 9, ground := Ground.phase }, { on := 10, ground := Ground.phase }, { on := 11, ground := Ground.phase }, { on := 12, ground := Ground.phase }, { on := 13, ground := Ground.phase }, { on := 14, ground := Ground.phase }, { on := 15, ground := Ground.phase }], guard := none }) rfl (fun K hK => ?_) AllReadyH.nil)
              refine st_wp rfl (wp_store_mid 90 _ _ rfl g (j * 4) #[.int .i64 x1, .string x2, .string x3, .int .i64 x4] rfl rfl HT2.out (pa_info (x1, x2, x3, x4)) (pa_one (x1, x2, x3, x4)) ?_)
              refine hK.out _ _ ?_ (fun hHeld => ?_)
              · exact trivial
              clear hK K
              try simp only [Act.put, List.setIfInBounds_toArray, List.set_cons_zero, List.set_cons_succ]
              refine wpAnyH_done (by kernel_rfl) ?_ _
              clear hHeld
              go_wp2_with fail
              go_roundw
              case rel => exact ⟨j, (l'.set (j + 1) (y1, y2, y3, y4)).set j (x1, x2, x3, x4), by omega, by go_num, HF.out, by simp [hl'], HSUB3.out, hBB, hG6⟩
              case measure => simp [intOf]
            · go_simp
              refine hK.out _ _ ?_ (fun hHeld => ?_)
              · exact trivial
              clear hK K
              try simp only [Act.put, List.setIfInBounds_toArray, List.set_cons_zero, List.set_cons_succ]
              refine wpAnyH_ready (rs := [9]) (by kernel_rfl) (by simp) ?_
              refine (AllReadyH.cons (o := { dst := some 46, op := Op.load 90 (Operand.tmp 45), type := 90, pos := _, after := #[{ on := 8, ground := Ground.data }], guard := none }) rfl (fun K hK => ?_) AllReadyH.nil)
              go_simp
              refine hK.out _ _ ?_ (fun hHeld => ?_)
              · exact trivial
              clear hK K
              try simp only [Act.put, List.setIfInBounds_toArray, List.set_cons_zero, List.set_cons_succ]
              refine wpAnyH_take (i := 14) (oi := { dst := some 51, op := Op.indexAddr 53 (Operand.tmp 37) (Operand.tmp 38), type := 0, pos := _, after := #[{ on := 0, ground := Ground.data }, { on := 1, ground := Ground.data }, { on := 0, ground := Ground.phase }, { on := 1, ground := Ground.phase }, { on := 2, ground := Ground.textOnly Departure.lateStores }, { on := 3, ground := Ground.textOnly Departure.lateStores }, { on := 4, ground := Ground.textOnly Departure.lateStores }, { on := 5, ground := Ground.phase }, { on := 6, ground := Ground.phase }, { on := 7, ground := Ground.phase }, { on := 8, ground := Ground.phase }, { on := 9, ground := Ground.phase }, { on := 10, ground := Ground.textOnly Departure.lateStores }, { on := 11, ground := Ground.textOnly Departure.lateStores }, { on := 12, ground := Ground.textOnly Departure.lateStoresUnsure }, { on := 13, ground := Ground.phase }], guard := none }) (v := ?_) rfl (by kernel_rfl) (by kernel_rfl) (by kernel_rfl) (fun _ _ _ h => h) (Or.inl ⟨by rfl, ?_⟩) (by assumption) ?_
              rotate_left
              · (intro w hSw; clear hSw; (go_simp <;> with_reducible rfl))
              try simp only [Act.put, List.setIfInBounds_toArray, List.set_cons_zero, List.set_cons_succ]
              refine wpAnyH_ready (rs := [15]) (by kernel_rfl) (by simp) ?_
              refine (AllReadyH.cons (o := { dst := none, op := Op.store 90 (Operand.tmp 51) (Operand.tmp 46), type := 0, pos := _, after := #[{ on := 14, ground := Ground.data }, { on := 9, ground := Ground.data }, { on := 0, ground := Ground.phase }, { on := 1, ground := Ground.phase }, { on := 2, ground := Ground.textOnly Departure.lateStores }, { on := 3, ground := Ground.textOnly Departure.lateStores }, { on := 4, ground := Ground.textOnly Departure.lateStores }, { on := 5, ground := Ground.phase }, { on := 6, ground := Ground.phase }, { on := 7, ground := Ground.phase }, { on := 8, ground := Ground.phase }, { on := 9, ground := Ground.phase }, { on := 10, ground := Ground.textOnly Departure.lateStores }, { on := 11, ground := Ground.textOnly Departure.lateStores }, { on := 12, ground := Ground.textOnly Departure.lateStoresUnsure }, { on := 13, ground := Ground.phase }], guard := none }) rfl (fun K hK => ?_) AllReadyH.nil)
              refine st_wp rfl (wp_store_mid 90 _ _ rfl g ((j + 1) * 4) #[.int .i64 y1, .string y2, .string y3, .int .i64 y4] rfl rfl HT1.out (pa_info (y1, y2, y3, y4)) (pa_one (y1, y2, y3, y4)) ?_)
              refine hK.out _ _ ?_ (fun hHeld => ?_)
              · exact trivial
              clear hK K
              try simp only [Act.put, List.setIfInBounds_toArray, List.set_cons_zero, List.set_cons_succ]
              refine wpAnyH_take (i := 16) (oi := { dst := some 52, op := Op.indexAddr 53 (Operand.tmp 39) (Operand.tmp 41), type := 0, pos := _, after := #[{ on := 2, ground := Ground.data }, { on := 4, ground := Ground.data }, { on := 0, ground := Ground.phase }, { on := 1, ground := Ground.phase }, { on := 2, ground := Ground.phase }, { on := 3, ground := Ground.phase }, { on := 4, ground := Ground.phase }, { on := 5, ground := Ground.phase }, { on := 6, ground := Ground.phase }, { on := 7, ground := Ground.phase }, { on := 8, ground := Ground.phase }, { on := 9, ground := Ground.phase }, { on := 10, ground := Ground.phase }, { on := 11, ground := Ground.phase }, { on := 12, ground := Ground.phase }, { on := 13, ground := Ground.phase }, { on := 14, ground := Ground.phase }, { on := 15, ground := Ground.phase }], guard := none }) (v := ?_) rfl (by kernel_rfl) (by kernel_rfl) (by kernel_rfl) (fun _ _ _ h => h) (Or.inl ⟨by rfl, ?_⟩) (by assumption) ?_
              rotate_left
              · (intro w hSw; clear hSw; (go_simp <;> with_reducible rfl))
              try simp only [Act.put, List.setIfInBounds_toArray, List.set_cons_zero, List.set_cons_succ]
              refine wpAnyH_ready (rs := [17]) (by kernel_rfl) (by simp) ?_
              refine (AllReadyH.cons (o := { dst := none, op := Op.store 90 (Operand.tmp 52) (Operand.tmp 50), type := 0, pos := _, after := #[{ on := 16, ground := Ground.data }, { on := 13, ground := Ground.data }, { on := 15, ground := Ground.chain }, { on := 0, ground := Ground.phase }, { on := 1, ground := Ground.phase }, { on := 2, ground := Ground.phase }, { on := 3, ground := Ground.phase }, { on := 4, ground := Ground.phase }, { on := 5, ground := Ground.phase }, { on := 6, ground := Ground.phase }, { on := 7, ground := Ground.phase }, { on := 8, ground := Ground.phase }, { on := 9, ground := Ground.phase }, { on := 10, ground := Ground.phase }, { on := 11, ground := Ground.phase }, { on := 12, ground := Ground.phase }, { on := 13, ground := Ground.phase }, { on := 14, ground := Ground.phase }, { on := 15, ground := Ground.phase }], guard := none }) rfl (fun K hK => ?_) AllReadyH.nil)
              refine st_wp rfl (wp_store_mid 90 _ _ rfl g (j * 4) #[.int .i64 x1, .string x2, .string x3, .int .i64 x4] rfl rfl HT2.out (pa_info (x1, x2, x3, x4)) (pa_one (x1, x2, x3, x4)) ?_)
              refine hK.out _ _ ?_ (fun hHeld => ?_)
              · exact trivial
              clear hK K
              try simp only [Act.put, List.setIfInBounds_toArray, List.set_cons_zero, List.set_cons_succ]
              refine wpAnyH_done (by kernel_rfl) ?_ _
              clear hHeld
              go_wp2_with fail
              go_roundw
              case rel => exact ⟨j, (l'.set (j + 1) (y1, y2, y3, y4)).set j (x1, x2, x3, x4), by omega, by go_num, HF.out, by simp [hl'], HSUB3.out, hBB, hG6⟩
              case measure => simp [intOf]
          · have HF : Hid (insJ (fun x y => decide (cf x y < 0)) i l = l') := Lib.hid (by rw [HDJ.out, if_neg hc])
            go_wp2_with fail
            go_roundw
            case rel => exact ⟨i + 1, l', by omega, by omega, by go_num, by rw [HD.out, HF.out], hl', HSUB2.out, hown4, hG4⟩
            case measure => have := HI.out; simp [intOf]; omega
    · have hfin : isrt (fun x y => decide (cf x y < 0)) l0 = l := by rw [HE.out, show l0.length - i = 0 by omega, isF]
      go_wp2_with fail
      refine bodyPost_end (results_none rfl _ _ _) rfl ?_
      exact ⟨rfl, by rw [hfin]; exact hownr, hGr⟩
set_option maxRecDepth 100000 in
set_option maxHeartbeats 4000000 in
theorem stableP_c (F : FuncId) (caps : Array Value) (cf : Pa → Pa → Int) (v : Value) (l0 : List Pa) (base : Nat) (w : World) (hcf : ∀ (args : Array Value) (w : World), (callFunc F args).run Tryd.prog w = .ok (.enter F args) w)
    (hal : ∀ (x y : Pa) (w' : World), x ∈ l0 → y ∈ l0 → GS (S1 v) w w' → Calls Tryd.prog F (#[.agg (paC x), .agg (paC y)] ++ caps) w' fun e w'' => e = .returned (.int .i64 (cf x y)) ∧ G w' w'' none)
    (hown : OwnPa w base v l0) (hn : l0.length < 20) :
    Calls Tryd.prog 70 #[v, .int .i64 l0.length, .func (.func F) #[] caps] w fun e w' => e = .returned (.tuple #[]) ∧ OwnPa w' base v (isrt (fun x y => decide (cf x y < 0)) l0) ∧ GS (S1 v) w w' := by
  have CI := Lib.hid (insSortP_c F caps cf v l0 base w hcf hal hown (by omega))
  have h1 : ¬ (20 : Int) ≤ (l0.length : Int) := by omega
  have h2 : ¬ (20 : Int) < (l0.length : Int) := by omega
  obtain ⟨a, cap, rfl, hcap, hm⟩ := RdR.form (c := paC) (Rd.of_owns hown)
  clear hal hown hcf
  go_enter Tryd.func70, Tryd.ntmps70
  go_wp2_with fail
  go_loopw [7, 8] (fun s7 s8 wr => s7 = .int .i64 0 ∧ s8 = .int .i64 20 ∧ wr = w) (fun _ _ _ => 0)
  case atStart => exact ⟨rfl, rfl, rfl⟩
  case round =>
    obtain ⟨rfl, rfl, rfl⟩ := hrel
    go_wp2_with fail
    refine CI.out.mono ?_; rintro e w2 ⟨rfl, hown2, hG2⟩
    go_wp2_with fail
    go_loopw [6, 7, 8, 9] (fun s6 _ _ _ wr => s6 = .int .i64 20 ∧ wr = w2) (fun _ _ _ _ _ => 0)
    case atStart => exact ⟨rfl, rfl⟩
    case round =>
      obtain ⟨rfl, rfl⟩ := hrel
      go_wp2_with fail
      refine bodyPost_end (results_none rfl _ _ _) rfl ?_
      exact ⟨rfl, hown2, hG2⟩
set_option maxRecDepth 100000 in
set_option maxHeartbeats 4000000 in
theorem sortStableP_c (F : FuncId) (caps : Array Value) (cf : Pa → Pa → Int) (v : Value) (l0 : List Pa) (base : Nat) (w : World) (hcf : ∀ (args : Array Value) (w : World), (callFunc F args).run Tryd.prog w = .ok (.enter F args) w)
    (hal : ∀ (x y : Pa) (w' : World), x ∈ l0 → y ∈ l0 → GS (S1 v) w w' → Calls Tryd.prog F (#[.agg (paC x), .agg (paC y)] ++ caps) w' fun e w'' => e = .returned (.int .i64 (cf x y)) ∧ G w' w'' none)
    (hown : OwnPa w base v l0) (hn : l0.length < 20) :
    Calls Tryd.prog 49 #[v, .func (.func F) #[] caps] w fun e w' => e = .returned (.tuple #[]) ∧ OwnPa w' base v (isrt (fun x y => decide (cf x y < 0)) l0) ∧ GS (S1 v) w w' := by
  have CI := Lib.hid (stableP_c F caps cf v l0 base w hcf hal hown hn)
  obtain ⟨a, cap, rfl, hcap, hm⟩ := RdR.form (c := paC) (Rd.of_owns hown)
  clear hal hown hcf
  go_enter Tryd.func49, Tryd.ntmps49
  go_wp2_with fail
  refine CI.out.mono ?_; rintro e w2 ⟨rfl, hown2, hG2⟩
  go_wp2_with fail
  refine bodyPost_end (results_none rfl _ _ _) rfl ?_
  exact ⟨rfl, hown2, hG2⟩
end Go.Proofs.YtamoefnpfkcigaaDoor

/- clear of a slice of structs; the beginning of an owned row behind stores further on. No program. -/
namespace Go.Proofs.YtamoefnpfkcigaaDoor
open Go.RowKit

theorem setCells_grow (g : Nat) : ∀ (vs : List Value) (o : Nat) (w : World), w.grownBy (w.setCells g o vs) (some g)
  | [], _, w => World.grownBy.refl w _
  | v :: r, o, w => (grownBy_setCell_row w ⟨g, o, none⟩ v).trans (setCells_grow g r (o + 1) _)
theorem setCells_block (g : Nat) (T : TypeId) : ∀ (vs : List Value) (o : Nat) (w : World) (cur : Array Value), w.heap[g]? = some (.cells cur T (0, 0)) →
    ∃ cur' : Array Value, (w.setCells g o vs).heap[g]? = some (.cells cur' T (0, 0)) ∧ cur'.size = cur.size ∧ ∀ i, i < o → cur'[i]? = cur[i]?
  | [], _, _, cur, h => ⟨cur, h, rfl, fun _ _ => rfl⟩
  | v :: r, o, w, cur, h => by
    have h1 : (w.setCell ⟨g, o, none⟩ v).heap[g]? = some (.cells (cur.setIfInBounds o v) T (0, 0)) := by
      simp [World.setCell, Array.getElem?_modify, h]
    obtain ⟨cur', e1, e2, e3⟩ := setCells_block g T r (o + 1) _ _ h1
    refine ⟨cur', e1, by rw [e2]; simp, fun i hi => ?_⟩
    rw [e3 i (by omega), Array.getElem?_setIfInBounds_ne (by omega)]
theorem rowL_tk {α : Type} {c : α → Array Value} {z : Nat} (hz : ∀ p, (c p).size = z) (l : List α) (k : Nat) (hk : k ≤ l.length) : rowL c (l.take k) = (rowL c l).take (k * z) := by
  have e2 : rowL c l = rowL c (l.take k) ++ rowL c (l.drop k) := by
    unfold rowL
    rw [← List.flatMap_append, List.take_append_drop]
  have h := rowL_len hz (l.take k)
  rw [List.length_take, Nat.min_eq_left hk] at h
  rw [show (rowL c l).take (k * z) = (rowL c (l.take k) ++ rowL c (l.drop k)).take (k * z) by rw [← e2], List.take_append_of_le_length (show k * z ≤ (rowL c (l.take k)).length by rw [h]; exact Nat.le_refl _), List.take_of_length_le (show (rowL c (l.take k)).length ≤ k * z by rw [h]; exact Nat.le_refl _)]
theorem own_before {α : Type} {T : TypeId} {z : Nat} {c : α → Array Value} (hz : ∀ p, (c p).size = z) {w : World} {base g n cap : Nat} {l : List α} (h : OwnX T z c w base (.slice (some ⟨g, 0, none⟩) n cap) l) (hl : l.length = n) {k o : Nat} (hk : k ≤ n) (ho : k * z ≤ o) (vs : List Value) :
    OwnX T z c (w.setCells g o vs) base (.slice (some ⟨g, 0, none⟩) k cap) (l.take k) := by
  subst hl
  obtain ⟨h1, h2⟩ := h
  rcases h2 with ⟨h3, _⟩ | ⟨g', cap', cur, e, hb, hg, hn, hm, hs, ht⟩
  · cases h3
  · cases e
    obtain ⟨cur', e1, e2, e3⟩ := setCells_block g T vs o w cur hg
    have hlen : (l.take k).length = k := by rw [List.length_take]; omega
    unfold OwnX
    rw [hlen]
    have hkn : k * z ≤ l.length * z := Nat.mul_le_mul_right z hk
    refine ⟨by rw [rowL_len hz, hlen], .inr ⟨g, cap, cur', rfl, hb, e1, by omega, hm, by rw [e2]; exact hs, ?_⟩⟩
    have h5 : rowL c (l.take k) = (rowL c l).take (k * z) := rowL_tk hz l k hk
    rw [h5, ← ht, List.take_take, Nat.min_eq_left hkn]
    apply List.ext_getElem?
    intro i
    rw [List.getElem?_take, List.getElem?_take]
    split
    · rw [Array.getElem?_toList, Array.getElem?_toList]
      exact e3 i (by omega)
    · rfl
section
variable {P : Program} {T TS : TypeId} {cs : Array Value}
theorem run_clear_rows (w : World) (ty : TypeId) (ht : P.underlying TS = some (.slice T)) (hv : ∀ w, (zeroValue T).run P w = .ok (.agg cs) w) (h1 : ∀ u ∈ cs.toList, u.oneCell' = true) (b o n c : Nat) (hn : 0 < n)
    (hc : ∀ j, j < n * cs.size → (w.cell? ⟨b, o + j, none⟩).isSome = true) (hf : ∀ j, j < n * cs.size → w.frozen? ⟨b, o + j, none⟩ = false) :
    ∃ vs, (Builtin.clear_ #[TS] ty #[.slice (some ⟨b, o, none⟩) n c]).run P w = .ok (.tuple #[]) (w.setCells b o vs) := by
  have hsz : (Builtin.zeroCells cs n).toList.length = n * cs.size := by simp [Builtin.zeroCells, Nat.mul_comm]
  have hmem : ∀ v ∈ (Builtin.zeroCells cs n).toList, v.oneCell' = true := fun v hv' => by
    simp only [Builtin.zeroCells, Array.toList_map, List.mem_map] at hv'
    obtain ⟨i, hi, rfl⟩ := hv'
    have hin : i < n * cs.size := by simpa using hi
    have hpos : 0 < cs.size := by
      rcases Nat.eq_zero_or_pos cs.size with q | q
      · rw [q] at hin; omega
      · exact q
    apply h1
    rw [getElem!_pos cs _ (Nat.mod_lt _ hpos)]
    exact Array.getElem_mem_toList _
  have hst := run_storeCells_cells (P := P) b o (Builtin.zeroCells cs n).toList 0 w (by simpa [hsz] using hc) (by simpa [hsz] using hf) hmem
  simp only [Nat.add_zero] at hst
  obtain ⟨m, rfl⟩ : ∃ m, n = m + 1 := ⟨n - 1, by omega⟩
  refine ⟨(Builtin.zeroCells cs (m + 1)).toList, ?_⟩
  simp [Builtin.clear_, run_underlying ht, hv, Value.cells, hst]
theorem wp_clear_x (ht : P.underlying TS = some (.slice T)) (hv : ∀ w, (zeroValue T).run P w = .ok (.agg cs) w) (h1 : ∀ u ∈ cs.toList, u.oneCell' = true) {w : World} {o : Oper} {a : Act} {K : Act → World → Prop} {Q : Exit → Act → World → Prop} (x : Operand)
    (ho : o.op = .call { callee := .builtin .clear, args := #[x], argTypes := #[TS] }) (b off n c : Nat) (hx : a.eval x = .slice (some ⟨b, off, none⟩) n c) (hn : 0 < n)
    (hc : ∀ j, j < n * cs.size → (w.cell? ⟨b, off + j, none⟩).isSome = true) (hf : ∀ j, j < n * cs.size → w.frozen? ⟨b, off + j, none⟩ = false)
    (hK : ∀ vs, K (a.put o.dst (.tuple #[])) (w.setCells b off vs)) : o.wp P a w K Q := by
  obtain ⟨vs, hrun⟩ := run_clear_rows (P := P) w o.type ht hv h1 b off n c hn hc hf
  unfold Oper.wp
  simp [execOp, ho, resolve, invoke, builtin, hx, hrun, Result.andThen]
  exact hK vs
end
end Go.Proofs.YtamoefnpfkcigaaDoor

/- slices.CompactFunc at passages: what is left is of the list. Written by gencmf.py. -/
namespace Go.Proofs.YtamoefnpfkcigaaDoor
open Go.RowKit

theorem zp_run (w : World) : (zeroValue 90).run Tryd.prog w = .ok (.agg #[.int .i64 0, .string ⟨#[]⟩, .string ⟨#[]⟩, .int .i64 0]) w := by kernel_rfl
def CoP (w : World) (base : Nat) (v : Value) (l0 : List Pa) (s5 : Value) (wr : World) : Prop :=
  ∃ k : Nat, 1 ≤ k ∧ k ≤ l0.length ∧ s5 = .int .i64 k ∧ OwnPa wr base v l0 ∧ GS (S1 v) w wr
def CjP (w : World) (base : Nat) (v : Value) (l0 : List Pa) (m N2 : Nat) (s5 s7 : Value) (wr : World) : Prop :=
  ∃ (k k2 : Nat) (l : List Pa), 1 ≤ k2 ∧ k2 ≤ N2 ∧ m + 1 ≤ k ∧ k ≤ m + k2 ∧ s5 = .int .i64 k ∧ s7 = .int .i64 k2 ∧ l.length = l0.length ∧ (∀ z ∈ l, z ∈ l0) ∧ OwnPa wr base v l ∧ GS (S1 v) w wr
set_option maxRecDepth 100000 in
set_option maxHeartbeats 8000000 in
theorem compact_c (F : FuncId) (caps : Array Value) (ef : Pa → Pa → Bool) (v : Value) (l0 : List Pa) (base : Nat) (w : World) (hcf : ∀ (args : Array Value) (w : World), (callFunc F args).run Tryd.prog w = .ok (.enter F args) w)
    (hal : ∀ (x y : Pa) (w' : World), x ∈ l0 → y ∈ l0 → GS (S1 v) w w' → Calls Tryd.prog F (#[.agg (paC x), .agg (paC y)] ++ caps) w' fun e w'' => e = .returned (.bool (ef x y)) ∧ G w' w'' none)
    (hown : OwnPa w base v l0) (hn : l0.length ≤ 1000) :
    Calls Tryd.prog 51 #[v, .func (.func F) #[] caps] w fun e w' => ∃ v' l', e = .returned v' ∧ OwnPa w' base v' l' ∧ l'.length ≤ l0.length ∧ (∀ z ∈ l', z ∈ l0) ∧ GS (S1 v) w w' := by
  have HAL := Lib.hid hal
  clear hal
  obtain ⟨a, cap, rfl, hcap, hm⟩ := RdR.form (c := paC) (Rd.of_owns hown)
  by_cases h2 : l0.length < 2
  · have h2i : (l0.length : Int) < 2 := by omega
    go_enter Tryd.func51, Tryd.ntmps51
    go_wp2_with fail
    go_ret
    exact ⟨_, l0, rfl, hown, Nat.le_refl _, fun z hz => hz, GS.refl _ _⟩
  have h2i : ¬ (l0.length : Int) < 2 := by omega
  go_enter Tryd.func51, Tryd.ntmps51
  go_wp2_with fail
  go_loopw [5] (CoP w base (.slice a l0.length cap) l0) (fun i _ => l0.length - (intOf i).toNat)
  case atStart => exact ⟨1, by omega, by omega, rfl, hown, GS.refl _ _⟩
  case round =>
    clear hown
    obtain ⟨k, hk1, hkl, rfl, hown, hGr⟩ := hrel
    by_cases hlt : k < l0.length
    · obtain ⟨m, rfl⟩ : ∃ m, k = m + 1 := ⟨k - 1, by omega⟩
      obtain ⟨⟨x1, x2, x3, x4⟩, hx⟩ : ∃ x, l0[m + 1]? = some x := ⟨_, List.getElem?_eq_getElem hlt⟩
      obtain ⟨⟨y1, y2, y3, y4⟩, hy⟩ : ∃ y, l0[m]? = some y := ⟨_, List.getElem?_eq_getElem (by omega)⟩
      obtain ⟨g, cap', cur, e, hB⟩ := OwnX.form0 hown (by omega)
      cases e
      have HI := Lib.hid hlt
      have hcc : ∀ w', G wr w' none → w'.cell? ⟨g, (m + 1) * 4, none⟩ = some (.int .i64 x1) ∧ w'.cell? ⟨g, (m + 1) * 4 + 1, none⟩ = some (.string x2) ∧ w'.cell? ⟨g, (m + 1) * 4 + 2, none⟩ = some (.string x3) ∧ w'.cell? ⟨g, (m + 1) * 4 + 3, none⟩ = some (.int .i64 x4) ∧ w'.cell? ⟨g, m * 4, none⟩ = some (.int .i64 y1) ∧ w'.cell? ⟨g, m * 4 + 1, none⟩ = some (.string y2) ∧ w'.cell? ⟨g, m * 4 + 2, none⟩ = some (.string y3) ∧ w'.cell? ⟨g, m * 4 + 3, none⟩ = some (.int .i64 y4) := fun w' q9 => by
        have ex0 := RdR.cell paC_sz (Rd.of_owns hown) q9 hx 0 (.int .i64 x1) rfl; have ex1 := RdR.cell paC_sz (Rd.of_owns hown) q9 hx 1 (.string x2) rfl; have ex2 := RdR.cell paC_sz (Rd.of_owns hown) q9 hx 2 (.string x3) rfl; have ex3 := RdR.cell paC_sz (Rd.of_owns hown) q9 hx 3 (.int .i64 x4) rfl; have ey0 := RdR.cell paC_sz (Rd.of_owns hown) q9 hy 0 (.int .i64 y1) rfl; have ey1 := RdR.cell paC_sz (Rd.of_owns hown) q9 hy 1 (.string y2) rfl; have ey2 := RdR.cell paC_sz (Rd.of_owns hown) q9 hy 2 (.string y3) rfl; have ey3 := RdR.cell paC_sz (Rd.of_owns hown) q9 hy 3 (.int .i64 y4) rfl
        simp only [Nat.add_zero, Nat.zero_add] at ex0 ex1 ex2 ex3 ey0 ey1 ey2 ey3
        exact ⟨ex0, ex1, ex2, ex3, ey0, ey1, ey2, ey3⟩
      have HG0 := Lib.hid hGr
      have h1 : IntKind.i64.wrap ((m : Int) + 1 - 1) = (m : Int) := by rw [IntKind.wrap_i64]; omega
      have h3 : IntKind.i64.wrap (m : Int) = (m : Int) := by rw [IntKind.wrap_i64]; omega
      have h4 : (m : Int) + 1 < (l0.length : Int) := by omega
      have h5 : (m : Int) < (l0.length : Int) := by omega
      have h6 : (0 : Int) ≤ (m : Int) + 1 := by omega
      have h7 : (0 : Int) ≤ (m : Int) := by omega
      go_upto_region 6 with fail
      have hS := (G.refl wr none).drew
      refine wp_region_held_drew (S := (fun w' : World => w'.cell? ⟨g, (m + 1) * 4, none⟩ = some (.int .i64 x1) ∧ w'.cell? ⟨g, (m + 1) * 4 + 1, none⟩ = some (.string x2) ∧ w'.cell? ⟨g, (m + 1) * 4 + 2, none⟩ = some (.string x3) ∧ w'.cell? ⟨g, (m + 1) * 4 + 3, none⟩ = some (.int .i64 x4) ∧ w'.cell? ⟨g, m * 4, none⟩ = some (.int .i64 y1) ∧ w'.cell? ⟨g, m * 4 + 1, none⟩ = some (.string y2) ∧ w'.cell? ⟨g, m * 4 + 2, none⟩ = some (.string y3) ∧ w'.cell? ⟨g, m * 4 + 3, none⟩ = some (.int .i64 y4))) (by kernel_rfl) ?_ (fun hHeld => ?_)
      · exact hcc _ hS
      refine wpAnyH_take (i := 0) (oi := { dst := some 18, op := Op.move (Operand.tmp 1), type := 94, pos := _, after := #[], guard := none }) (v := ?_) rfl (by kernel_rfl) (by kernel_rfl) (by kernel_rfl) (fun _ _ _ h => h) (Or.inl ⟨by rfl, ?_⟩) (by assumption) ?_
      rotate_left
      · (intro w hSw; obtain ⟨q0, q1, q2, q3, q4, q5, q6, q7⟩ := hSw; (go_simp <;> with_reducible rfl))
      try simp only [Act.put, List.setIfInBounds_toArray, List.set_cons_zero, List.set_cons_succ]
      refine wpAnyH_take (i := 1) (oi := { dst := some 19, op := Op.move (Operand.tmp 0), type := 53, pos := _, after := #[], guard := none }) (v := ?_) rfl (by kernel_rfl) (by kernel_rfl) (by kernel_rfl) (fun _ _ _ h => h) (Or.inl ⟨by rfl, ?_⟩) (by assumption) ?_
      rotate_left
      · (intro w hSw; obtain ⟨q0, q1, q2, q3, q4, q5, q6, q7⟩ := hSw; (go_simp <;> with_reducible rfl))
      try simp only [Act.put, List.setIfInBounds_toArray, List.set_cons_zero, List.set_cons_succ]
      refine wpAnyH_take (i := 2) (oi := { dst := some 20, op := Op.move (Operand.tmp 5), type := 3, pos := _, after := #[], guard := none }) (v := ?_) rfl (by kernel_rfl) (by kernel_rfl) (by kernel_rfl) (fun _ _ _ h => h) (Or.inl ⟨by rfl, ?_⟩) (by assumption) ?_
      rotate_left
      · (intro w hSw; obtain ⟨q0, q1, q2, q3, q4, q5, q6, q7⟩ := hSw; (go_simp <;> with_reducible rfl))
      try simp only [Act.put, List.setIfInBounds_toArray, List.set_cons_zero, List.set_cons_succ]
      refine wpAnyH_take (i := 3) (oi := { dst := some 21, op := Op.indexAddr 53 (Operand.tmp 19) (Operand.tmp 20), type := 0, pos := _, after := #[{ on := 1, ground := Ground.data }, { on := 2, ground := Ground.data }], guard := none }) (v := ?_) rfl (by kernel_rfl) (by kernel_rfl) (by kernel_rfl) (fun _ _ _ h => h) (Or.inl ⟨by rfl, ?_⟩) (by assumption) ?_
      rotate_left
      · (intro w hSw; obtain ⟨q0, q1, q2, q3, q4, q5, q6, q7⟩ := hSw; (go_simp <;> with_reducible rfl))
      try simp only [Act.put, List.setIfInBounds_toArray, List.set_cons_zero, List.set_cons_succ]
      refine wpAnyH_take (i := 4) (oi := { dst := some 22, op := Op.load 90 (Operand.tmp 21), type := 90, pos := _, after := #[{ on := 3, ground := Ground.data }], guard := none }) (v := ?_) rfl (by kernel_rfl) (by kernel_rfl) (by kernel_rfl) (fun _ _ _ h => h) (Or.inl ⟨by rfl, ?_⟩) (by assumption) ?_
      rotate_left
      · (intro w hSw; obtain ⟨q0, q1, q2, q3, q4, q5, q6, q7⟩ := hSw; (go_simp <;> with_reducible rfl))
      try simp only [Act.put, List.setIfInBounds_toArray, List.set_cons_zero, List.set_cons_succ]
      refine wpAnyH_take (i := 5) (oi := { dst := some 23, op := Op.move (Operand.tmp 0), type := 53, pos := _, after := #[], guard := none }) (v := ?_) rfl (by kernel_rfl) (by kernel_rfl) (by kernel_rfl) (fun _ _ _ h => h) (Or.inl ⟨by rfl, ?_⟩) (by assumption) ?_
      rotate_left
      · (intro w hSw; obtain ⟨q0, q1, q2, q3, q4, q5, q6, q7⟩ := hSw; (go_simp <;> with_reducible rfl))
      try simp only [Act.put, List.setIfInBounds_toArray, List.set_cons_zero, List.set_cons_succ]
      refine wpAnyH_take (i := 6) (oi := { dst := some 24, op := Op.move (Operand.tmp 5), type := 3, pos := _, after := #[], guard := none }) (v := ?_) rfl (by kernel_rfl) (by kernel_rfl) (by kernel_rfl) (fun _ _ _ h => h) (Or.inl ⟨by rfl, ?_⟩) (by assumption) ?_
      rotate_left
      · (intro w hSw; obtain ⟨q0, q1, q2, q3, q4, q5, q6, q7⟩ := hSw; (go_simp <;> with_reducible rfl))
      try simp only [Act.put, List.setIfInBounds_toArray, List.set_cons_zero, List.set_cons_succ]
      refine wpAnyH_take (i := 7) (oi := { dst := some 25, op := Op.binOp BinOp.sub 3 (Operand.tmp 24) (Operand.const (Value.int IntKind.i64 1)) 3, type := 3, pos := _, after := #[{ on := 6, ground := Ground.data }], guard := none }) (v := ?_) rfl (by kernel_rfl) (by kernel_rfl) (by kernel_rfl) (fun _ _ _ h => h) (Or.inl ⟨by rfl, ?_⟩) (by assumption) ?_
      rotate_left
      · (intro w hSw; obtain ⟨q0, q1, q2, q3, q4, q5, q6, q7⟩ := hSw; (go_simp <;> with_reducible rfl))
      try simp only [Act.put, List.setIfInBounds_toArray, List.set_cons_zero, List.set_cons_succ]
      refine wpAnyH_take (i := 8) (oi := { dst := some 26, op := Op.indexAddr 53 (Operand.tmp 23) (Operand.tmp 25), type := 0, pos := _, after := #[{ on := 5, ground := Ground.data }, { on := 7, ground := Ground.data }], guard := none }) (v := ?_) rfl (by kernel_rfl) (by kernel_rfl) (by kernel_rfl) (fun _ _ _ h => h) (Or.inl ⟨by rfl, ?_⟩) (by assumption) ?_
      rotate_left
      · (intro w hSw; obtain ⟨q0, q1, q2, q3, q4, q5, q6, q7⟩ := hSw; (go_simp <;> with_reducible rfl))
      try simp only [Act.put, List.setIfInBounds_toArray, List.set_cons_zero, List.set_cons_succ]
      refine wpAnyH_take (i := 9) (oi := { dst := some 27, op := Op.load 90 (Operand.tmp 26), type := 90, pos := _, after := #[{ on := 8, ground := Ground.data }], guard := none }) (v := ?_) rfl (by kernel_rfl) (by kernel_rfl) (by kernel_rfl) (fun _ _ _ h => h) (Or.inl ⟨by rfl, ?_⟩) (by assumption) ?_
      rotate_left
      · (intro w hSw; obtain ⟨q0, q1, q2, q3, q4, q5, q6, q7⟩ := hSw; (go_simp <;> with_reducible rfl))
      try simp only [Act.put, List.setIfInBounds_toArray, List.set_cons_zero, List.set_cons_succ]
      refine wpAnyH_ready (rs := [10]) (by kernel_rfl) (by simp) ?_
      refine AllReadyH.cons (o := { dst := some 28, op := Op.call { callee := Callee.value (Operand.tmp 18), args := #[Operand.tmp 22, Operand.tmp 27], argTypes := #[90, 90] }, type := 4, pos := _, after := #[{ on := 0, ground := Ground.data }, { on := 4, ground := Ground.data }, { on := 9, ground := Ground.data }], guard := none }) rfl (fun K hK => ?_) AllReadyH.nil
      go_simp
      refine (HAL.out (x1, x2, x3, x4) (y1, y2, y3, y4) _ (List.mem_of_getElem? hx) (List.mem_of_getElem? hy) (HG0.out.trans (GS.of_G hS))).mono ?_
      rintro e w4 ⟨rfl, hh⟩
      replace hS := hS.trans hh
      clear hh
      refine hK.out _ _ ?_ (fun hHeld => ?_)
      · exact hcc _ hS
      clear hK K
      try simp only [Act.put, List.setIfInBounds_toArray, List.set_cons_zero, List.set_cons_succ]
      refine wpAnyH_done (by kernel_rfl) ?_ _
      clear hHeld hcc
      have hown4 := OwnX.quiet hown hS
      have hG4 := hGr.trans (GS.of_G hS)
      clear hS hown hGr hB HG0
      cases hef : ef (x1, x2, x3, x4) (y1, y2, y3, y4) with
      | false =>
        go_wp2_with fail
        go_roundw
        case rel => exact ⟨m + 1 + 1, by omega, by have := HI.out; omega, by go_num, hown4, hG4⟩
        case measure => have := HI.out; simp [intOf]; omega
      | true =>
        have hck : ¬ cap = m + 1 := by omega
        obtain ⟨N2, hN2⟩ : ∃ N2, l0.length - (m + 1) = N2 := ⟨_, rfl⟩
        have HN2 : Hid (l0.length = m + 1 + N2) := Lib.hid (by omega)
        have hN1 : 1 ≤ N2 := by omega
        go_upto_region 8 with fail
        try rw [hN2]
        clear hN2 hx hy hef
        go_wp2_with fail
        go_loopw [5, 7] (CjP w base (.slice (some ⟨g, 0, none⟩) l0.length cap) l0 m N2) (fun _ j _ => N2 - (intOf j).toNat)
        case atStart => exact ⟨m + 1, 1, l0, by omega, hN1, by omega, by omega, by go_num, rfl, rfl, fun z hz => hz, hown4, hG4⟩
        case round =>
          clear hown4 hG4
          obtain ⟨k, k2, l, j1, j2, j3, j4, rfl, rfl, hll, hsub, hown, hGr⟩ := hrel
          have HSUB := Lib.hid hsub
          have HLL := Lib.hid hll
          clear hsub
          by_cases hlt2 : k2 < N2
          · obtain ⟨q, rfl⟩ : ∃ q, k2 = q + 1 := ⟨k2 - 1, by omega⟩
            have HJ := Lib.hid (And.intro hlt2 (And.intro j3 j4))
            obtain ⟨⟨x1, x2, x3, x4⟩, hx⟩ : ∃ x, l[m + 1 + (q + 1)]? = some x := ⟨_, List.getElem?_eq_getElem (by have := HN2.out; omega)⟩
            obtain ⟨⟨y1, y2, y3, y4⟩, hy⟩ : ∃ y, l[m + 1 + q]? = some y := ⟨_, List.getElem?_eq_getElem (by have := HN2.out; omega)⟩
            have hownl : OwnX 90 4 paC wr base (.slice (some ⟨g, 0, none⟩) l0.length cap) l := hown
            obtain ⟨g', cap', cur, e, hB⟩ := OwnX.form0 hownl (by rw [hll]; have := HN2.out; omega)
            rw [hll] at e
            cases e
            have hcc : ∀ w', G wr w' none → w'.cell? ⟨g, (m + 1) * 4 + (q + 1) * 4, none⟩ = some (.int .i64 x1) ∧ w'.cell? ⟨g, (m + 1) * 4 + (q + 1) * 4 + 1, none⟩ = some (.string x2) ∧ w'.cell? ⟨g, (m + 1) * 4 + (q + 1) * 4 + 2, none⟩ = some (.string x3) ∧ w'.cell? ⟨g, (m + 1) * 4 + (q + 1) * 4 + 3, none⟩ = some (.int .i64 x4) ∧ w'.cell? ⟨g, (m + 1) * 4 + q * 4, none⟩ = some (.int .i64 y1) ∧ w'.cell? ⟨g, (m + 1) * 4 + q * 4 + 1, none⟩ = some (.string y2) ∧ w'.cell? ⟨g, (m + 1) * 4 + q * 4 + 2, none⟩ = some (.string y3) ∧ w'.cell? ⟨g, (m + 1) * 4 + q * 4 + 3, none⟩ = some (.int .i64 y4) := fun w' q9 => by
              have ex0 := RdR.cell paC_sz (Rd.of_owns hown) q9 hx 0 (.int .i64 x1) rfl; have ex1 := RdR.cell paC_sz (Rd.of_owns hown) q9 hx 1 (.string x2) rfl; have ex2 := RdR.cell paC_sz (Rd.of_owns hown) q9 hx 2 (.string x3) rfl; have ex3 := RdR.cell paC_sz (Rd.of_owns hown) q9 hx 3 (.int .i64 x4) rfl; have ey0 := RdR.cell paC_sz (Rd.of_owns hown) q9 hy 0 (.int .i64 y1) rfl; have ey1 := RdR.cell paC_sz (Rd.of_owns hown) q9 hy 1 (.string y2) rfl; have ey2 := RdR.cell paC_sz (Rd.of_owns hown) q9 hy 2 (.string y3) rfl; have ey3 := RdR.cell paC_sz (Rd.of_owns hown) q9 hy 3 (.int .i64 y4) rfl
              simp only [Nat.add_zero, Nat.zero_add, Nat.add_mul (m + 1)] at ex0 ex1 ex2 ex3 ey0 ey1 ey2 ey3
              exact ⟨ex0, ex1, ex2, ex3, ey0, ey1, ey2, ey3⟩
            have HG0 := Lib.hid hGr
            have hq9 : q < 1000 := by have := HN2.out; omega
            have h1 : IntKind.i64.wrap ((q : Int) + 1 - 1) = (q : Int) := by rw [IntKind.wrap_i64]; omega
            have h3 : IntKind.i64.wrap (q : Int) = (q : Int) := by rw [IntKind.wrap_i64]; omega
            have h4 : (q : Int) + 1 < (N2 : Int) := by omega
            have h5 : (q : Int) < (N2 : Int) := by omega
            have h6 : (0 : Int) ≤ (q : Int) + 1 := by omega
            have h7 : (0 : Int) ≤ (q : Int) := by omega
            go_upto_region 11 with fail
            have hS := (G.refl wr none).drew
            refine wp_region_held_drew (S := (fun w' : World => w'.cell? ⟨g, (m + 1) * 4 + (q + 1) * 4, none⟩ = some (.int .i64 x1) ∧ w'.cell? ⟨g, (m + 1) * 4 + (q + 1) * 4 + 1, none⟩ = some (.string x2) ∧ w'.cell? ⟨g, (m + 1) * 4 + (q + 1) * 4 + 2, none⟩ = some (.string x3) ∧ w'.cell? ⟨g, (m + 1) * 4 + (q + 1) * 4 + 3, none⟩ = some (.int .i64 x4) ∧ w'.cell? ⟨g, (m + 1) * 4 + q * 4, none⟩ = some (.int .i64 y1) ∧ w'.cell? ⟨g, (m + 1) * 4 + q * 4 + 1, none⟩ = some (.string y2) ∧ w'.cell? ⟨g, (m + 1) * 4 + q * 4 + 2, none⟩ = some (.string y3) ∧ w'.cell? ⟨g, (m + 1) * 4 + q * 4 + 3, none⟩ = some (.int .i64 y4))) (by kernel_rfl) ?_ (fun hHeld => ?_)
            · exact hcc _ hS
            refine wpAnyH_take (i := 0) (oi := { dst := some 38, op := Op.move (Operand.tmp 1), type := 94, pos := _, after := #[], guard := none }) (v := ?_) rfl (by kernel_rfl) (by kernel_rfl) (by kernel_rfl) (fun _ _ _ h => h) (Or.inl ⟨by rfl, ?_⟩) (by assumption) ?_
            rotate_left
            · (intro w hSw; obtain ⟨q0, q1, q2, q3, q4, q5, q6, q7⟩ := hSw; (go_simp <;> with_reducible rfl))
            try simp only [Act.put, List.setIfInBounds_toArray, List.set_cons_zero, List.set_cons_succ]
            refine wpAnyH_take (i := 1) (oi := { dst := some 39, op := Op.move (Operand.tmp 6), type := 53, pos := _, after := #[], guard := none }) (v := ?_) rfl (by kernel_rfl) (by kernel_rfl) (by kernel_rfl) (fun _ _ _ h => h) (Or.inl ⟨by rfl, ?_⟩) (by assumption) ?_
            rotate_left
            · (intro w hSw; obtain ⟨q0, q1, q2, q3, q4, q5, q6, q7⟩ := hSw; (go_simp <;> with_reducible rfl))
            try simp only [Act.put, List.setIfInBounds_toArray, List.set_cons_zero, List.set_cons_succ]
            refine wpAnyH_take (i := 2) (oi := { dst := some 40, op := Op.move (Operand.tmp 7), type := 3, pos := _, after := #[], guard := none }) (v := ?_) rfl (by kernel_rfl) (by kernel_rfl) (by kernel_rfl) (fun _ _ _ h => h) (Or.inl ⟨by rfl, ?_⟩) (by assumption) ?_
            rotate_left
            · (intro w hSw; obtain ⟨q0, q1, q2, q3, q4, q5, q6, q7⟩ := hSw; (go_simp <;> with_reducible rfl))
            try simp only [Act.put, List.setIfInBounds_toArray, List.set_cons_zero, List.set_cons_succ]
            refine wpAnyH_take (i := 3) (oi := { dst := some 41, op := Op.indexAddr 53 (Operand.tmp 39) (Operand.tmp 40), type := 0, pos := _, after := #[{ on := 1, ground := Ground.data }, { on := 2, ground := Ground.data }], guard := none }) (v := ?_) rfl (by kernel_rfl) (by kernel_rfl) (by kernel_rfl) (fun _ _ _ h => h) (Or.inl ⟨by rfl, ?_⟩) (by assumption) ?_
            rotate_left
            · (intro w hSw; obtain ⟨q0, q1, q2, q3, q4, q5, q6, q7⟩ := hSw; (go_simp <;> with_reducible rfl))
            try simp only [Act.put, List.setIfInBounds_toArray, List.set_cons_zero, List.set_cons_succ]
            refine wpAnyH_take (i := 4) (oi := { dst := some 42, op := Op.load 90 (Operand.tmp 41), type := 90, pos := _, after := #[{ on := 3, ground := Ground.data }], guard := none }) (v := ?_) rfl (by kernel_rfl) (by kernel_rfl) (by kernel_rfl) (fun _ _ _ h => h) (Or.inl ⟨by rfl, ?_⟩) (by assumption) ?_
            rotate_left
            · (intro w hSw; obtain ⟨q0, q1, q2, q3, q4, q5, q6, q7⟩ := hSw; (go_simp <;> with_reducible rfl))
            try simp only [Act.put, List.setIfInBounds_toArray, List.set_cons_zero, List.set_cons_succ]
            refine wpAnyH_take (i := 5) (oi := { dst := some 43, op := Op.move (Operand.tmp 6), type := 53, pos := _, after := #[], guard := none }) (v := ?_) rfl (by kernel_rfl) (by kernel_rfl) (by kernel_rfl) (fun _ _ _ h => h) (Or.inl ⟨by rfl, ?_⟩) (by assumption) ?_
            rotate_left
            · (intro w hSw; obtain ⟨q0, q1, q2, q3, q4, q5, q6, q7⟩ := hSw; (go_simp <;> with_reducible rfl))
            try simp only [Act.put, List.setIfInBounds_toArray, List.set_cons_zero, List.set_cons_succ]
            refine wpAnyH_take (i := 6) (oi := { dst := some 44, op := Op.move (Operand.tmp 7), type := 3, pos := _, after := #[], guard := none }) (v := ?_) rfl (by kernel_rfl) (by kernel_rfl) (by kernel_rfl) (fun _ _ _ h => h) (Or.inl ⟨by rfl, ?_⟩) (by assumption) ?_
            rotate_left
            · (intro w hSw; obtain ⟨q0, q1, q2, q3, q4, q5, q6, q7⟩ := hSw; (go_simp <;> with_reducible rfl))
            try simp only [Act.put, List.setIfInBounds_toArray, List.set_cons_zero, List.set_cons_succ]
            refine wpAnyH_take (i := 7) (oi := { dst := some 45, op := Op.binOp BinOp.sub 3 (Operand.tmp 44) (Operand.const (Value.int IntKind.i64 1)) 3, type := 3, pos := _, after := #[{ on := 6, ground := Ground.data }], guard := none }) (v := ?_) rfl (by kernel_rfl) (by kernel_rfl) (by kernel_rfl) (fun _ _ _ h => h) (Or.inl ⟨by rfl, ?_⟩) (by assumption) ?_
            rotate_left
            · (intro w hSw; obtain ⟨q0, q1, q2, q3, q4, q5, q6, q7⟩ := hSw; (go_simp <;> with_reducible rfl))
            try simp only [Act.put, List.setIfInBounds_toArray, List.set_cons_zero, List.set_cons_succ]
            refine wpAnyH_take (i := 8) (oi := { dst := some 46, op := Op.indexAddr 53 (Operand.tmp 43) (Operand.tmp 45), type := 0, pos := _, after := #[{ on := 5, ground := Ground.data }, { on := 7, ground := Ground.data }], guard := none }) (v := ?_) rfl (by kernel_rfl) (by kernel_rfl) (by kernel_rfl) (fun _ _ _ h => h) (Or.inl ⟨by rfl, ?_⟩) (by assumption) ?_
            rotate_left
            · (intro w hSw; obtain ⟨q0, q1, q2, q3, q4, q5, q6, q7⟩ := hSw; (go_simp <;> with_reducible rfl))
            try simp only [Act.put, List.setIfInBounds_toArray, List.set_cons_zero, List.set_cons_succ]
            refine wpAnyH_take (i := 9) (oi := { dst := some 47, op := Op.load 90 (Operand.tmp 46), type := 90, pos := _, after := #[{ on := 8, ground := Ground.data }], guard := none }) (v := ?_) rfl (by kernel_rfl) (by kernel_rfl) (by kernel_rfl) (fun _ _ _ h => h) (Or.inl ⟨by rfl, ?_⟩) (by assumption) ?_
            rotate_left
            · (intro w hSw; obtain ⟨q0, q1, q2, q3, q4, q5, q6, q7⟩ := hSw; (go_simp <;> with_reducible rfl))
            try simp only [Act.put, List.setIfInBounds_toArray, List.set_cons_zero, List.set_cons_succ]
            refine wpAnyH_ready (rs := [10]) (by kernel_rfl) (by simp) ?_
            refine AllReadyH.cons (o := { dst := some 48, op := Op.call { callee := Callee.value (Operand.tmp 38), args := #[Operand.tmp 42, Operand.tmp 47], argTypes := #[90, 90] }, type := 4, pos := _, after := #[{ on := 0, ground := Ground.data }, { on := 4, ground := Ground.data }, { on := 9, ground := Ground.data }], guard := none }) rfl (fun K hK => ?_) AllReadyH.nil
            go_simp
            refine (HAL.out (x1, x2, x3, x4) (y1, y2, y3, y4) _ (HSUB.out _ (List.mem_of_getElem? hx)) (HSUB.out _ (List.mem_of_getElem? hy)) (HG0.out.trans (GS.of_G hS))).mono ?_
            rintro e w4 ⟨rfl, hh⟩
            replace hS := hS.trans hh
            clear hh
            refine hK.out _ _ ?_ (fun hHeld => ?_)
            · exact hcc _ hS
            clear hK K
            try simp only [Act.put, List.setIfInBounds_toArray, List.set_cons_zero, List.set_cons_succ]
            refine wpAnyH_take (i := 11) (oi := { dst := some 49, op := Op.unOp UnOp.not 4 (Operand.tmp 48), type := 4, pos := _, after := #[{ on := 10, ground := Ground.data }], guard := none }) (v := ?_) rfl (by kernel_rfl) (by kernel_rfl) (by kernel_rfl) (fun _ _ _ h => h) (Or.inl ⟨by rfl, ?_⟩) (by assumption) ?_
            rotate_left
            · (intro w hSw; obtain ⟨q0, q1, q2, q3, q4, q5, q6, q7⟩ := hSw; (go_simp <;> with_reducible rfl))
            try simp only [Act.put, List.setIfInBounds_toArray, List.set_cons_zero, List.set_cons_succ]
            refine wpAnyH_done (by kernel_rfl) ?_ _
            clear hHeld
            have hown4 : OwnPa w4 base (.slice (some ⟨g, 0, none⟩) l0.length cap) l := OwnX.quiet hown hS
            have hG4 := hGr.trans (GS.of_G hS)
            have hcx := hcc _ hS
            clear hcc hown hGr hB HG0 hownl
            cases hef : ef (x1, x2, x3, x4) (y1, y2, y3, y4) with
            | true =>
              clear hcx hS
              go_wp2_with fail
              go_roundw
              case rel => exact ⟨k, q + 1 + 1, l, by omega, by have := HJ.out; omega, by have := HJ.out; omega, by have := HJ.out; omega, by go_num, by go_num, HLL.out, HSUB.out, hown4, hG4⟩
              case measure => have := HJ.out; simp [intOf]; omega
            | false =>
              obtain ⟨m0, m1, m2, m3, -, -, -, -⟩ := hcx
              obtain ⟨⟨z1, z2, z3, z4⟩, hp0⟩ : ∃ p0, l[k]? = some p0 := ⟨_, List.getElem?_eq_getElem (by have := HN2.out; have := HJ.out; omega)⟩
              have HT1 : Hid (w4.there g (k * 4) (#[.int .i64 x1, .string x2, .string x3, .int .i64 x4] : Array Value).size) := Lib.hid (pa_there hown4 HLL.out (by have := HN2.out; have := HJ.out; omega))
              have hA := pa_set hown4 HLL.out hp0 (x1, x2, x3, x4)
              have hG6 := hG4.trans (GS.of_Gs (pa_grow w4 g (k * 4) (x1, x2, x3, x4)) (show S1 _ g from rfl))
              have HSUB3 : Hid (∀ z ∈ l.set k (x1, x2, x3, x4), z ∈ l0) := Lib.hid (fun z hz => by
                rcases List.mem_or_eq_of_mem_set hz with hz | rfl
                · exact HSUB.out z hz
                · exact HSUB.out _ (List.mem_of_getElem? hx))
              have h8 : (k : Int) < (l0.length : Int) := by have := HN2.out; have := HJ.out; omega
              have h9 : (0 : Int) ≤ (k : Int) := by omega
              have hk9 : k < 1000 := by omega
              have c0 := RdR.cell paC_sz (Rd.of_owns hown4) (G.refl _ none) hp0 0 (.int .i64 z1) rfl
              have c1 := RdR.cell paC_sz (Rd.of_owns hown4) (G.refl _ none) hp0 1 (.string z2) rfl
              have c2 := RdR.cell paC_sz (Rd.of_owns hown4) (G.refl _ none) hp0 2 (.string z3) rfl
              have c3 := RdR.cell paC_sz (Rd.of_owns hown4) (G.refl _ none) hp0 3 (.int .i64 z4) rfl
              have f0 := (HT1.out 0 (by show 0 < 4; omega)).2
              have f1 := (HT1.out 1 (by show 1 < 4; omega)).2
              have f2 := (HT1.out 2 (by show 2 < 4; omega)).2
              have f3 := (HT1.out 3 (by show 3 < 4; omega)).2
              simp only [Nat.add_zero, Nat.zero_add] at c0 c1 c2 c3 f0
              clear hS hp0 hll hx hy hHeld
              go_wp2_with fail
              go_roundw
              case rel => exact ⟨k + 1, q + 1 + 1, l.set k (x1, x2, x3, x4), by omega, by have := HJ.out; omega, by have := HJ.out; omega, by have := HJ.out; omega, by go_num, by go_num, by rw [List.length_set]; exact HLL.out, HSUB3.out, hA, hG6⟩
              case measure => have := HJ.out; simp [intOf]; omega
          · obtain rfl : k2 = N2 := by omega
            have hkn : k < l0.length := by have := HN2.out; omega
            have hck2 : ¬ cap = k := by omega
            have hcl : ∀ j, j < (l0.length - k) * 4 → (wr.cell? ⟨g, k * 4 + j, none⟩).isSome = true ∧ wr.frozen? ⟨g, k * 4 + j, none⟩ = false := fun j hj => by
              have hownl : OwnX 90 4 paC wr base (.slice (some ⟨g, 0, none⟩) l0.length cap) l := hown
              unfold OwnX at hownl
              rw [hll] at hownl
              have h1 := World.ownsRow.cellAt hownl (k * 4 + j) (by omega)
              have hr : (rowL paC l).length = l0.length * 4 := hownl.1
              rw [List.getElem?_eq_getElem (by rw [hr]; omega)] at h1
              exact ⟨by rw [h1]; rfl, World.ownsRow.frozenAt hownl _⟩
            have HC := Lib.hid hcl
            have HP := Lib.hid (fun vs => own_before paC_sz hown hll (k := k) (o := k * 4) (by omega) (Nat.le_refl _) vs)
            have hlt3 : l.length = l0.length := hll
            have HGX := Lib.hid (fun vs => hGr.trans (GS.of_Gs (setCells_grow g vs (k * 4) wr) (show S1 _ g from rfl)))
            have hki : (k : Int) ≤ (l0.length : Int) := by omega
            have hki0 : (0 : Int) ≤ (k : Int) := by omega
            have hkc : (k : Int) ≤ (cap : Int) := by omega
            clear hcl hll hlt3
            obtain ⟨vs, hrun⟩ := run_clear_rows (P := Tryd.prog) (cs := #[.int .i64 0, .string ⟨#[]⟩, .string ⟨#[]⟩, .int .i64 0]) wr 0 Tryd.underlying53 zp_run (pa_oneL (0, ⟨#[]⟩, ⟨#[]⟩, 0)) g (k * 4) (l0.length - k) (cap - k) (by omega) (fun j hj => (HC.out j hj).1) (fun j hj => (HC.out j hj).2)
            have hres := HP.out vs
            have hGz := HGX.out vs
            go_wp2_with fail
            go_ret
            exact ⟨_, l.take k, rfl, hres, by rw [List.length_take]; omega, fun z hz => HSUB.out z (List.mem_of_mem_take hz), hGz⟩
    · obtain rfl : k = l0.length := by omega
      go_wp2_with fail
      go_ret
      exact ⟨_, l0, rfl, hown, Nat.le_refl _, fun z hz => hz, hGr⟩
end Go.Proofs.YtamoefnpfkcigaaDoor

/- Gates: their checks, the map of them, the true time. Written by gengat.py. -/
namespace Go.Proofs.YtamoefnpfkcigaaDoor
open Go.RowKit

/-- A gate: key, area, clock. -/
abbrev Ga := ByteArray × ByteArray × Int
def gaC (x : Ga) : Array Value := #[.string x.1, .string x.2.1, .int .i64 x.2.2]
theorem gaC_sz (x : Ga) : (gaC x).size = 3 := rfl
theorem ga_info (x : Ga) : (Tryd.prog.info? 88).map (·.size) = some (gaC x).size := (by kernel_rfl : (Tryd.prog.info? 88).map (·.size) = some 3)
def GaOk (l : List Ga) : Prop := ∀ x ∈ l, Small x.1 ∧ Small x.2.1
def gaErr (b : ByteArray) : List Ga → Int
  | [] => 0
  | x :: r => if keyB x.1 = false then 5 else if keyB x.2.1 = false then 5 else if leB x.1 b = true then 7 else if inB x.2.2 (-1440) 1440 = false then 1 else gaErr x.1 r
def gaE (l : List Ga) : Int := if 200 < l.length then 2 else gaErr ⟨#[]⟩ l
theorem gaRow {W w : World} {bb bo n cap : Nat} {l : List Ga} (h : RdR W 3 gaC (.slice (some ⟨bb, bo, none⟩) n cap) l) (hG : G W w none) {k : Nat} {p : Ga} (hp : l[k]? = some p) :
    ∀ j v, (gaC p).toList[j]? = some v → w.cell? ((⟨bb, bo + k * 3, none⟩ : Addr).add j) = some v := fun j v hv => by
  rw [add_at]
  exact RdR.cell gaC_sz h hG hp j v hv
def GaRel (w : World) (l : List Ga) (v i : Value) (wr : World) : Prop :=
  ∃ (k : Nat) (b : ByteArray), k ≤ l.length ∧ i = .int .i64 k ∧ v = .string b ∧ gaErr ⟨#[]⟩ l = gaErr b (l.drop k) ∧ G w wr none
theorem ga_rise (b : ByteArray) (l : List Ga) (h : gaErr b l = 0) : (Rise (l.map (·.1)) ∧ ∀ p ∈ l, cmpI b p.1 < 0) ∧ ∀ p ∈ l, -1440 ≤ p.2.2 ∧ p.2.2 ≤ 1440 := by
  induction l generalizing b with
  | nil => exact ⟨⟨List.Pairwise.nil, fun p hp => by cases hp⟩, fun p hp => by cases hp⟩
  | cons p r ih =>
    unfold gaErr at h
    split at h
    · omega
    · split at h
      · omega
      · split at h
        · omega
        · rename_i hle
          split at h
          · omega
          · rename_i ht
            obtain ⟨⟨i1, i2⟩, i3⟩ := ih p.1 h
            have hb : cmpI b p.1 < 0 := by
              rw [leB_cmp] at hle
              have h1 := cmpI_neg p.1 b
              simp at hle
              omega
            refine ⟨⟨List.pairwise_cons.2 ⟨fun s hs => ?_, i1⟩, fun q hq => ?_⟩, fun q hq => ?_⟩
            · obtain ⟨q, hq, rfl⟩ := List.mem_map.1 hs
              exact i2 q hq
            · rcases List.mem_cons.1 hq with rfl | hq
              · exact hb
              · exact cmpI_trans hb (i2 q hq)
            · rcases List.mem_cons.1 hq with rfl | hq
              · unfold inB at ht
                simp at ht
                omega
              · exact i3 q hq
theorem gaE_ok {l : List Ga} (h : gaE l = 0) : Rise (l.map (·.1)) ∧ (∀ p ∈ l, -1440 ≤ p.2.2 ∧ p.2.2 ≤ 1440) ∧ l.length ≤ 200 := by
  unfold gaE at h
  split at h
  · omega
  · exact ⟨(ga_rise _ _ h).1.1, (ga_rise _ _ h).2, by omega⟩
set_option maxRecDepth 100000 in
set_option maxHeartbeats 4000000 in
theorem checkGates_c (v : Value) (l : List Ga) (w : World) (hr : RdR w 3 gaC v l) (hl : GaOk l) (hn : l.length ≤ 1000000) :
    Calls Tryd.prog 84 #[v] w fun e w' => e = .returned (.int .i64 (gaE l)) ∧ G w w' none := by
  have HR := Lib.hid hr
  obtain ⟨a, cap, rfl, hcap, hm⟩ := RdR.form hr
  clear hr
  obtain ⟨E, hE⟩ : ∃ E, gaE l = E := ⟨_, rfl⟩
  have HEE := Lib.hid hE
  rw [hE]
  clear hE
  by_cases h30 : 200 < l.length
  · obtain rfl : E = 2 := by rw [← HEE.out]; simp [gaE, h30]
    go_enter Tryd.func84, Tryd.ntmps84
    go_wp2_with fail
    go_ret
    exact ⟨rfl, G.refl _ _⟩
  · have H := Lib.hid (show E = gaErr ⟨#[]⟩ l by rw [← HEE.out]; simp [gaE, h30])
    go_enter Tryd.func84, Tryd.ntmps84
    go_wp2_with fail
    go_loopw [3, 11] (GaRel w l) (fun _ i _ => l.length - (intOf i).toNat)
    case atStart => exact ⟨0, ⟨#[]⟩, by omega, rfl, rfl, rfl, G.refl _ _⟩
    case round =>
      obtain ⟨k, b, hkl, rfl, rfl, heq, hG⟩ := hrel
      have HE := Lib.hid heq
      clear heq
      by_cases hk : k < l.length
      · obtain ⟨⟨h, y, c⟩, hp⟩ : ∃ p, l[k]? = some p := ⟨_, List.getElem?_eq_getElem hk⟩
        have hdrop : l.drop k = (h, y, c) :: l.drop (k + 1) := by rw [List.drop_eq_getElem_cons hk, ← (List.getElem?_eq_some_iff.1 hp).2]
        have hs1 := hl _ (List.mem_of_getElem? hp)
        obtain ⟨hs1, hs2⟩ := hs1
        dsimp only at hs1 hs2
        unfold Small at hs1 hs2
        obtain ⟨bb, bo, rfl, hbb, _⟩ := RdR.elem gaC_sz HR.out hG hp
        have HW := Lib.hid (gaRow HR.out hG hp)
        have HS : Hid (gaErr b (l.drop k) = if keyB h = false then 5 else if keyB y = false then 5 else if leB h b = true then 7 else if inB c (-1440) 1440 = false then 1 else gaErr h (l.drop (k + 1))) := Lib.hid (by rw [hdrop]; rfl)
        have HK := Lib.hid hk
        have hB5 : Bk (wr.alloc (.cells #[.string h, .string y, .int .i64 c] 88)) wr.heap.size 88 #[.string h, .string y, .int .i64 c] := Bk.new wr 88 _
        have hG5 : G w (wr.alloc (.cells #[.string h, .string y, .int .i64 c] 88)) none := hG.alloc (.cells (gaC (h, y, c)) 88)
        clear hdrop hp hG
        go_upto_region 7 with (refine wpList_load_at rfl 88 _ rfl ⟨bb, bo + k * 3, none⟩ rfl #[.string h, .string y, .int .i64 c] _ HW.out Tryd.underlying88 rfl (ga_info (h, y, c)) ?_)
        clear HW
        generalize wr.alloc (.cells #[.string h, .string y, .int .i64 c] 88) = w5 at hB5 hG5 ⊢
        generalize wr.heap.size = g at hB5 ⊢
        have c0 : w5.cell? ⟨g, 0, none⟩ = some (.string h) := hB5.cell 0
        have c1 : w5.cell? ⟨g, 1, none⟩ = some (.string y) := hB5.cell 1
        have c2 : w5.cell? ⟨g, 2, none⟩ = some (.int .i64 c) := hB5.cell 2
        go_wp2_with fail
        refine (isKey_c _ _ hs1).mono ?_; rintro e w' ⟨rfl, rfl⟩
        cases k0 : keyB h with
        | false =>
          obtain rfl : E = 5 := by rw [H.out, HE.out, HS.out, if_pos k0]
          clear k0
          go_wp2_with fail
          go_ret
          exact ⟨rfl, hG5⟩
        | true =>
          have K0 := Lib.hid k0
          clear k0
          go_wp2_with fail
          refine (isKey_c _ _ hs2).mono ?_; rintro e w' ⟨rfl, rfl⟩
          cases k1 : keyB y with
          | false =>
            obtain rfl : E = 5 := by rw [H.out, HE.out, HS.out, if_neg (by simp [K0.out]), if_pos k1]
            clear k1
            go_wp2_with fail
            go_ret
            exact ⟨rfl, hG5⟩
          | true =>
            have K1 := Lib.hid k1
            clear k1
            cases hle : leB h b with
            | true =>
              obtain rfl : E = 7 := by rw [H.out, HE.out, HS.out, if_neg (by simp [K0.out]), if_neg (by simp [K1.out]), if_pos hle]
              unfold leB at hle
              go_wp2_with fail
              go_ret
              exact ⟨rfl, hG5⟩
            | false =>
              have HL := Lib.hid hle
              unfold leB at hle
              go_wp2_with fail
              refine (within_c c (-1440) 1440 _).mono ?_; rintro e w' ⟨rfl, rfl⟩
              cases kc : inB c (-1440) 1440 with
              | false =>
                obtain rfl : E = 1 := by rw [H.out, HE.out, HS.out, if_neg (by simp [K0.out]), if_neg (by simp [K1.out]), if_neg (by simp [HL.out]), if_pos kc]
                clear kc
                go_wp2_with fail
                go_ret
                exact ⟨rfl, hG5⟩
              | true =>
                have HF : Hid (gaErr ⟨#[]⟩ l = gaErr h (l.drop (k + 1))) := Lib.hid (by rw [HE.out, HS.out, if_neg (by simp [K0.out]), if_neg (by simp [K1.out]), if_neg (by simp [HL.out]), if_neg (by simp [kc])])
                clear kc
                go_wp2_with fail
                go_roundw
                case rel => exact ⟨k + 1, h, by omega, by go_num, rfl, HF.out, hG5⟩
                case measure => have := HK.out; simp [intOf]; omega
      · obtain rfl : k = l.length := by omega
        obtain rfl : E = 0 := by rw [H.out, HE.out, List.drop_length]; rfl
        go_wp2_with fail
        go_ret
        exact ⟨rfl, hG⟩
set_option maxRecDepth 100000 in
set_option maxHeartbeats 4000000 in
theorem gatesFault_c (v : Value) (l : List Ga) (w : World) (hr : RdR w 3 gaC v l) (hl : GaOk l) (hn : l.length ≤ 1000000) :
    Calls Tryd.prog 57 #[v] w fun e w' => e = .returned (.int .i64 (gaE l)) ∧ G w w' none := by
  have HR := Lib.hid hr
  obtain ⟨a, cap, rfl, hcap, hm⟩ := RdR.form hr
  clear hr
  obtain ⟨E, hE⟩ : ∃ E, gaE l = E := ⟨_, rfl⟩
  have HEE := Lib.hid hE
  rw [hE]
  clear hE
  by_cases h30 : 200 < l.length
  · obtain rfl : E = 2 := by rw [← HEE.out]; simp [gaE, h30]
    go_enter Tryd.func57, Tryd.ntmps57
    go_wp2_with fail
    go_ret
    exact ⟨rfl, G.refl _ _⟩
  · have H := Lib.hid (show E = gaErr ⟨#[]⟩ l by rw [← HEE.out]; simp [gaE, h30])
    go_enter Tryd.func57, Tryd.ntmps57
    go_wp2_with fail
    go_loopw [3, 11] (GaRel w l) (fun _ i _ => l.length - (intOf i).toNat)
    case atStart => exact ⟨0, ⟨#[]⟩, by omega, rfl, rfl, rfl, G.refl _ _⟩
    case round =>
      obtain ⟨k, b, hkl, rfl, rfl, heq, hG⟩ := hrel
      have HE := Lib.hid heq
      clear heq
      by_cases hk : k < l.length
      · obtain ⟨⟨h, y, c⟩, hp⟩ : ∃ p, l[k]? = some p := ⟨_, List.getElem?_eq_getElem hk⟩
        have hdrop : l.drop k = (h, y, c) :: l.drop (k + 1) := by rw [List.drop_eq_getElem_cons hk, ← (List.getElem?_eq_some_iff.1 hp).2]
        have hs1 := hl _ (List.mem_of_getElem? hp)
        obtain ⟨hs1, hs2⟩ := hs1
        dsimp only at hs1 hs2
        unfold Small at hs1 hs2
        obtain ⟨bb, bo, rfl, hbb, _⟩ := RdR.elem gaC_sz HR.out hG hp
        have HW := Lib.hid (gaRow HR.out hG hp)
        have HS : Hid (gaErr b (l.drop k) = if keyB h = false then 5 else if keyB y = false then 5 else if leB h b = true then 7 else if inB c (-1440) 1440 = false then 1 else gaErr h (l.drop (k + 1))) := Lib.hid (by rw [hdrop]; rfl)
        have HK := Lib.hid hk
        have hB5 : Bk (wr.alloc (.cells #[.string h, .string y, .int .i64 c] 88)) wr.heap.size 88 #[.string h, .string y, .int .i64 c] := Bk.new wr 88 _
        have hG5 : G w (wr.alloc (.cells #[.string h, .string y, .int .i64 c] 88)) none := hG.alloc (.cells (gaC (h, y, c)) 88)
        clear hdrop hp hG
        go_upto_region 7 with (refine wpList_load_at rfl 88 _ rfl ⟨bb, bo + k * 3, none⟩ rfl #[.string h, .string y, .int .i64 c] _ HW.out Tryd.underlying88 rfl (ga_info (h, y, c)) ?_)
        clear HW
        generalize wr.alloc (.cells #[.string h, .string y, .int .i64 c] 88) = w5 at hB5 hG5 ⊢
        generalize wr.heap.size = g at hB5 ⊢
        have c0 : w5.cell? ⟨g, 0, none⟩ = some (.string h) := hB5.cell 0
        have c1 : w5.cell? ⟨g, 1, none⟩ = some (.string y) := hB5.cell 1
        have c2 : w5.cell? ⟨g, 2, none⟩ = some (.int .i64 c) := hB5.cell 2
        go_wp2_with fail
        refine (rkey_c _ _ hs1).mono ?_; rintro e w6 ⟨rfl, hGk⟩
        have hB6 := hB5.quiet hGk
        have hG6 := hG5.trans hGk
        clear hGk c0 c1 c2 hB5 hG5
        have c0 : w6.cell? ⟨g, 0, none⟩ = some (.string h) := hB6.cell 0
        have c1 : w6.cell? ⟨g, 1, none⟩ = some (.string y) := hB6.cell 1
        have c2 : w6.cell? ⟨g, 2, none⟩ = some (.int .i64 c) := hB6.cell 2
        cases k0 : keyB h with
        | false =>
          obtain rfl : E = 5 := by rw [H.out, HE.out, HS.out, if_pos k0]
          clear k0
          go_wp2_with fail
          go_ret
          exact ⟨rfl, hG6⟩
        | true =>
          have K0 := Lib.hid k0
          clear k0
          go_wp2_with fail
          refine (rkey_c _ _ hs2).mono ?_; rintro e w7 ⟨rfl, hGk⟩
          have hB7 := hB6.quiet hGk
          have hG7 := hG6.trans hGk
          clear hGk c0 c1 c2 hB6 hG6
          have c0 : w7.cell? ⟨g, 0, none⟩ = some (.string h) := hB7.cell 0
          have c1 : w7.cell? ⟨g, 1, none⟩ = some (.string y) := hB7.cell 1
          have c2 : w7.cell? ⟨g, 2, none⟩ = some (.int .i64 c) := hB7.cell 2
          cases k1 : keyB y with
          | false =>
            obtain rfl : E = 5 := by rw [H.out, HE.out, HS.out, if_neg (by simp [K0.out]), if_pos k1]
            clear k1
            go_wp2_with fail
            go_ret
            exact ⟨rfl, hG7⟩
          | true =>
            have K1 := Lib.hid k1
            clear k1
            cases hle : leB h b with
            | true =>
              obtain rfl : E = 7 := by rw [H.out, HE.out, HS.out, if_neg (by simp [K0.out]), if_neg (by simp [K1.out]), if_pos hle]
              unfold leB at hle
              go_wp2_with fail
              go_ret
              exact ⟨rfl, hG7⟩
            | false =>
              have HL := Lib.hid hle
              unfold leB at hle
              go_wp2_with fail
              refine (in2_c c (-1440) 1440 _).mono ?_; rintro e w' ⟨rfl, rfl⟩
              cases kc : inB c (-1440) 1440 with
              | false =>
                obtain rfl : E = 1 := by rw [H.out, HE.out, HS.out, if_neg (by simp [K0.out]), if_neg (by simp [K1.out]), if_neg (by simp [HL.out]), if_pos kc]
                clear kc
                go_wp2_with fail
                go_ret
                exact ⟨rfl, hG7⟩
              | true =>
                have HF : Hid (gaErr ⟨#[]⟩ l = gaErr h (l.drop (k + 1))) := Lib.hid (by rw [HE.out, HS.out, if_neg (by simp [K0.out]), if_neg (by simp [K1.out]), if_neg (by simp [HL.out]), if_neg (by simp [kc])])
                clear kc
                go_wp2_with fail
                go_roundw
                case rel => exact ⟨k + 1, h, by omega, by go_num, rfl, HF.out, hG7⟩
                case measure => have := HK.out; simp [intOf]; omega
      · obtain rfl : k = l.length := by omega
        obtain rfl : E = 0 := by rw [H.out, HE.out, List.drop_length]; rfl
        go_wp2_with fail
        go_ret
        exact ⟨rfl, hG⟩
/-! ### The map -/
def gaS : List Ga → ByteArray → Option Ga
  | [], _ => none
  | p :: r, s => match gaS r s with | some u => some u | none => if s = p.1 then some p else none
def gaF (f : Fn) : List Ga → Fn
  | [] => f
  | p :: r => gaF (fput f p.1 (.agg (gaC p))) r
def gaN (c : Nat) (f : Fn) : List Ga → Nat
  | [] => c
  | p :: r => gaN (cput c f p.1) (fput f p.1 (.agg (gaC p))) r
theorem gaS_cons (p : Ga) (r : List Ga) (s : ByteArray) : gaS (p :: r) s = match gaS r s with | some u => some u | none => if s = p.1 then some p else none := rfl
theorem gaF_eq (f : Fn) (l : List Ga) (s : ByteArray) : gaF f l s = match gaS l s with | some u => some (.agg (gaC u)) | none => f s := by
  induction l generalizing f with
  | nil => rfl
  | cons p r ih =>
    show gaF (fput f p.1 (.agg (gaC p))) r s = _
    rw [ih, gaS_cons]
    cases h : gaS r s with
    | some u => rfl
    | none =>
      simp only [fput]
      by_cases e : s = p.1
      · simp [e]
      · simp [e]
theorem gaF_at (l : List Ga) (s : ByteArray) : gaF eF l s = (gaS l s).map (fun u => .agg (gaC u)) := by
  rw [gaF_eq]
  unfold eF
  cases gaS l s <;> rfl
theorem gaN_le (c : Nat) (f : Fn) (l : List Ga) : gaN c f l ≤ c + l.length := by
  induction l generalizing c f with
  | nil => simp [gaN]
  | cons p r ih =>
    have h1 := ih (cput c f p.1) (fput f p.1 (.agg (gaC p)))
    have h2 : cput c f p.1 ≤ c + 1 := by unfold cput; split <;> omega
    show gaN (cput c f p.1) (fput f p.1 (.agg (gaC p))) r ≤ _
    simp only [List.length_cons]
    omega
theorem gaF_snoc (f : Fn) (l : List Ga) (p : Ga) : gaF f (l ++ [p]) = fput (gaF f l) p.1 (.agg (gaC p)) := by
  induction l generalizing f with
  | nil => rfl
  | cons q r ih => exact ih _
theorem gaN_snoc (c : Nat) (f : Fn) (l : List Ga) (p : Ga) : gaN c f (l ++ [p]) = cput (gaN c f l) (gaF f l) p.1 := by
  induction l generalizing c f with
  | nil => rfl
  | cons q r ih => exact ih _ _
theorem gaS_mem {l : List Ga} {s : ByteArray} {u : Ga} (h : gaS l s = some u) : u ∈ l ∧ u.1 = s := by
  induction l with
  | nil => cases h
  | cons p r ih =>
    rw [gaS_cons] at h
    cases hr : gaS r s with
    | some v =>
      rw [hr] at h
      have := ih (by rw [hr]; exact h)
      exact ⟨List.mem_cons_of_mem _ this.1, this.2⟩
    | none =>
      rw [hr] at h
      dsimp only at h
      split at h
      · cases h
        rename_i e
        exact ⟨List.mem_cons_self .., e.symm⟩
      · cases h
def clk (l : List Ga) (s : ByteArray) : Int := match gaS l s with | some u => u.2.2 | none => 0
abbrev MapG (w : World) (b c : Nat) (f : Fn) : Prop := OwnM Tryd.prog 9 w b c f
theorem zg_run (w : World) : (zeroValue 88).run Tryd.prog w = .ok (.agg #[.string ⟨#[]⟩, .string ⟨#[]⟩, .int .i64 0]) w := by kernel_rfl
def GtRel (w : World) (l : List Ga) (g : Nat) (i : Value) (wr : World) : Prop :=
  ∃ k : Nat, k ≤ l.length ∧ i = .int .i64 k ∧ MapG wr g (gaN 0 eF (l.take k)) (gaF eF (l.take k)) ∧ G w wr none
theorem take_snk {α : Type} {l : List α} {k : Nat} {x : α} (h : l[k]? = some x) : l.take (k + 1) = l.take k ++ [x] := by
  rw [List.take_add_one, h]; rfl
set_option maxRecDepth 100000 in
set_option maxHeartbeats 4000000 in
theorem gatesOf_c (v : Value) (l : List Ga) (w : World) (hr : RdR w 3 gaC v l) (hl : GaOk l) (hn : l.length ≤ 1000) :
    Calls Tryd.prog 86 #[v] w fun e w' => ∃ b : Nat, e = .returned (.map (some b)) ∧ w.heap.size ≤ b ∧ MapG w' b (gaN 0 eF l) (gaF eF l) ∧ G w w' none := by
  have HR := Lib.hid hr
  obtain ⟨a, cap, rfl, hcap, hm⟩ := RdR.form hr
  clear hr
  have hmm : ∀ (n : Nat) (w : World), (Instr.makeMap 124 (some (.int .i64 (n : Int)))).run Tryd.prog w = .ok (.map (some w.heap.size)) (w.alloc (.map #[] 0)) := fun _ _ => rfl
  go_enter Tryd.func86, Tryd.ntmps86
  go_wp2_with fail
  go_loopw [11] (GtRel w l w.heap.size) (fun i _ => l.length - (intOf i).toNat)
  case atStart => exact ⟨0, by omega, rfl, OwnM.made _ _ _ rfl, (G.refl _ _).alloc _⟩
  case round =>
    obtain ⟨k, hkl, rfl, hM, hG⟩ := hrel
    by_cases hk : k < l.length
    · obtain ⟨⟨h, y, c⟩, hp⟩ : ∃ p, l[k]? = some p := ⟨_, List.getElem?_eq_getElem hk⟩
      obtain ⟨hs1, -⟩ := hl _ (List.mem_of_getElem? hp)
      dsimp only at hs1
      unfold Small at hs1
      obtain ⟨bb, bo, rfl, hbb, _⟩ := RdR.elem gaC_sz HR.out hG hp
      have HW := Lib.hid (gaRow HR.out hG hp)
      have hcc := gaN_le 0 eF (l.take k)
      have hct : (l.take k).length ≤ k := List.length_take_le _ _
      have HT : Hid (cput (gaN 0 eF (l.take k)) (gaF eF (l.take k)) h = gaN 0 eF (l.take (k + 1)) ∧ fput (gaF eF (l.take k)) h (.agg #[.string h, .string y, .int .i64 c]) = gaF eF (l.take (k + 1))) := Lib.hid (by rw [take_snk hp, gaN_snoc, gaF_snoc]; exact ⟨rfl, rfl⟩)
      have hclt : gaN 0 eF (l.take k) < maxLen := by unfold maxLen; omega
      have HK := Lib.hid hk
      have hgl := hM.lt
      have hB5 : Bk (wr.alloc (.cells #[.string h, .string y, .int .i64 c] 88)) wr.heap.size 88 #[.string h, .string y, .int .i64 c] := Bk.new wr 88 _
      have hG5 : G w (wr.alloc (.cells #[.string h, .string y, .int .i64 c] 88)) none := hG.alloc (.cells (gaC (h, y, c)) 88)
      have hM5 := hM.alloc (.cells #[.string h, .string y, .int .i64 c] 88)
      clear hp hcc hct hG hM
      go_upto_region 5 with (refine wpList_load_at rfl 88 _ rfl ⟨bb, bo + k * 3, none⟩ rfl #[.string h, .string y, .int .i64 c] _ HW.out Tryd.underlying88 rfl (ga_info (h, y, c)) ?_)
      clear HW
      generalize wr.alloc (.cells #[.string h, .string y, .int .i64 c] 88) = w5 at hB5 hG5 hM5 ⊢
      generalize wr.heap.size = g at hB5 hgl ⊢
      have c0 : w5.cell? ⟨g, 0, none⟩ = some (.string h) := hB5.cell 0
      go_wp2_with (first | (refine wpList_load_row rfl 88 _ rfl g rfl 88 #[.string h, .string y, .int .i64 c] (0, 0) _ hB5 Tryd.underlying88 rfl (ga_info (h, y, c)) ?_) | (at_mapUpdate; refine wpM_store rfl _ _ _ 124 rfl 9 88 Tryd.underlying9 Tryd.underlying124 w.heap.size _ _ rfl hM5 hclt h rfl hs1 (.agg #[.string h, .string y, .int .i64 c]) rfl ?_; intro w6 hM6 hG6))
      rw [HT.out.1, HT.out.2] at hM6
      refine ⟨⟨k + 1, by have := HK.out; omega, by go_num, hM6, ?_⟩, by have := HK.out; simp only [intOf]; omega⟩
      exact hG5.other hG6 (fun j e => .inl (by obtain rfl := Option.some.inj e; exact Nat.le_refl _))
    · obtain rfl : k = l.length := by omega
      rw [List.take_length] at hM
      go_wp2_with fail
      go_ret
      exact ⟨_, rfl, Nat.le_refl _, hM, hG⟩
set_option maxRecDepth 100000 in
set_option maxHeartbeats 4000000 in
theorem trueTime_c (b c : Nat) (l : List Ga) (x : Pa) (w : World) (hM : MapG w b c (gaF eF l)) (hs : Small x.2.1) (hx : -1000000000 ≤ x.1 ∧ x.1 ≤ 1000000000) (hl : ∀ p ∈ l, -1440 ≤ p.2.2 ∧ p.2.2 ≤ 1440) :
    Calls Tryd.prog 88 #[.map (some b), .agg (paC x)] w fun e w' => e = .returned (.int .i64 (x.1 - clk l x.2.1)) ∧ G w w' none := by
  obtain ⟨t, g, y, z⟩ := x
  dsimp only at hs hx ⊢
  unfold Small at hs
  obtain ⟨R, hR⟩ : ∃ R, t - clk l g = R := ⟨_, rfl⟩
  have HR := Lib.hid hR
  rw [hR]
  clear hR
  have hB : Bk (w.alloc (.cells #[.int .i64 t, .string g, .string y, .int .i64 z] 90)) w.heap.size 90 #[.int .i64 t, .string g, .string y, .int .i64 z] := Bk.new _ _ _
  have hG := (G.refl w none).alloc (.cells #[.int .i64 t, .string g, .string y, .int .i64 z] 90)
  have hM1 := hM.alloc (.cells #[.int .i64 t, .string g, .string y, .int .i64 z] 90)
  have hF := gaF_at l g
  clear hM
  show Calls Tryd.prog 88 #[.map (some b), .agg #[.int .i64 t, .string g, .string y, .int .i64 z]] w _
  go_enter Tryd.func88, Tryd.ntmps88
  go_upto_region 1 with fail
  generalize w.alloc (.cells #[.int .i64 t, .string g, .string y, .int .i64 z] 90) = w1 at hB hG hM1 ⊢
  generalize w.heap.size = gp at hB ⊢
  have c0 : w1.cell? ⟨gp, 0, none⟩ = some (.int .i64 t) := hB.cell 0
  have c1 : w1.cell? ⟨gp, 1, none⟩ = some (.string g) := hB.cell 1
  generalize gaF eF l = f at hM1 hF ⊢
  have hfd : ∀ (x1 x2 : ByteArray) (x3 : Int) (w : World), (Instr.field 88 (.agg #[.string x1, .string x2, .int .i64 x3]) 2).run Tryd.prog w = .ok (.int .i64 x3) w := fun _ _ _ _ => by kernel_rfl
  cases hg : gaS l g with
  | none =>
    have hfs : f g = none := by rw [hF, hg]; rfl
    obtain rfl : R = t := by rw [← HR.out, clk, hg]; simp
    have hw : IntKind.i64.wrap R = R := by rw [IntKind.wrap_i64]; omega
    clear hg hF
    go_wp2_with (at_lookup; refine wpM_look rfl _ _ 124 rfl 9 88 Tryd.underlying9 Tryd.underlying124 (.agg #[.string ⟨#[]⟩, .string ⟨#[]⟩, .int .i64 0]) (zg_run _) b c f rfl hM1 g rfl hs ?_; rw [hfs])
    go_ret
    exact ⟨rfl, hG⟩
  | some u =>
    obtain ⟨k, a, q⟩ := u
    have hb := hl _ (gaS_mem hg).1
    dsimp only at hb
    have hfs : f g = some (.agg #[.string k, .string a, .int .i64 q]) := by rw [hF, hg]; rfl
    obtain rfl : R = t - q := by rw [← HR.out, clk, hg]
    have hw : IntKind.i64.wrap (t - q) = t - q := by rw [IntKind.wrap_i64]; omega
    clear hg hF
    go_wp2_with (at_lookup; refine wpM_look rfl _ _ 124 rfl 9 88 Tryd.underlying9 Tryd.underlying124 (.agg #[.string ⟨#[]⟩, .string ⟨#[]⟩, .int .i64 0]) (zg_run _) b c f rfl hM1 g rfl hs ?_; rw [hfs])
    go_ret
    exact ⟨rfl, hG⟩
end Go.Proofs.YtamoefnpfkcigaaDoor

/- Bookings: checkForm; the reference's BookingForm. -/
namespace Go.Proofs.YtamoefnpfkcigaaDoor
open Go.RowKit

/-- A booking: key, class, from, to, made, percent. -/
abbrev Bo := ByteArray × ByteArray × Int × Int × Int × Int
def boC (x : Bo) : Array Value := #[.string x.1, .string x.2.1, .int .i64 x.2.2.1, .int .i64 x.2.2.2.1, .int .i64 x.2.2.2.2.1, .int .i64 x.2.2.2.2.2]
theorem boC_sz (x : Bo) : (boC x).size = 6 := rfl
def boB (x : Bo) : Prop := Small x.1 ∧ Small x.2.1 ∧ bnd x.2.2.1 ∧ bnd x.2.2.2.1 ∧ bnd x.2.2.2.2.1 ∧ bnd x.2.2.2.2.2
def BoOk (l : List Bo) : Prop := ∀ x ∈ l, boB x
def boT (a z m p : Int) : Bool := timB a z && (inB m 0 a && inB p 0 100)
def boErr (b : ByteArray) : List Bo → Int
  | [] => 0
  | x :: r => if keyB x.1 = false then 5 else if keyB x.2.1 = false then 5 else if leB x.1 b = true then 7 else if boT x.2.2.1 x.2.2.2.1 x.2.2.2.2.1 x.2.2.2.2.2 = false then 1 else boErr x.1 r
def boE (l : List Bo) : Int := if 500 < l.length then 2 else boErr ⟨#[]⟩ l
def BoRel (w : World) (l : List Bo) (v i : Value) (wr : World) : Prop :=
  ∃ (k : Nat) (b : ByteArray), k ≤ l.length ∧ i = .int .i64 k ∧ v = .string b ∧ boErr ⟨#[]⟩ l = boErr b (l.drop k) ∧ G w wr none
theorem boRow {W w : World} {bb bo n cap : Nat} {l : List Bo} (h : RdR W 6 boC (.slice (some ⟨bb, bo, none⟩) n cap) l) (hG : G W w none) {k : Nat} {p : Bo} (hp : l[k]? = some p) :
    ∀ j v, (boC p).toList[j]? = some v → w.cell? ((⟨bb, bo + k * 6, none⟩ : Addr).add j) = some v := fun j v hv => by
  rw [add_at]
  exact RdR.cell boC_sz h hG hp j v hv
theorem boTime {w : World} {g : Nat} {T : TypeId} {p : Bo} (h : Bk w g T (boC p)) : ∀ j v, (#[Value.int .i64 p.2.2.1, .int .i64 p.2.2.2.1] : Array Value).toList[j]? = some v → w.cell? ((⟨g, 2, none⟩ : Addr).add j) = some v := fun j v hv => by
  rw [add_at, h.cell]
  match j, hv with
  | 0, hv => exact hv
  | 1, hv => exact hv
  | n + 2, hv => simp at hv
end Go.Proofs.YtamoefnpfkcigaaDoor

/- Charges: their checks. Written by genchr.py. -/
namespace Go.Proofs.YtamoefnpfkcigaaDoor
open Go.RowKit

/-- A charge: hire, vehicle, passage, cents. -/
abbrev Cg := ByteArray × ByteArray × Int × Int
def cgC (x : Cg) : Array Value := #[.string x.1, .string x.2.1, .int .i64 x.2.2.1, .int .i64 x.2.2.2]
theorem cgC_sz (x : Cg) : (cgC x).size = 4 := rfl
theorem cg_info (x : Cg) : (Tryd.prog.info? 108).map (·.size) = some (cgC x).size := (by kernel_rfl : (Tryd.prog.info? 108).map (·.size) = some 4)
def CgOk (l : List Cg) : Prop := ∀ x ∈ l, Small x.1 ∧ Small x.2.1
def cgErr (b : Int) : List Cg → Int
  | [] => 0
  | x :: r => if kn x.1 = false then 5 else if kn x.2.1 = false then 5 else if x.2.2.1 < 0 then 1 else if x.2.2.1 ≤ b then 7 else if inB x.2.2.2 0 1000000 = false then 1 else cgErr x.2.2.1 r
def cgE (l : List Cg) : Int := if 1000 < l.length then 2 else cgErr (-1) l
def cgB (l : List Cg) : Nat → Int
  | 0 => -1
  | m + 1 => match l[m]? with | some x => x.2.2.1 | none => -1
theorem cgRow {W w : World} {bb bo n cap : Nat} {l : List Cg} (h : RdR W 4 cgC (.slice (some ⟨bb, bo, none⟩) n cap) l) (hG : G W w none) {k : Nat} {p : Cg} (hp : l[k]? = some p) :
    ∀ j v, (cgC p).toList[j]? = some v → w.cell? ((⟨bb, bo + k * 4, none⟩ : Addr).add j) = some v := fun j v hv => by
  rw [add_at]
  exact RdR.cell cgC_sz h hG hp j v hv
def CgRel (w : World) (l : List Cg) (v i : Value) (wr : World) : Prop :=
  ∃ (k : Nat) (b : Int), k ≤ l.length ∧ i = .int .i64 k ∧ v = .int .i64 b ∧ cgErr (-1) l = cgErr b (l.drop k) ∧ G w wr none
def CgfRel (w : World) (l : List Cg) (i : Value) (wr : World) : Prop :=
  ∃ k : Nat, k ≤ l.length ∧ i = .int .i64 k ∧ cgErr (-1) l = cgErr (cgB l k) (l.drop k) ∧ G w wr none
set_option maxRecDepth 100000 in
set_option maxHeartbeats 4000000 in
theorem checkCharges_c (v : Value) (l : List Cg) (w : World) (hr : RdR w 4 cgC v l) (hl : CgOk l) (hn : l.length ≤ 1000000) :
    Calls Tryd.prog 62 #[v] w fun e w' => e = .returned (.int .i64 (cgE l)) ∧ G w w' none := by
  have HR := Lib.hid hr
  obtain ⟨a, cap, rfl, hcap, hm⟩ := RdR.form hr
  clear hr
  obtain ⟨E, hE⟩ : ∃ E, cgE l = E := ⟨_, rfl⟩
  have HEE := Lib.hid hE
  rw [hE]
  clear hE
  by_cases h30 : 1000 < l.length
  · obtain rfl : E = 2 := by rw [← HEE.out]; simp [cgE, h30]
    go_enter Tryd.func62, Tryd.ntmps62
    go_wp2_with fail
    go_ret
    exact ⟨rfl, G.refl _ _⟩
  · have H := Lib.hid (show E = cgErr (-1) l by rw [← HEE.out]; simp [cgE, h30])
    go_enter Tryd.func62, Tryd.ntmps62
    go_wp2_with fail
    go_loopw [3, 11] (CgRel w l) (fun _ i _ => l.length - (intOf i).toNat)
    case atStart => exact ⟨0, -1, by omega, rfl, rfl, rfl, G.refl _ _⟩
    case round =>
      obtain ⟨k, b, hkl, rfl, rfl, heq, hG⟩ := hrel
      have HE := Lib.hid heq
      clear heq
      by_cases hk : k < l.length
      · obtain ⟨⟨h, y, n, c⟩, hp⟩ : ∃ p, l[k]? = some p := ⟨_, List.getElem?_eq_getElem hk⟩
        have hdrop : l.drop k = (h, y, n, c) :: l.drop (k + 1) := by rw [List.drop_eq_getElem_cons hk, ← (List.getElem?_eq_some_iff.1 hp).2]
        have hs1 := hl _ (List.mem_of_getElem? hp)
        obtain ⟨hs1, hs2⟩ := hs1
        dsimp only at hs1 hs2
        unfold Small at hs1 hs2
        obtain ⟨bb, bo, rfl, hbb, _⟩ := RdR.elem cgC_sz HR.out hG hp
        have HW := Lib.hid (cgRow HR.out hG hp)
        have HP := Lib.hid hp
        have HS : Hid (cgErr b (l.drop k) = if kn h = false then 5 else if kn y = false then 5 else if n < 0 then 1 else if n ≤ b then 7 else if inB c 0 1000000 = false then 1 else cgErr n (l.drop (k + 1))) := Lib.hid (by rw [hdrop]; rfl)
        have hB5 : Bk (wr.alloc (.cells #[.string h, .string y, .int .i64 n, .int .i64 c] 108)) wr.heap.size 108 #[.string h, .string y, .int .i64 n, .int .i64 c] := Bk.new wr 108 _
        have hG5 : G w (wr.alloc (.cells #[.string h, .string y, .int .i64 n, .int .i64 c] 108)) none := hG.alloc (.cells (cgC (h, y, n, c)) 108)
        clear hdrop hp hG
        go_upto_region 7 with (refine wpList_load_at rfl 108 _ rfl ⟨bb, bo + k * 4, none⟩ rfl #[.string h, .string y, .int .i64 n, .int .i64 c] _ HW.out Tryd.underlying108 rfl (cg_info (h, y, n, c)) ?_)
        clear HW
        generalize wr.alloc (.cells #[.string h, .string y, .int .i64 n, .int .i64 c] 108) = w5 at hB5 hG5 ⊢
        generalize wr.heap.size = g at hB5 ⊢
        have c0 : w5.cell? ⟨g, 0, none⟩ = some (.string h) := hB5.cell 0
        have c1 : w5.cell? ⟨g, 1, none⟩ = some (.string y) := hB5.cell 1
        have c2 : w5.cell? ⟨g, 2, none⟩ = some (.int .i64 n) := hB5.cell 2
        have c3 : w5.cell? ⟨g, 3, none⟩ = some (.int .i64 c) := hB5.cell 3
        go_wp2_with fail
        refine (nobody_c h _ hs1).mono ?_; rintro e w' ⟨rfl, rfl⟩
        cases kh : kn h with
        | false =>
          obtain rfl : E = 5 := by rw [H.out, HE.out, HS.out, if_pos kh]
          go_wp2_with fail
          go_ret
          exact ⟨rfl, hG5⟩
        | true =>
          have KH := Lib.hid kh
          clear kh
          go_wp2_with fail
          refine (nobody_c y _ hs2).mono ?_; rintro e w' ⟨rfl, rfl⟩
          cases ky : kn y with
          | false =>
            obtain rfl : E = 5 := by rw [H.out, HE.out, HS.out, if_neg (by simp [KH.out]), if_pos ky]
            go_wp2_with fail
            go_ret
            exact ⟨rfl, hG5⟩
          | true =>
            have KY := Lib.hid ky
            clear ky
            by_cases h0 : n < 0
            · obtain rfl : E = 1 := by rw [H.out, HE.out, HS.out, if_neg (by simp [KH.out]), if_neg (by simp [KY.out]), if_pos h0]
              go_wp2_with fail
              go_ret
              exact ⟨rfl, hG5⟩
            · by_cases h1 : n ≤ b
              · obtain rfl : E = 7 := by rw [H.out, HE.out, HS.out, if_neg (by simp [KH.out]), if_neg (by simp [KY.out]), if_neg (show ¬ n < 0 by omega), if_pos h1]
                go_wp2_with fail
                go_ret
                exact ⟨rfl, hG5⟩
              · go_wp2_with fail
                refine (isRate_c c _).mono ?_; rintro e w' ⟨rfl, rfl⟩
                cases kc : inB c 0 1000000 with
                | false =>
                  obtain rfl : E = 1 := by rw [H.out, HE.out, HS.out, if_neg (by simp [KH.out]), if_neg (by simp [KY.out]), if_neg (show ¬ n < 0 by omega), if_neg (by omega), if_pos kc]
                  go_wp2_with fail
                  go_ret
                  exact ⟨rfl, hG5⟩
                | true =>
                  have HF : Hid (cgErr (-1) l = cgErr n (l.drop (k + 1))) := Lib.hid (by rw [HE.out, HS.out, if_neg (by simp [KH.out]), if_neg (by simp [KY.out]), if_neg (show ¬ n < 0 by omega), if_neg (by omega), if_neg (by simp [kc])])
                  clear kc
                  go_wp2_with fail
                  go_roundw
                  case rel => exact ⟨k + 1, n, by omega, by go_num, rfl, HF.out, hG5⟩
                  case measure => simp [intOf]; omega
      · obtain rfl : k = l.length := by omega
        obtain rfl : E = 0 := by rw [H.out, HE.out, List.drop_length]; rfl
        go_wp2_with fail
        go_ret
        exact ⟨rfl, hG⟩
set_option maxRecDepth 100000 in
set_option maxHeartbeats 4000000 in
theorem chargesFault_c (v : Value) (l : List Cg) (w : World) (hr : RdR w 4 cgC v l) (hl : CgOk l) (hn : l.length ≤ 1000000) :
    Calls Tryd.prog 32 #[v] w fun e w' => e = .returned (.int .i64 (cgE l)) ∧ G w w' none := by
  have HR := Lib.hid hr
  obtain ⟨a, cap, rfl, hcap, hm⟩ := RdR.form hr
  clear hr
  obtain ⟨E, hE⟩ : ∃ E, cgE l = E := ⟨_, rfl⟩
  have HEE := Lib.hid hE
  rw [hE]
  clear hE
  by_cases h30 : 1000 < l.length
  · obtain rfl : E = 2 := by rw [← HEE.out]; simp [cgE, h30]
    go_enter Tryd.func32, Tryd.ntmps32
    go_wp2_with fail
    go_ret
    exact ⟨rfl, G.refl _ _⟩
  · have H := Lib.hid (show E = cgErr (-1) l by rw [← HEE.out]; simp [cgE, h30])
    go_enter Tryd.func32, Tryd.ntmps32
    go_wp2_with fail
    go_loopw [10] (CgfRel w l) (fun i _ => l.length - (intOf i).toNat)
    case atStart => exact ⟨0, by omega, rfl, rfl, G.refl _ _⟩
    case round =>
      obtain ⟨k, hkl, rfl, heq, hG⟩ := hrel
      have HE := Lib.hid heq
      clear heq
      by_cases hk : k < l.length
      · obtain ⟨⟨h, y, n, c⟩, hp⟩ : ∃ p, l[k]? = some p := ⟨_, List.getElem?_eq_getElem hk⟩
        have hdrop : l.drop k = (h, y, n, c) :: l.drop (k + 1) := by rw [List.drop_eq_getElem_cons hk, ← (List.getElem?_eq_some_iff.1 hp).2]
        have hs1 := hl _ (List.mem_of_getElem? hp)
        obtain ⟨hs1, hs2⟩ := hs1
        dsimp only at hs1 hs2
        unfold Small at hs1 hs2
        obtain ⟨bb, bo, rfl, hbb, _⟩ := RdR.elem cgC_sz HR.out hG hp
        have HW := Lib.hid (cgRow HR.out hG hp)
        have HP := Lib.hid hp
        have HS : Hid (cgErr (cgB l k) (l.drop k) = if kn h = false then 5 else if kn y = false then 5 else if n < 0 then 1 else if n ≤ (cgB l k) then 7 else if inB c 0 1000000 = false then 1 else cgErr n (l.drop (k + 1))) := Lib.hid (by rw [hdrop]; rfl)
        have hB5 : Bk (wr.alloc (.cells #[.string h, .string y, .int .i64 n, .int .i64 c] 108)) wr.heap.size 108 #[.string h, .string y, .int .i64 n, .int .i64 c] := Bk.new wr 108 _
        have hG5 : G w (wr.alloc (.cells #[.string h, .string y, .int .i64 n, .int .i64 c] 108)) none := hG.alloc (.cells (cgC (h, y, n, c)) 108)
        clear hdrop hp hG
        go_upto_region 6 with (refine wpList_load_at rfl 108 _ rfl ⟨bb, bo + k * 4, none⟩ rfl #[.string h, .string y, .int .i64 n, .int .i64 c] _ HW.out Tryd.underlying108 rfl (cg_info (h, y, n, c)) ?_)
        clear HW
        generalize wr.alloc (.cells #[.string h, .string y, .int .i64 n, .int .i64 c] 108) = w5 at hB5 hG5 ⊢
        generalize wr.heap.size = g at hB5 ⊢
        have c0 : w5.cell? ⟨g, 0, none⟩ = some (.string h) := hB5.cell 0
        have c1 : w5.cell? ⟨g, 1, none⟩ = some (.string y) := hB5.cell 1
        have c2 : w5.cell? ⟨g, 2, none⟩ = some (.int .i64 n) := hB5.cell 2
        have c3 : w5.cell? ⟨g, 3, none⟩ = some (.int .i64 c) := hB5.cell 3
        by_cases z0 : h = ⟨#[]⟩
        · have KH : Hid (kn h = true) := Lib.hid (by rw [z0]; rfl)
          have hhe : h.toList.isEmpty = true := by rw [z0, ByteArray.toList_eq]; rfl
          clear z0
          by_cases y0 : y = ⟨#[]⟩
          · have KY : Hid (kn y = true) := Lib.hid (by rw [y0]; rfl)
            have hye : y.toList.isEmpty = true := by rw [y0, ByteArray.toList_eq]; rfl
            clear y0
            by_cases h0 : n < 0
            · obtain rfl : E = 1 := by rw [H.out, HE.out, HS.out, if_neg (by simp [KH.out]), if_neg (by simp [KY.out]), if_pos h0]
              go_wp2_with fail
              go_ret
              exact ⟨rfl, hG5⟩
            · cases k with
              | zero =>
                have h1 : ¬ n ≤ (-1 : Int) := by omega
                go_wp2_with fail
                go_quiet (fail)
                have hGq := hG5.drewN nq
                have hBq := hB5.quiet ((G.refl w5 none).drewN nq)
                have e3 : (w5.drewN nq).cell? ⟨g, 3, none⟩ = some (.int .i64 c) := hBq.cell 3
                go_wp2_with fail
                refine (in2_c c 0 1000000 _).mono ?_; rintro e w' ⟨rfl, rfl⟩
                cases kc : inB c 0 1000000 with
                | false =>
                  obtain rfl : E = 1 := by rw [H.out, HE.out, HS.out, if_neg (by simp [KH.out]), if_neg (by simp [KY.out]), if_neg (show ¬ n < 0 by omega), if_neg (show ¬ n ≤ cgB l 0 by simp only [cgB]; omega), if_pos kc]
                  go_wp2_with fail
                  go_ret
                  exact ⟨rfl, hGq⟩
                | true =>
                  have HF : Hid (cgErr (-1) l = cgErr (cgB l (0 + 1)) (l.drop (0 + 1))) := Lib.hid (by rw [HE.out, HS.out, if_neg (by simp [KH.out]), if_neg (by simp [KY.out]), if_neg (show ¬ n < 0 by omega), if_neg (show ¬ n ≤ cgB l 0 by simp only [cgB]; omega), if_neg (by simp [kc]), cgB, HP.out])
                  clear kc
                  go_wp2_with fail
                  go_roundw
                  case rel => exact ⟨0 + 1, by omega, by go_num, HF.out, hGq⟩
                  case measure => simp [intOf]; omega
              | succ m =>
                obtain ⟨⟨h2, y2, n2, c2q⟩, hq⟩ : ∃ q, l[m]? = some q := ⟨_, List.getElem?_eq_getElem (by omega)⟩
                have HA : Hid (cgB l (m + 1) = n2) := Lib.hid (by simp [cgB, hq])
                have d2 := RdR.cell cgC_sz HR.out hG5 hq 2 (.int .i64 n2) rfl
                have hsub : IntKind.i64.wrap (((m + 1 : Nat) : Int) - 1) = (m : Int) := by rw [show ((m + 1 : Nat) : Int) - 1 = (m : Int) by omega]; rw [IntKind.wrap_i64]; omega
                have hsub2 : IntKind.i64.wrap (m : Int) = (m : Int) := by rw [IntKind.wrap_i64]; omega
                have hsub3 : IntKind.i64.wrap ((m : Int) + 1 - 1) = (m : Int) := by rw [IntKind.wrap_i64]; omega
                have hm0 : (0 : Int) ≤ (m : Int) := Int.natCast_nonneg m
                have hml : (m : Int) < (l.length : Int) := by omega
                clear hq
                rw [HA.out] at HS
                by_cases h1 : n ≤ n2
                · obtain rfl : E = 7 := by rw [H.out, HE.out, HA.out, HS.out, if_neg (by simp [KH.out]), if_neg (by simp [KY.out]), if_neg (show ¬ n < 0 by omega), if_pos h1]
                  go_wp2_with fail
                  go_quiet (fail)
                  have hGq := hG5.drewN nq
                  go_wp2_with fail
                  go_ret
                  exact ⟨rfl, hGq⟩
                · go_wp2_with fail
                  go_quiet (fail)
                  have hGq := hG5.drewN nq
                  have hBq := hB5.quiet ((G.refl w5 none).drewN nq)
                  have e3 : (w5.drewN nq).cell? ⟨g, 3, none⟩ = some (.int .i64 c) := hBq.cell 3
                  go_wp2_with fail
                  refine (in2_c c 0 1000000 _).mono ?_; rintro e w' ⟨rfl, rfl⟩
                  cases kc : inB c 0 1000000 with
                  | false =>
                    obtain rfl : E = 1 := by rw [H.out, HE.out, HA.out, HS.out, if_neg (by simp [KH.out]), if_neg (by simp [KY.out]), if_neg (show ¬ n < 0 by omega), if_neg (by omega), if_pos kc]
                    go_wp2_with fail
                    go_ret
                    exact ⟨rfl, hGq⟩
                  | true =>
                    have HF : Hid (cgErr (-1) l = cgErr (cgB l (m + 1 + 1)) (l.drop (m + 1 + 1))) := Lib.hid (by rw [HE.out, HA.out, HS.out, if_neg (by simp [KH.out]), if_neg (by simp [KY.out]), if_neg (show ¬ n < 0 by omega), if_neg (by omega), if_neg (by simp [kc]), cgB, HP.out])
                    clear kc
                    go_wp2_with fail
                    go_roundw
                    case rel => exact ⟨m + 1 + 1, by omega, by go_num, HF.out, hGq⟩
                    case measure => simp [intOf]; omega
          · have hyz := isE_of (s := y) (by rcases Nat.eq_zero_or_pos y.size with q | q; exact absurd (empty_of q) y0; exact q)
            have hyk : kn y = keyB y := by unfold kn; rw [decide_eq_false y0]; rfl
            clear y0
            go_wp2_with fail
            refine (rkey_c _ _ hs2).mono ?_; rintro e w6 ⟨rfl, hGk⟩
            have hB6 := hB5.quiet hGk
            have hG6 := hG5.trans hGk
            clear hGk
            have c06 : w6.cell? ⟨g, 0, none⟩ = some (.string h) := hB6.cell 0
            have c16 : w6.cell? ⟨g, 1, none⟩ = some (.string y) := hB6.cell 1
            have c26 : w6.cell? ⟨g, 2, none⟩ = some (.int .i64 n) := hB6.cell 2
            have c36 : w6.cell? ⟨g, 3, none⟩ = some (.int .i64 c) := hB6.cell 3
            cases ky : keyB y with
            | false =>
              obtain rfl : E = 5 := by rw [H.out, HE.out, HS.out, if_neg (by simp [KH.out]), if_pos (hyk.trans ky)]
              go_wp2_with fail
              go_ret
              exact ⟨rfl, hG6⟩
            | true =>
              have KY := Lib.hid (hyk.trans ky)
              clear ky hyk
              by_cases h0 : n < 0
              · obtain rfl : E = 1 := by rw [H.out, HE.out, HS.out, if_neg (by simp [KH.out]), if_neg (by simp [KY.out]), if_pos h0]
                go_wp2_with fail
                go_ret
                exact ⟨rfl, hG6⟩
              · cases k with
                | zero =>
                  have h1 : ¬ n ≤ (-1 : Int) := by omega
                  go_wp2_with fail
                  go_quiet (fail)
                  have hGq := hG6.drewN nq
                  have hBq := hB6.quiet ((G.refl w6 none).drewN nq)
                  have e3 : (w6.drewN nq).cell? ⟨g, 3, none⟩ = some (.int .i64 c) := hBq.cell 3
                  go_wp2_with fail
                  refine (in2_c c 0 1000000 _).mono ?_; rintro e w' ⟨rfl, rfl⟩
                  cases kc : inB c 0 1000000 with
                  | false =>
                    obtain rfl : E = 1 := by rw [H.out, HE.out, HS.out, if_neg (by simp [KH.out]), if_neg (by simp [KY.out]), if_neg (show ¬ n < 0 by omega), if_neg (show ¬ n ≤ cgB l 0 by simp only [cgB]; omega), if_pos kc]
                    go_wp2_with fail
                    go_ret
                    exact ⟨rfl, hGq⟩
                  | true =>
                    have HF : Hid (cgErr (-1) l = cgErr (cgB l (0 + 1)) (l.drop (0 + 1))) := Lib.hid (by rw [HE.out, HS.out, if_neg (by simp [KH.out]), if_neg (by simp [KY.out]), if_neg (show ¬ n < 0 by omega), if_neg (show ¬ n ≤ cgB l 0 by simp only [cgB]; omega), if_neg (by simp [kc]), cgB, HP.out])
                    clear kc
                    go_wp2_with fail
                    go_roundw
                    case rel => exact ⟨0 + 1, by omega, by go_num, HF.out, hGq⟩
                    case measure => simp [intOf]; omega
                | succ m =>
                  obtain ⟨⟨h2, y2, n2, c2q⟩, hq⟩ : ∃ q, l[m]? = some q := ⟨_, List.getElem?_eq_getElem (by omega)⟩
                  have HA : Hid (cgB l (m + 1) = n2) := Lib.hid (by simp [cgB, hq])
                  have d2 := RdR.cell cgC_sz HR.out hG6 hq 2 (.int .i64 n2) rfl
                  have hsub : IntKind.i64.wrap (((m + 1 : Nat) : Int) - 1) = (m : Int) := by rw [show ((m + 1 : Nat) : Int) - 1 = (m : Int) by omega]; rw [IntKind.wrap_i64]; omega
                  have hsub2 : IntKind.i64.wrap (m : Int) = (m : Int) := by rw [IntKind.wrap_i64]; omega
                  have hsub3 : IntKind.i64.wrap ((m : Int) + 1 - 1) = (m : Int) := by rw [IntKind.wrap_i64]; omega
                  have hm0 : (0 : Int) ≤ (m : Int) := Int.natCast_nonneg m
                  have hml : (m : Int) < (l.length : Int) := by omega
                  clear hq
                  rw [HA.out] at HS
                  by_cases h1 : n ≤ n2
                  · obtain rfl : E = 7 := by rw [H.out, HE.out, HA.out, HS.out, if_neg (by simp [KH.out]), if_neg (by simp [KY.out]), if_neg (show ¬ n < 0 by omega), if_pos h1]
                    go_wp2_with fail
                    go_quiet (fail)
                    have hGq := hG6.drewN nq
                    go_wp2_with fail
                    go_ret
                    exact ⟨rfl, hGq⟩
                  · go_wp2_with fail
                    go_quiet (fail)
                    have hGq := hG6.drewN nq
                    have hBq := hB6.quiet ((G.refl w6 none).drewN nq)
                    have e3 : (w6.drewN nq).cell? ⟨g, 3, none⟩ = some (.int .i64 c) := hBq.cell 3
                    go_wp2_with fail
                    refine (in2_c c 0 1000000 _).mono ?_; rintro e w' ⟨rfl, rfl⟩
                    cases kc : inB c 0 1000000 with
                    | false =>
                      obtain rfl : E = 1 := by rw [H.out, HE.out, HA.out, HS.out, if_neg (by simp [KH.out]), if_neg (by simp [KY.out]), if_neg (show ¬ n < 0 by omega), if_neg (by omega), if_pos kc]
                      go_wp2_with fail
                      go_ret
                      exact ⟨rfl, hGq⟩
                    | true =>
                      have HF : Hid (cgErr (-1) l = cgErr (cgB l (m + 1 + 1)) (l.drop (m + 1 + 1))) := Lib.hid (by rw [HE.out, HA.out, HS.out, if_neg (by simp [KH.out]), if_neg (by simp [KY.out]), if_neg (show ¬ n < 0 by omega), if_neg (by omega), if_neg (by simp [kc]), cgB, HP.out])
                      clear kc
                      go_wp2_with fail
                      go_roundw
                      case rel => exact ⟨m + 1 + 1, by omega, by go_num, HF.out, hGq⟩
                      case measure => simp [intOf]; omega
        · have hhz := isE_of (s := h) (by rcases Nat.eq_zero_or_pos h.size with q | q; exact absurd (empty_of q) z0; exact q)
          have hhk : kn h = keyB h := by unfold kn; rw [decide_eq_false z0]; rfl
          clear z0
          go_wp2_with fail
          refine (rkey_c _ _ hs1).mono ?_; rintro e w6 ⟨rfl, hGk⟩
          have hB6 := hB5.quiet hGk
          have hG6 := hG5.trans hGk
          clear hGk
          have c06 : w6.cell? ⟨g, 0, none⟩ = some (.string h) := hB6.cell 0
          have c16 : w6.cell? ⟨g, 1, none⟩ = some (.string y) := hB6.cell 1
          have c26 : w6.cell? ⟨g, 2, none⟩ = some (.int .i64 n) := hB6.cell 2
          have c36 : w6.cell? ⟨g, 3, none⟩ = some (.int .i64 c) := hB6.cell 3
          cases kh : keyB h with
          | false =>
            obtain rfl : E = 5 := by rw [H.out, HE.out, HS.out, if_pos (hhk.trans kh)]
            go_wp2_with fail
            go_ret
            exact ⟨rfl, hG6⟩
          | true =>
            have KH := Lib.hid (hhk.trans kh)
            clear kh hhk
            by_cases y0 : y = ⟨#[]⟩
            · have KY : Hid (kn y = true) := Lib.hid (by rw [y0]; rfl)
              have hye : y.toList.isEmpty = true := by rw [y0, ByteArray.toList_eq]; rfl
              clear y0
              by_cases h0 : n < 0
              · obtain rfl : E = 1 := by rw [H.out, HE.out, HS.out, if_neg (by simp [KH.out]), if_neg (by simp [KY.out]), if_pos h0]
                go_wp2_with fail
                go_ret
                exact ⟨rfl, hG6⟩
              · cases k with
                | zero =>
                  have h1 : ¬ n ≤ (-1 : Int) := by omega
                  go_wp2_with fail
                  go_quiet (fail)
                  have hGq := hG6.drewN nq
                  have hBq := hB6.quiet ((G.refl w6 none).drewN nq)
                  have e3 : (w6.drewN nq).cell? ⟨g, 3, none⟩ = some (.int .i64 c) := hBq.cell 3
                  go_wp2_with fail
                  refine (in2_c c 0 1000000 _).mono ?_; rintro e w' ⟨rfl, rfl⟩
                  cases kc : inB c 0 1000000 with
                  | false =>
                    obtain rfl : E = 1 := by rw [H.out, HE.out, HS.out, if_neg (by simp [KH.out]), if_neg (by simp [KY.out]), if_neg (show ¬ n < 0 by omega), if_neg (show ¬ n ≤ cgB l 0 by simp only [cgB]; omega), if_pos kc]
                    go_wp2_with fail
                    go_ret
                    exact ⟨rfl, hGq⟩
                  | true =>
                    have HF : Hid (cgErr (-1) l = cgErr (cgB l (0 + 1)) (l.drop (0 + 1))) := Lib.hid (by rw [HE.out, HS.out, if_neg (by simp [KH.out]), if_neg (by simp [KY.out]), if_neg (show ¬ n < 0 by omega), if_neg (show ¬ n ≤ cgB l 0 by simp only [cgB]; omega), if_neg (by simp [kc]), cgB, HP.out])
                    clear kc
                    go_wp2_with fail
                    go_roundw
                    case rel => exact ⟨0 + 1, by omega, by go_num, HF.out, hGq⟩
                    case measure => simp [intOf]; omega
                | succ m =>
                  obtain ⟨⟨h2, y2, n2, c2q⟩, hq⟩ : ∃ q, l[m]? = some q := ⟨_, List.getElem?_eq_getElem (by omega)⟩
                  have HA : Hid (cgB l (m + 1) = n2) := Lib.hid (by simp [cgB, hq])
                  have d2 := RdR.cell cgC_sz HR.out hG6 hq 2 (.int .i64 n2) rfl
                  have hsub : IntKind.i64.wrap (((m + 1 : Nat) : Int) - 1) = (m : Int) := by rw [show ((m + 1 : Nat) : Int) - 1 = (m : Int) by omega]; rw [IntKind.wrap_i64]; omega
                  have hsub2 : IntKind.i64.wrap (m : Int) = (m : Int) := by rw [IntKind.wrap_i64]; omega
                  have hsub3 : IntKind.i64.wrap ((m : Int) + 1 - 1) = (m : Int) := by rw [IntKind.wrap_i64]; omega
                  have hm0 : (0 : Int) ≤ (m : Int) := Int.natCast_nonneg m
                  have hml : (m : Int) < (l.length : Int) := by omega
                  clear hq
                  rw [HA.out] at HS
                  by_cases h1 : n ≤ n2
                  · obtain rfl : E = 7 := by rw [H.out, HE.out, HA.out, HS.out, if_neg (by simp [KH.out]), if_neg (by simp [KY.out]), if_neg (show ¬ n < 0 by omega), if_pos h1]
                    go_wp2_with fail
                    go_quiet (fail)
                    have hGq := hG6.drewN nq
                    go_wp2_with fail
                    go_ret
                    exact ⟨rfl, hGq⟩
                  · go_wp2_with fail
                    go_quiet (fail)
                    have hGq := hG6.drewN nq
                    have hBq := hB6.quiet ((G.refl w6 none).drewN nq)
                    have e3 : (w6.drewN nq).cell? ⟨g, 3, none⟩ = some (.int .i64 c) := hBq.cell 3
                    go_wp2_with fail
                    refine (in2_c c 0 1000000 _).mono ?_; rintro e w' ⟨rfl, rfl⟩
                    cases kc : inB c 0 1000000 with
                    | false =>
                      obtain rfl : E = 1 := by rw [H.out, HE.out, HA.out, HS.out, if_neg (by simp [KH.out]), if_neg (by simp [KY.out]), if_neg (show ¬ n < 0 by omega), if_neg (by omega), if_pos kc]
                      go_wp2_with fail
                      go_ret
                      exact ⟨rfl, hGq⟩
                    | true =>
                      have HF : Hid (cgErr (-1) l = cgErr (cgB l (m + 1 + 1)) (l.drop (m + 1 + 1))) := Lib.hid (by rw [HE.out, HA.out, HS.out, if_neg (by simp [KH.out]), if_neg (by simp [KY.out]), if_neg (show ¬ n < 0 by omega), if_neg (by omega), if_neg (by simp [kc]), cgB, HP.out])
                      clear kc
                      go_wp2_with fail
                      go_roundw
                      case rel => exact ⟨m + 1 + 1, by omega, by go_num, HF.out, hGq⟩
                      case measure => simp [intOf]; omega
            · have hyz := isE_of (s := y) (by rcases Nat.eq_zero_or_pos y.size with q | q; exact absurd (empty_of q) y0; exact q)
              have hyk : kn y = keyB y := by unfold kn; rw [decide_eq_false y0]; rfl
              clear y0
              go_wp2_with fail
              refine (rkey_c _ _ hs2).mono ?_; rintro e w7 ⟨rfl, hGk⟩
              have hB7 := hB6.quiet hGk
              have hG7 := hG6.trans hGk
              clear hGk
              have c07 : w7.cell? ⟨g, 0, none⟩ = some (.string h) := hB7.cell 0
              have c17 : w7.cell? ⟨g, 1, none⟩ = some (.string y) := hB7.cell 1
              have c27 : w7.cell? ⟨g, 2, none⟩ = some (.int .i64 n) := hB7.cell 2
              have c37 : w7.cell? ⟨g, 3, none⟩ = some (.int .i64 c) := hB7.cell 3
              cases ky : keyB y with
              | false =>
                obtain rfl : E = 5 := by rw [H.out, HE.out, HS.out, if_neg (by simp [KH.out]), if_pos (hyk.trans ky)]
                go_wp2_with fail
                go_ret
                exact ⟨rfl, hG7⟩
              | true =>
                have KY := Lib.hid (hyk.trans ky)
                clear ky hyk
                by_cases h0 : n < 0
                · obtain rfl : E = 1 := by rw [H.out, HE.out, HS.out, if_neg (by simp [KH.out]), if_neg (by simp [KY.out]), if_pos h0]
                  go_wp2_with fail
                  go_ret
                  exact ⟨rfl, hG7⟩
                · cases k with
                  | zero =>
                    have h1 : ¬ n ≤ (-1 : Int) := by omega
                    go_wp2_with fail
                    go_quiet (fail)
                    have hGq := hG7.drewN nq
                    have hBq := hB7.quiet ((G.refl w7 none).drewN nq)
                    have e3 : (w7.drewN nq).cell? ⟨g, 3, none⟩ = some (.int .i64 c) := hBq.cell 3
                    go_wp2_with fail
                    refine (in2_c c 0 1000000 _).mono ?_; rintro e w' ⟨rfl, rfl⟩
                    cases kc : inB c 0 1000000 with
                    | false =>
                      obtain rfl : E = 1 := by rw [H.out, HE.out, HS.out, if_neg (by simp [KH.out]), if_neg (by simp [KY.out]), if_neg (show ¬ n < 0 by omega), if_neg (show ¬ n ≤ cgB l 0 by simp only [cgB]; omega), if_pos kc]
                      go_wp2_with fail
                      go_ret
                      exact ⟨rfl, hGq⟩
                    | true =>
                      have HF : Hid (cgErr (-1) l = cgErr (cgB l (0 + 1)) (l.drop (0 + 1))) := Lib.hid (by rw [HE.out, HS.out, if_neg (by simp [KH.out]), if_neg (by simp [KY.out]), if_neg (show ¬ n < 0 by omega), if_neg (show ¬ n ≤ cgB l 0 by simp only [cgB]; omega), if_neg (by simp [kc]), cgB, HP.out])
                      clear kc
                      go_wp2_with fail
                      go_roundw
                      case rel => exact ⟨0 + 1, by omega, by go_num, HF.out, hGq⟩
                      case measure => simp [intOf]; omega
                  | succ m =>
                    obtain ⟨⟨h2, y2, n2, c2q⟩, hq⟩ : ∃ q, l[m]? = some q := ⟨_, List.getElem?_eq_getElem (by omega)⟩
                    have HA : Hid (cgB l (m + 1) = n2) := Lib.hid (by simp [cgB, hq])
                    have d2 := RdR.cell cgC_sz HR.out hG7 hq 2 (.int .i64 n2) rfl
                    have hsub : IntKind.i64.wrap (((m + 1 : Nat) : Int) - 1) = (m : Int) := by rw [show ((m + 1 : Nat) : Int) - 1 = (m : Int) by omega]; rw [IntKind.wrap_i64]; omega
                    have hsub2 : IntKind.i64.wrap (m : Int) = (m : Int) := by rw [IntKind.wrap_i64]; omega
                    have hsub3 : IntKind.i64.wrap ((m : Int) + 1 - 1) = (m : Int) := by rw [IntKind.wrap_i64]; omega
                    have hm0 : (0 : Int) ≤ (m : Int) := Int.natCast_nonneg m
                    have hml : (m : Int) < (l.length : Int) := by omega
                    clear hq
                    rw [HA.out] at HS
                    by_cases h1 : n ≤ n2
                    · obtain rfl : E = 7 := by rw [H.out, HE.out, HA.out, HS.out, if_neg (by simp [KH.out]), if_neg (by simp [KY.out]), if_neg (show ¬ n < 0 by omega), if_pos h1]
                      go_wp2_with fail
                      go_quiet (fail)
                      have hGq := hG7.drewN nq
                      go_wp2_with fail
                      go_ret
                      exact ⟨rfl, hGq⟩
                    · go_wp2_with fail
                      go_quiet (fail)
                      have hGq := hG7.drewN nq
                      have hBq := hB7.quiet ((G.refl w7 none).drewN nq)
                      have e3 : (w7.drewN nq).cell? ⟨g, 3, none⟩ = some (.int .i64 c) := hBq.cell 3
                      go_wp2_with fail
                      refine (in2_c c 0 1000000 _).mono ?_; rintro e w' ⟨rfl, rfl⟩
                      cases kc : inB c 0 1000000 with
                      | false =>
                        obtain rfl : E = 1 := by rw [H.out, HE.out, HA.out, HS.out, if_neg (by simp [KH.out]), if_neg (by simp [KY.out]), if_neg (show ¬ n < 0 by omega), if_neg (by omega), if_pos kc]
                        go_wp2_with fail
                        go_ret
                        exact ⟨rfl, hGq⟩
                      | true =>
                        have HF : Hid (cgErr (-1) l = cgErr (cgB l (m + 1 + 1)) (l.drop (m + 1 + 1))) := Lib.hid (by rw [HE.out, HA.out, HS.out, if_neg (by simp [KH.out]), if_neg (by simp [KY.out]), if_neg (show ¬ n < 0 by omega), if_neg (by omega), if_neg (by simp [kc]), cgB, HP.out])
                        clear kc
                        go_wp2_with fail
                        go_roundw
                        case rel => exact ⟨m + 1 + 1, by omega, by go_num, HF.out, hGq⟩
                        case measure => simp [intOf]; omega
      · obtain rfl : k = l.length := by omega
        obtain rfl : E = 0 := by rw [H.out, HE.out, List.drop_length]; rfl
        go_wp2_with fail
        go_ret
        exact ⟨rfl, hG⟩
end Go.Proofs.YtamoefnpfkcigaaDoor
