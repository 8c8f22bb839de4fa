/- Cmx, Bkf, Tir, Pck, Can, Low, Bkd, Cpt, Odm, Spe, Spm, Mgm, Gat, Chr, Lin, GenO, Spn, Mrk, Spo, Tln. -/
import Derived.Test.YtkpmcakppiinlaaDoorZm2
import Derived.Test.YtkpmcakppiinlaaDoorZm1
import Derived.Laws.ResultCell
import Derived.Deep.RegionHeld3
import Derived.StillTailTactics
import Derived.Laws.StructEq
import Derived.Deep.CutRange
import Derived.Laws.EntriesVeiled
import Derived.BigQuiet
import Derived.Laws.OwnMore
/- slices.CompactFunc at passages: exact: of neighbours that are equal the first is left. Written by gencmx.py. -/
namespace Go.Proofs.YtkpmcakppiinlaaDoor
open Go.RowKit

/-- What CompactFunc leaves behind an element 'p'. -/
def cpE (ef : Pa → Pa → Bool) : Pa → List Pa → List Pa
  | _, [] => []
  | p, x :: r => if ef x p then cpE ef x r else x :: cpE ef x r
def cpL (ef : Pa → Pa → Bool) : List Pa → List Pa
  | [] => []
  | x :: r => x :: cpE ef x r
def cpD (ef : Pa → Pa → Bool) (l : List Pa) (m : Nat) : List Pa :=
  match l[m]? with
  | some p => cpE ef p (l.drop (m + 1))
  | none => []
theorem cpD_step {ef : Pa → Pa → Bool} {l : List Pa} {m : Nat} {x y : Pa} (hx : l[m + 1]? = some x) (hy : l[m]? = some y) :
    cpD ef l m = if ef x y then cpD ef l (m + 1) else x :: cpD ef l (m + 1) := by
  obtain ⟨hlt, e⟩ := List.getElem?_eq_some_iff.1 hx
  unfold cpD
  rw [hx, hy]
  dsimp only
  rw [List.drop_eq_getElem_cons hlt, e]
  rfl
theorem cpD_end {ef : Pa → Pa → Bool} {l : List Pa} {m : Nat} (h : l.length ≤ m + 1) : cpD ef l m = [] := by
  unfold cpD
  rw [List.drop_eq_nil_of_le h]
  cases l[m]? <;> rfl
theorem cpL_start {ef : Pa → Pa → Bool} {l : List Pa} (h : 0 < l.length) : cpL ef l = l.take 1 ++ cpD ef l 0 := by
  cases l with
  | nil => simp at h
  | cons x r => rfl
theorem cpL_short {ef : Pa → Pa → Bool} {l : List Pa} (h : l.length < 2) : cpL ef l = l := by
  match l, h with
  | [], _ => rfl
  | [x], _ => rfl
theorem take_one {α : Type} {l : List α} {k : Nat} {x : α} (hx : l[k]? = some x) : l.take (k + 1) = l.take k ++ [x] := by
  rw [List.take_add_one, hx]; rfl
theorem set_take {α : Type} {l : List α} {k : Nat} (x : α) (hk : k < l.length) : (l.set k x).take (k + 1) = l.take k ++ [x] := by
  rw [take_one (x := x) (by simp [hk]), List.take_set_of_le (Nat.le_refl _)]
def CpO (ef : Pa → Pa → Bool) (w : World) (base : Nat) (v : Value) (l0 : List Pa) (s5 : Value) (wr : World) : Prop :=
  ∃ k : Nat, 1 ≤ k ∧ k ≤ l0.length ∧ s5 = .int .i64 k ∧ OwnPa wr base v l0 ∧ GS (S1 v) w wr ∧ cpL ef l0 = l0.take k ++ cpD ef l0 (k - 1)
def CpJ (ef : Pa → Pa → Bool) (w : World) (base : Nat) (v : Value) (l0 : List Pa) (m N2 : Nat) (s5 s7 : Value) (wr : World) : Prop :=
  ∃ (k k2 : Nat) (l : List Pa), 1 ≤ k2 ∧ k2 ≤ N2 ∧ m + 1 ≤ k ∧ k ≤ m + k2 ∧ s5 = .int .i64 k ∧ s7 = .int .i64 k2 ∧ l.length = l0.length ∧ (∀ z ∈ l, z ∈ l0) ∧ OwnPa wr base v l ∧ GS (S1 v) w wr ∧ cpL ef l0 = l.take k ++ cpD ef l0 (m + k2) ∧ (∀ i, m + k2 ≤ i → l[i]? = l0[i]?)
set_option maxRecDepth 100000 in
set_option maxHeartbeats 8000000 in
theorem compactX_c (F : FuncId) (caps : Array Value) (ef : Pa → Pa → Bool) (v : Value) (l0 : List Pa) (base : Nat) (w : World) (hcf : ∀ (args : Array Value) (w : World), (callFunc F args).run Tryd.prog w = .ok (.enter F args) w)
    (hal : ∀ (x y : Pa) (w' : World), x ∈ l0 → y ∈ l0 → GS (S1 v) w w' → Calls Tryd.prog F (#[.agg (paC x), .agg (paC y)] ++ caps) w' fun e w'' => e = .returned (.bool (ef x y)) ∧ G w' w'' none)
    (hown : OwnPa w base v l0) (hn : l0.length ≤ 1000) :
    Calls Tryd.prog 26 #[v, .func (.func F) #[] caps] w fun e w' => ∃ v', e = .returned v' ∧ OwnPa w' base v' (cpL ef l0) ∧ GS (S1 v) w w' := by
  have HAL := Lib.hid hal
  clear hal
  obtain ⟨a, cap, rfl, hcap, hm⟩ := RdR.form (c := paC) (Rd.of_owns hown)
  by_cases h2 : l0.length < 2
  · have h2i : (l0.length : Int) < 2 := by omega
    go_enter Tryd.func26, Tryd.ntmps26
    go_wp2_with fail
    go_ret
    exact ⟨_, rfl, by rw [cpL_short h2]; exact hown, GS.refl _ _⟩
  have h2i : ¬ (l0.length : Int) < 2 := by omega
  go_enter Tryd.func26, Tryd.ntmps26
  go_wp2_with fail
  go_loopw [5] (CpO ef w base (.slice a l0.length cap) l0) (fun i _ => l0.length - (intOf i).toNat)
  case atStart => exact ⟨1, by omega, by omega, rfl, hown, GS.refl _ _, cpL_start (by omega)⟩
  case round =>
    clear hown
    obtain ⟨k, hk1, hkl, rfl, hown, hGr, hq⟩ := hrel
    have HQ := Lib.hid hq
    clear hq
    by_cases hlt : k < l0.length
    · obtain ⟨m, rfl⟩ : ∃ m, k = m + 1 := ⟨k - 1, by omega⟩
      obtain ⟨⟨x1, x2, x3, x4⟩, hx⟩ : ∃ x, l0[m + 1]? = some x := ⟨_, List.getElem?_eq_getElem hlt⟩
      obtain ⟨⟨y1, y2, y3, y4⟩, hy⟩ : ∃ y, l0[m]? = some y := ⟨_, List.getElem?_eq_getElem (by omega)⟩
      obtain ⟨g, cap', cur, e, hB⟩ := OwnX.form0 hown (by omega)
      cases e
      have HI := Lib.hid hlt
      have HST : Hid (cpD ef l0 m = if ef (x1, x2, x3, x4) (y1, y2, y3, y4) then cpD ef l0 (m + 1) else (x1, x2, x3, x4) :: cpD ef l0 (m + 1)) := Lib.hid (cpD_step hx hy)
      have HTK : Hid (l0.take (m + 1 + 1) = l0.take (m + 1) ++ [(x1, x2, x3, x4)]) := Lib.hid (take_one hx)
      have hcc : ∀ w', G wr w' none → w'.cell? ⟨g, (m + 1) * 4, none⟩ = some (.int .i64 x1) ∧ w'.cell? ⟨g, (m + 1) * 4 + 1, none⟩ = some (.string x2) ∧ w'.cell? ⟨g, (m + 1) * 4 + 2, none⟩ = some (.string x3) ∧ w'.cell? ⟨g, (m + 1) * 4 + 3, none⟩ = some (.int .i64 x4) ∧ w'.cell? ⟨g, m * 4, none⟩ = some (.int .i64 y1) ∧ w'.cell? ⟨g, m * 4 + 1, none⟩ = some (.string y2) ∧ w'.cell? ⟨g, m * 4 + 2, none⟩ = some (.string y3) ∧ w'.cell? ⟨g, m * 4 + 3, none⟩ = some (.int .i64 y4) := fun w' q9 => by
        have ex0 := RdR.cell paC_sz (Rd.of_owns hown) q9 hx 0 (.int .i64 x1) rfl; have ex1 := RdR.cell paC_sz (Rd.of_owns hown) q9 hx 1 (.string x2) rfl; have ex2 := RdR.cell paC_sz (Rd.of_owns hown) q9 hx 2 (.string x3) rfl; have ex3 := RdR.cell paC_sz (Rd.of_owns hown) q9 hx 3 (.int .i64 x4) rfl; have ey0 := RdR.cell paC_sz (Rd.of_owns hown) q9 hy 0 (.int .i64 y1) rfl; have ey1 := RdR.cell paC_sz (Rd.of_owns hown) q9 hy 1 (.string y2) rfl; have ey2 := RdR.cell paC_sz (Rd.of_owns hown) q9 hy 2 (.string y3) rfl; have ey3 := RdR.cell paC_sz (Rd.of_owns hown) q9 hy 3 (.int .i64 y4) rfl
        simp only [Nat.add_zero, Nat.zero_add] at ex0 ex1 ex2 ex3 ey0 ey1 ey2 ey3
        exact ⟨ex0, ex1, ex2, ex3, ey0, ey1, ey2, ey3⟩
      have HG0 := Lib.hid hGr
      have h1 : IntKind.i64.wrap ((m : Int) + 1 - 1) = (m : Int) := by rw [IntKind.wrap_i64]; omega
      have h3 : IntKind.i64.wrap (m : Int) = (m : Int) := by rw [IntKind.wrap_i64]; omega
      have h4 : (m : Int) + 1 < (l0.length : Int) := by omega
      have h5 : (m : Int) < (l0.length : Int) := by omega
      have h6 : (0 : Int) ≤ (m : Int) + 1 := by omega
      have h7 : (0 : Int) ≤ (m : Int) := by omega
      go_upto_region 6 with fail
      have hS := (G.refl wr none).drew
      refine wp_region_held_drew (S := (fun w' : World => w'.cell? ⟨g, (m + 1) * 4, none⟩ = some (.int .i64 x1) ∧ w'.cell? ⟨g, (m + 1) * 4 + 1, none⟩ = some (.string x2) ∧ w'.cell? ⟨g, (m + 1) * 4 + 2, none⟩ = some (.string x3) ∧ w'.cell? ⟨g, (m + 1) * 4 + 3, none⟩ = some (.int .i64 x4) ∧ w'.cell? ⟨g, m * 4, none⟩ = some (.int .i64 y1) ∧ w'.cell? ⟨g, m * 4 + 1, none⟩ = some (.string y2) ∧ w'.cell? ⟨g, m * 4 + 2, none⟩ = some (.string y3) ∧ w'.cell? ⟨g, m * 4 + 3, none⟩ = some (.int .i64 y4))) (by kernel_rfl) ?_ (fun hHeld => ?_)
      · exact hcc _ hS
      refine wpAnyH_take (i := 0) (oi := { dst := some 18, op := Op.move (Operand.tmp 1), type := 56, pos := _, after := #[], guard := none }) (v := ?_) rfl (by kernel_rfl) (by kernel_rfl) (by kernel_rfl) (fun _ _ _ h => h) (Or.inl ⟨by rfl, ?_⟩) (by assumption) ?_
      rotate_left
      · (intro w hSw; obtain ⟨q0, q1, q2, q3, q4, q5, q6, q7⟩ := hSw; (go_simp <;> with_reducible rfl))
      try simp only [Act.put, List.setIfInBounds_toArray, List.set_cons_zero, List.set_cons_succ]
      refine wpAnyH_take (i := 1) (oi := { dst := some 19, op := Op.move (Operand.tmp 0), type := 28, pos := _, after := #[], guard := none }) (v := ?_) rfl (by kernel_rfl) (by kernel_rfl) (by kernel_rfl) (fun _ _ _ h => h) (Or.inl ⟨by rfl, ?_⟩) (by assumption) ?_
      rotate_left
      · (intro w hSw; obtain ⟨q0, q1, q2, q3, q4, q5, q6, q7⟩ := hSw; (go_simp <;> with_reducible rfl))
      try simp only [Act.put, List.setIfInBounds_toArray, List.set_cons_zero, List.set_cons_succ]
      refine wpAnyH_take (i := 2) (oi := { dst := some 20, op := Op.move (Operand.tmp 5), type := 3, pos := _, after := #[], guard := none }) (v := ?_) rfl (by kernel_rfl) (by kernel_rfl) (by kernel_rfl) (fun _ _ _ h => h) (Or.inl ⟨by rfl, ?_⟩) (by assumption) ?_
      rotate_left
      · (intro w hSw; obtain ⟨q0, q1, q2, q3, q4, q5, q6, q7⟩ := hSw; (go_simp <;> with_reducible rfl))
      try simp only [Act.put, List.setIfInBounds_toArray, List.set_cons_zero, List.set_cons_succ]
      refine wpAnyH_take (i := 3) (oi := { dst := some 21, op := Op.indexAddr 28 (Operand.tmp 19) (Operand.tmp 20), type := 0, pos := _, after := #[{ on := 1, ground := Ground.data }, { on := 2, ground := Ground.data }], guard := none }) (v := ?_) rfl (by kernel_rfl) (by kernel_rfl) (by kernel_rfl) (fun _ _ _ h => h) (Or.inl ⟨by rfl, ?_⟩) (by assumption) ?_
      rotate_left
      · (intro w hSw; obtain ⟨q0, q1, q2, q3, q4, q5, q6, q7⟩ := hSw; (go_simp <;> with_reducible rfl))
      try simp only [Act.put, List.setIfInBounds_toArray, List.set_cons_zero, List.set_cons_succ]
      refine wpAnyH_take (i := 4) (oi := { dst := some 22, op := Op.load 34 (Operand.tmp 21), type := 34, pos := _, after := #[{ on := 3, ground := Ground.data }], guard := none }) (v := ?_) rfl (by kernel_rfl) (by kernel_rfl) (by kernel_rfl) (fun _ _ _ h => h) (Or.inl ⟨by rfl, ?_⟩) (by assumption) ?_
      rotate_left
      · (intro w hSw; obtain ⟨q0, q1, q2, q3, q4, q5, q6, q7⟩ := hSw; (go_simp <;> with_reducible rfl))
      try simp only [Act.put, List.setIfInBounds_toArray, List.set_cons_zero, List.set_cons_succ]
      refine wpAnyH_take (i := 5) (oi := { dst := some 23, op := Op.move (Operand.tmp 0), type := 28, pos := _, after := #[], guard := none }) (v := ?_) rfl (by kernel_rfl) (by kernel_rfl) (by kernel_rfl) (fun _ _ _ h => h) (Or.inl ⟨by rfl, ?_⟩) (by assumption) ?_
      rotate_left
      · (intro w hSw; obtain ⟨q0, q1, q2, q3, q4, q5, q6, q7⟩ := hSw; (go_simp <;> with_reducible rfl))
      try simp only [Act.put, List.setIfInBounds_toArray, List.set_cons_zero, List.set_cons_succ]
      refine wpAnyH_take (i := 6) (oi := { dst := some 24, op := Op.move (Operand.tmp 5), type := 3, pos := _, after := #[], guard := none }) (v := ?_) rfl (by kernel_rfl) (by kernel_rfl) (by kernel_rfl) (fun _ _ _ h => h) (Or.inl ⟨by rfl, ?_⟩) (by assumption) ?_
      rotate_left
      · (intro w hSw; obtain ⟨q0, q1, q2, q3, q4, q5, q6, q7⟩ := hSw; (go_simp <;> with_reducible rfl))
      try simp only [Act.put, List.setIfInBounds_toArray, List.set_cons_zero, List.set_cons_succ]
      refine wpAnyH_take (i := 7) (oi := { dst := some 25, op := Op.binOp BinOp.sub 3 (Operand.tmp 24) (Operand.const (Value.int IntKind.i64 1)) 3, type := 3, pos := _, after := #[{ on := 6, ground := Ground.data }], guard := none }) (v := ?_) rfl (by kernel_rfl) (by kernel_rfl) (by kernel_rfl) (fun _ _ _ h => h) (Or.inl ⟨by rfl, ?_⟩) (by assumption) ?_
      rotate_left
      · (intro w hSw; obtain ⟨q0, q1, q2, q3, q4, q5, q6, q7⟩ := hSw; (go_simp <;> with_reducible rfl))
      try simp only [Act.put, List.setIfInBounds_toArray, List.set_cons_zero, List.set_cons_succ]
      refine wpAnyH_take (i := 8) (oi := { dst := some 26, op := Op.indexAddr 28 (Operand.tmp 23) (Operand.tmp 25), type := 0, pos := _, after := #[{ on := 5, ground := Ground.data }, { on := 7, ground := Ground.data }], guard := none }) (v := ?_) rfl (by kernel_rfl) (by kernel_rfl) (by kernel_rfl) (fun _ _ _ h => h) (Or.inl ⟨by rfl, ?_⟩) (by assumption) ?_
      rotate_left
      · (intro w hSw; obtain ⟨q0, q1, q2, q3, q4, q5, q6, q7⟩ := hSw; (go_simp <;> with_reducible rfl))
      try simp only [Act.put, List.setIfInBounds_toArray, List.set_cons_zero, List.set_cons_succ]
      refine wpAnyH_take (i := 9) (oi := { dst := some 27, op := Op.load 34 (Operand.tmp 26), type := 34, pos := _, after := #[{ on := 8, ground := Ground.data }], guard := none }) (v := ?_) rfl (by kernel_rfl) (by kernel_rfl) (by kernel_rfl) (fun _ _ _ h => h) (Or.inl ⟨by rfl, ?_⟩) (by assumption) ?_
      rotate_left
      · (intro w hSw; obtain ⟨q0, q1, q2, q3, q4, q5, q6, q7⟩ := hSw; (go_simp <;> with_reducible rfl))
      try simp only [Act.put, List.setIfInBounds_toArray, List.set_cons_zero, List.set_cons_succ]
      refine wpAnyH_ready (rs := [10]) (by kernel_rfl) (by simp) ?_
      refine AllReadyH.cons (o := { dst := some 28, op := Op.call { callee := Callee.value (Operand.tmp 18), args := #[Operand.tmp 22, Operand.tmp 27], argTypes := #[34, 34] }, type := 4, pos := _, after := #[{ on := 0, ground := Ground.data }, { on := 4, ground := Ground.data }, { on := 9, ground := Ground.data }], guard := none }) rfl (fun K hK => ?_) AllReadyH.nil
      go_simp
      refine (HAL.out (x1, x2, x3, x4) (y1, y2, y3, y4) _ (List.mem_of_getElem? hx) (List.mem_of_getElem? hy) (HG0.out.trans (GS.of_G hS))).mono ?_
      rintro e w4 ⟨rfl, hh⟩
      replace hS := hS.trans hh
      clear hh
      refine hK.out _ _ ?_ (fun hHeld => ?_)
      · exact hcc _ hS
      clear hK K
      try simp only [Act.put, List.setIfInBounds_toArray, List.set_cons_zero, List.set_cons_succ]
      refine wpAnyH_done (by kernel_rfl) ?_ _
      clear hHeld hcc
      have hown4 := OwnX.quiet hown hS
      have hG4 := hGr.trans (GS.of_G hS)
      clear hS hown hGr hB HG0
      cases hef : ef (x1, x2, x3, x4) (y1, y2, y3, y4) with
      | false =>
        have HQ2 : Hid (cpL ef l0 = l0.take (m + 1 + 1) ++ cpD ef l0 (m + 1 + 1 - 1)) := Lib.hid (by
          rw [HQ.out, HTK.out, Nat.add_sub_cancel, Nat.add_sub_cancel, HST.out, hef]
          simp)
        go_wp2_with fail
        go_roundw
        case rel => exact ⟨m + 1 + 1, by omega, by have := HI.out; omega, by go_num, hown4, hG4, HQ2.out⟩
        case measure => have := HI.out; simp [intOf]; omega
      | true =>
        have hck : ¬ cap = m + 1 := by omega
        have HQ2 : Hid (cpL ef l0 = l0.take (m + 1) ++ cpD ef l0 (m + 1)) := Lib.hid (by
          rw [HQ.out, Nat.add_sub_cancel, HST.out, hef]
          rfl)
        obtain ⟨N2, hN2⟩ : ∃ N2, l0.length - (m + 1) = N2 := ⟨_, rfl⟩
        have HN2 : Hid (l0.length = m + 1 + N2) := Lib.hid (by omega)
        have hN1 : 1 ≤ N2 := by omega
        go_upto_region 8 with fail
        try rw [hN2]
        clear hN2 hx hy hef
        go_wp2_with fail
        go_loopw [5, 7] (CpJ ef w base (.slice (some ⟨g, 0, none⟩) l0.length cap) l0 m N2) (fun _ j _ => N2 - (intOf j).toNat)
        case atStart => exact ⟨m + 1, 1, l0, by omega, hN1, by omega, by omega, by go_num, rfl, rfl, fun z hz => hz, hown4, hG4, HQ2.out, fun _ _ => rfl⟩
        case round =>
          clear hown4 hG4
          obtain ⟨k, k2, l, j1, j2, j3, j4, rfl, rfl, hll, hsub, hown, hGr, hq, heq⟩ := hrel
          have HR := Lib.hid hq
          have HE := Lib.hid heq
          clear hq heq
          have HSUB := Lib.hid hsub
          have HLL := Lib.hid hll
          clear hsub
          by_cases hlt2 : k2 < N2
          · obtain ⟨q, rfl⟩ : ∃ q, k2 = q + 1 := ⟨k2 - 1, by omega⟩
            have HJ := Lib.hid (And.intro hlt2 (And.intro j3 j4))
            obtain ⟨⟨x1, x2, x3, x4⟩, hx⟩ : ∃ x, l[m + 1 + (q + 1)]? = some x := ⟨_, List.getElem?_eq_getElem (by have := HN2.out; omega)⟩
            obtain ⟨⟨y1, y2, y3, y4⟩, hy⟩ : ∃ y, l[m + 1 + q]? = some y := ⟨_, List.getElem?_eq_getElem (by have := HN2.out; omega)⟩
            have HST2 : Hid (cpD ef l0 (m + (q + 1)) = if ef (x1, x2, x3, x4) (y1, y2, y3, y4) then cpD ef l0 (m + (q + 1 + 1)) else (x1, x2, x3, x4) :: cpD ef l0 (m + (q + 1 + 1))) := Lib.hid (by
              have e1 := HE.out (m + 1 + (q + 1)) (by omega)
              have e2 := HE.out (m + 1 + q) (by omega)
              rw [hx] at e1
              rw [hy] at e2
              rw [show m + (q + 1) = m + 1 + q by omega, show m + (q + 1 + 1) = m + 1 + q + 1 by omega]
              exact cpD_step (by rw [show m + 1 + q + 1 = m + 1 + (q + 1) by omega]; exact e1.symm) e2.symm)
            have hownl : OwnX 34 4 paC wr base (.slice (some ⟨g, 0, none⟩) l0.length cap) l := hown
            obtain ⟨g', cap', cur, e, hB⟩ := OwnX.form0 hownl (by rw [hll]; have := HN2.out; omega)
            rw [hll] at e
            cases e
            have hcc : ∀ w', G wr w' none → w'.cell? ⟨g, (m + 1) * 4 + (q + 1) * 4, none⟩ = some (.int .i64 x1) ∧ w'.cell? ⟨g, (m + 1) * 4 + (q + 1) * 4 + 1, none⟩ = some (.string x2) ∧ w'.cell? ⟨g, (m + 1) * 4 + (q + 1) * 4 + 2, none⟩ = some (.string x3) ∧ w'.cell? ⟨g, (m + 1) * 4 + (q + 1) * 4 + 3, none⟩ = some (.int .i64 x4) ∧ w'.cell? ⟨g, (m + 1) * 4 + q * 4, none⟩ = some (.int .i64 y1) ∧ w'.cell? ⟨g, (m + 1) * 4 + q * 4 + 1, none⟩ = some (.string y2) ∧ w'.cell? ⟨g, (m + 1) * 4 + q * 4 + 2, none⟩ = some (.string y3) ∧ w'.cell? ⟨g, (m + 1) * 4 + q * 4 + 3, none⟩ = some (.int .i64 y4) := fun w' q9 => by
              have ex0 := RdR.cell paC_sz (Rd.of_owns hown) q9 hx 0 (.int .i64 x1) rfl; have ex1 := RdR.cell paC_sz (Rd.of_owns hown) q9 hx 1 (.string x2) rfl; have ex2 := RdR.cell paC_sz (Rd.of_owns hown) q9 hx 2 (.string x3) rfl; have ex3 := RdR.cell paC_sz (Rd.of_owns hown) q9 hx 3 (.int .i64 x4) rfl; have ey0 := RdR.cell paC_sz (Rd.of_owns hown) q9 hy 0 (.int .i64 y1) rfl; have ey1 := RdR.cell paC_sz (Rd.of_owns hown) q9 hy 1 (.string y2) rfl; have ey2 := RdR.cell paC_sz (Rd.of_owns hown) q9 hy 2 (.string y3) rfl; have ey3 := RdR.cell paC_sz (Rd.of_owns hown) q9 hy 3 (.int .i64 y4) rfl
              simp only [Nat.add_zero, Nat.zero_add, Nat.add_mul (m + 1)] at ex0 ex1 ex2 ex3 ey0 ey1 ey2 ey3
              exact ⟨ex0, ex1, ex2, ex3, ey0, ey1, ey2, ey3⟩
            have HG0 := Lib.hid hGr
            have hq9 : q < 1000 := by have := HN2.out; omega
            have h1 : IntKind.i64.wrap ((q : Int) + 1 - 1) = (q : Int) := by rw [IntKind.wrap_i64]; omega
            have h3 : IntKind.i64.wrap (q : Int) = (q : Int) := by rw [IntKind.wrap_i64]; omega
            have h4 : (q : Int) + 1 < (N2 : Int) := by omega
            have h5 : (q : Int) < (N2 : Int) := by omega
            have h6 : (0 : Int) ≤ (q : Int) + 1 := by omega
            have h7 : (0 : Int) ≤ (q : Int) := by omega
            go_upto_region 11 with fail
            have hS := (G.refl wr none).drew
            refine wp_region_held_drew (S := (fun w' : World => w'.cell? ⟨g, (m + 1) * 4 + (q + 1) * 4, none⟩ = some (.int .i64 x1) ∧ w'.cell? ⟨g, (m + 1) * 4 + (q + 1) * 4 + 1, none⟩ = some (.string x2) ∧ w'.cell? ⟨g, (m + 1) * 4 + (q + 1) * 4 + 2, none⟩ = some (.string x3) ∧ w'.cell? ⟨g, (m + 1) * 4 + (q + 1) * 4 + 3, none⟩ = some (.int .i64 x4) ∧ w'.cell? ⟨g, (m + 1) * 4 + q * 4, none⟩ = some (.int .i64 y1) ∧ w'.cell? ⟨g, (m + 1) * 4 + q * 4 + 1, none⟩ = some (.string y2) ∧ w'.cell? ⟨g, (m + 1) * 4 + q * 4 + 2, none⟩ = some (.string y3) ∧ w'.cell? ⟨g, (m + 1) * 4 + q * 4 + 3, none⟩ = some (.int .i64 y4))) (by kernel_rfl) ?_ (fun hHeld => ?_)
            · exact hcc _ hS
            refine wpAnyH_take (i := 0) (oi := { dst := some 38, op := Op.move (Operand.tmp 1), type := 56, pos := _, after := #[], guard := none }) (v := ?_) rfl (by kernel_rfl) (by kernel_rfl) (by kernel_rfl) (fun _ _ _ h => h) (Or.inl ⟨by rfl, ?_⟩) (by assumption) ?_
            rotate_left
            · (intro w hSw; obtain ⟨q0, q1, q2, q3, q4, q5, q6, q7⟩ := hSw; (go_simp <;> with_reducible rfl))
            try simp only [Act.put, List.setIfInBounds_toArray, List.set_cons_zero, List.set_cons_succ]
            refine wpAnyH_take (i := 1) (oi := { dst := some 39, op := Op.move (Operand.tmp 6), type := 28, pos := _, after := #[], guard := none }) (v := ?_) rfl (by kernel_rfl) (by kernel_rfl) (by kernel_rfl) (fun _ _ _ h => h) (Or.inl ⟨by rfl, ?_⟩) (by assumption) ?_
            rotate_left
            · (intro w hSw; obtain ⟨q0, q1, q2, q3, q4, q5, q6, q7⟩ := hSw; (go_simp <;> with_reducible rfl))
            try simp only [Act.put, List.setIfInBounds_toArray, List.set_cons_zero, List.set_cons_succ]
            refine wpAnyH_take (i := 2) (oi := { dst := some 40, op := Op.move (Operand.tmp 7), type := 3, pos := _, after := #[], guard := none }) (v := ?_) rfl (by kernel_rfl) (by kernel_rfl) (by kernel_rfl) (fun _ _ _ h => h) (Or.inl ⟨by rfl, ?_⟩) (by assumption) ?_
            rotate_left
            · (intro w hSw; obtain ⟨q0, q1, q2, q3, q4, q5, q6, q7⟩ := hSw; (go_simp <;> with_reducible rfl))
            try simp only [Act.put, List.setIfInBounds_toArray, List.set_cons_zero, List.set_cons_succ]
            refine wpAnyH_take (i := 3) (oi := { dst := some 41, op := Op.indexAddr 28 (Operand.tmp 39) (Operand.tmp 40), type := 0, pos := _, after := #[{ on := 1, ground := Ground.data }, { on := 2, ground := Ground.data }], guard := none }) (v := ?_) rfl (by kernel_rfl) (by kernel_rfl) (by kernel_rfl) (fun _ _ _ h => h) (Or.inl ⟨by rfl, ?_⟩) (by assumption) ?_
            rotate_left
            · (intro w hSw; obtain ⟨q0, q1, q2, q3, q4, q5, q6, q7⟩ := hSw; (go_simp <;> with_reducible rfl))
            try simp only [Act.put, List.setIfInBounds_toArray, List.set_cons_zero, List.set_cons_succ]
            refine wpAnyH_take (i := 4) (oi := { dst := some 42, op := Op.load 34 (Operand.tmp 41), type := 34, pos := _, after := #[{ on := 3, ground := Ground.data }], guard := none }) (v := ?_) rfl (by kernel_rfl) (by kernel_rfl) (by kernel_rfl) (fun _ _ _ h => h) (Or.inl ⟨by rfl, ?_⟩) (by assumption) ?_
            rotate_left
            · (intro w hSw; obtain ⟨q0, q1, q2, q3, q4, q5, q6, q7⟩ := hSw; (go_simp <;> with_reducible rfl))
            try simp only [Act.put, List.setIfInBounds_toArray, List.set_cons_zero, List.set_cons_succ]
            refine wpAnyH_take (i := 5) (oi := { dst := some 43, op := Op.move (Operand.tmp 6), type := 28, pos := _, after := #[], guard := none }) (v := ?_) rfl (by kernel_rfl) (by kernel_rfl) (by kernel_rfl) (fun _ _ _ h => h) (Or.inl ⟨by rfl, ?_⟩) (by assumption) ?_
            rotate_left
            · (intro w hSw; obtain ⟨q0, q1, q2, q3, q4, q5, q6, q7⟩ := hSw; (go_simp <;> with_reducible rfl))
            try simp only [Act.put, List.setIfInBounds_toArray, List.set_cons_zero, List.set_cons_succ]
            refine wpAnyH_take (i := 6) (oi := { dst := some 44, op := Op.move (Operand.tmp 7), type := 3, pos := _, after := #[], guard := none }) (v := ?_) rfl (by kernel_rfl) (by kernel_rfl) (by kernel_rfl) (fun _ _ _ h => h) (Or.inl ⟨by rfl, ?_⟩) (by assumption) ?_
            rotate_left
            · (intro w hSw; obtain ⟨q0, q1, q2, q3, q4, q5, q6, q7⟩ := hSw; (go_simp <;> with_reducible rfl))
            try simp only [Act.put, List.setIfInBounds_toArray, List.set_cons_zero, List.set_cons_succ]
            refine wpAnyH_take (i := 7) (oi := { dst := some 45, op := Op.binOp BinOp.sub 3 (Operand.tmp 44) (Operand.const (Value.int IntKind.i64 1)) 3, type := 3, pos := _, after := #[{ on := 6, ground := Ground.data }], guard := none }) (v := ?_) rfl (by kernel_rfl) (by kernel_rfl) (by kernel_rfl) (fun _ _ _ h => h) (Or.inl ⟨by rfl, ?_⟩) (by assumption) ?_
            rotate_left
            · (intro w hSw; obtain ⟨q0, q1, q2, q3, q4, q5, q6, q7⟩ := hSw; (go_simp <;> with_reducible rfl))
            try simp only [Act.put, List.setIfInBounds_toArray, List.set_cons_zero, List.set_cons_succ]
            refine wpAnyH_take (i := 8) (oi := { dst := some 46, op := Op.indexAddr 28 (Operand.tmp 43) (Operand.tmp 45), type := 0, pos := _, after := #[{ on := 5, ground := Ground.data }, { on := 7, ground := Ground.data }], guard := none }) (v := ?_) rfl (by kernel_rfl) (by kernel_rfl) (by kernel_rfl) (fun _ _ _ h => h) (Or.inl ⟨by rfl, ?_⟩) (by assumption) ?_
            rotate_left
            · (intro w hSw; obtain ⟨q0, q1, q2, q3, q4, q5, q6, q7⟩ := hSw; (go_simp <;> with_reducible rfl))
            try simp only [Act.put, List.setIfInBounds_toArray, List.set_cons_zero, List.set_cons_succ]
            refine wpAnyH_take (i := 9) (oi := { dst := some 47, op := Op.load 34 (Operand.tmp 46), type := 34, pos := _, after := #[{ on := 8, ground := Ground.data }], guard := none }) (v := ?_) rfl (by kernel_rfl) (by kernel_rfl) (by kernel_rfl) (fun _ _ _ h => h) (Or.inl ⟨by rfl, ?_⟩) (by assumption) ?_
            rotate_left
            · (intro w hSw; obtain ⟨q0, q1, q2, q3, q4, q5, q6, q7⟩ := hSw; (go_simp <;> with_reducible rfl))
            try simp only [Act.put, List.setIfInBounds_toArray, List.set_cons_zero, List.set_cons_succ]
            refine wpAnyH_ready (rs := [10]) (by kernel_rfl) (by simp) ?_
            refine AllReadyH.cons (o := { dst := some 48, op := Op.call { callee := Callee.value (Operand.tmp 38), args := #[Operand.tmp 42, Operand.tmp 47], argTypes := #[34, 34] }, type := 4, pos := _, after := #[{ on := 0, ground := Ground.data }, { on := 4, ground := Ground.data }, { on := 9, ground := Ground.data }], guard := none }) rfl (fun K hK => ?_) AllReadyH.nil
            go_simp
            refine (HAL.out (x1, x2, x3, x4) (y1, y2, y3, y4) _ (HSUB.out _ (List.mem_of_getElem? hx)) (HSUB.out _ (List.mem_of_getElem? hy)) (HG0.out.trans (GS.of_G hS))).mono ?_
            rintro e w4 ⟨rfl, hh⟩
            replace hS := hS.trans hh
            clear hh
            refine hK.out _ _ ?_ (fun hHeld => ?_)
            · exact hcc _ hS
            clear hK K
            try simp only [Act.put, List.setIfInBounds_toArray, List.set_cons_zero, List.set_cons_succ]
            refine wpAnyH_take (i := 11) (oi := { dst := some 49, op := Op.unOp UnOp.not 4 (Operand.tmp 48), type := 4, pos := _, after := #[{ on := 10, ground := Ground.data }], guard := none }) (v := ?_) rfl (by kernel_rfl) (by kernel_rfl) (by kernel_rfl) (fun _ _ _ h => h) (Or.inl ⟨by rfl, ?_⟩) (by assumption) ?_
            rotate_left
            · (intro w hSw; obtain ⟨q0, q1, q2, q3, q4, q5, q6, q7⟩ := hSw; (go_simp <;> with_reducible rfl))
            try simp only [Act.put, List.setIfInBounds_toArray, List.set_cons_zero, List.set_cons_succ]
            refine wpAnyH_done (by kernel_rfl) ?_ _
            clear hHeld
            have hown4 : OwnPa w4 base (.slice (some ⟨g, 0, none⟩) l0.length cap) l := OwnX.quiet hown hS
            have hG4 := hGr.trans (GS.of_G hS)
            have hcx := hcc _ hS
            clear hcc hown hGr hB HG0 hownl
            cases hef : ef (x1, x2, x3, x4) (y1, y2, y3, y4) with
            | true =>
              have HR2 : Hid (cpL ef l0 = l.take k ++ cpD ef l0 (m + (q + 1 + 1))) := Lib.hid (by
                rw [HR.out, HST2.out, hef]
                rfl)
              have HE2 : Hid (∀ i, m + (q + 1 + 1) ≤ i → l[i]? = l0[i]?) := Lib.hid (fun i hi => HE.out i (by omega))
              clear hcx hS
              go_wp2_with fail
              go_roundw
              case rel => exact ⟨k, q + 1 + 1, l, by omega, by have := HJ.out; omega, by have := HJ.out; omega, by have := HJ.out; omega, by go_num, by go_num, HLL.out, HSUB.out, hown4, hG4, HR2.out, HE2.out⟩
              case measure => have := HJ.out; simp [intOf]; omega
            | false =>
              obtain ⟨m0, m1, m2, m3, -, -, -, -⟩ := hcx
              obtain ⟨⟨z1, z2, z3, z4⟩, hp0⟩ : ∃ p0, l[k]? = some p0 := ⟨_, List.getElem?_eq_getElem (by have := HN2.out; have := HJ.out; omega)⟩
              have HT1 : Hid (w4.there g (k * 4) (#[.int .i64 x1, .string x2, .string x3, .int .i64 x4] : Array Value).size) := Lib.hid (pa_there hown4 HLL.out (by have := HN2.out; have := HJ.out; omega))
              have hA := pa_set hown4 HLL.out hp0 (x1, x2, x3, x4)
              have hG6 := hG4.trans (GS.of_Gs (pa_grow w4 g (k * 4) (x1, x2, x3, x4)) (show S1 _ g from rfl))
              have HSUB3 : Hid (∀ z ∈ l.set k (x1, x2, x3, x4), z ∈ l0) := Lib.hid (fun z hz => by
                rcases List.mem_or_eq_of_mem_set hz with hz | rfl
                · exact HSUB.out z hz
                · exact HSUB.out _ (List.mem_of_getElem? hx))
              have HR2 : Hid (cpL ef l0 = (l.set k (x1, x2, x3, x4)).take (k + 1) ++ cpD ef l0 (m + (q + 1 + 1))) := Lib.hid (by
                rw [HR.out, HST2.out, hef, set_take _ (by rw [HLL.out]; have := HN2.out; have := HJ.out; omega)]
                simp)
              have HE2 : Hid (∀ i, m + (q + 1 + 1) ≤ i → (l.set k (x1, x2, x3, x4))[i]? = l0[i]?) := Lib.hid (fun i hi => by
                rw [List.getElem?_set_ne (by have := HJ.out; omega)]
                exact HE.out i (by omega))
              have h8 : (k : Int) < (l0.length : Int) := by have := HN2.out; have := HJ.out; omega
              have h9 : (0 : Int) ≤ (k : Int) := by omega
              have hk9 : k < 1000 := by omega
              have c0 := RdR.cell paC_sz (Rd.of_owns hown4) (G.refl _ none) hp0 0 (.int .i64 z1) rfl
              have c1 := RdR.cell paC_sz (Rd.of_owns hown4) (G.refl _ none) hp0 1 (.string z2) rfl
              have c2 := RdR.cell paC_sz (Rd.of_owns hown4) (G.refl _ none) hp0 2 (.string z3) rfl
              have c3 := RdR.cell paC_sz (Rd.of_owns hown4) (G.refl _ none) hp0 3 (.int .i64 z4) rfl
              have f0 := (HT1.out 0 (by show 0 < 4; omega)).2
              have f1 := (HT1.out 1 (by show 1 < 4; omega)).2
              have f2 := (HT1.out 2 (by show 2 < 4; omega)).2
              have f3 := (HT1.out 3 (by show 3 < 4; omega)).2
              simp only [Nat.add_zero, Nat.zero_add] at c0 c1 c2 c3 f0
              clear hS hp0 hll hx hy hHeld
              go_wp2_with fail
              go_roundw
              case rel => exact ⟨k + 1, q + 1 + 1, l.set k (x1, x2, x3, x4), by omega, by have := HJ.out; omega, by have := HJ.out; omega, by have := HJ.out; omega, by go_num, by go_num, by rw [List.length_set]; exact HLL.out, HSUB3.out, hA, hG6, HR2.out, HE2.out⟩
              case measure => have := HJ.out; simp [intOf]; omega
          · obtain rfl : k2 = N2 := by omega
            have hkn : k < l0.length := by have := HN2.out; omega
            have hck2 : ¬ cap = k := by omega
            have HF : Hid (cpL ef l0 = l.take k) := Lib.hid (by
              rw [HR.out, cpD_end (by have := HN2.out; omega), List.append_nil])
            have hcl : ∀ j, j < (l0.length - k) * 4 → (wr.cell? ⟨g, k * 4 + j, none⟩).isSome = true ∧ wr.frozen? ⟨g, k * 4 + j, none⟩ = false := fun j hj => by
              have hownl : OwnX 34 4 paC wr base (.slice (some ⟨g, 0, none⟩) l0.length cap) l := hown
              unfold OwnX at hownl
              rw [hll] at hownl
              have h1 := World.ownsRow.cellAt hownl (k * 4 + j) (by omega)
              have hr : (rowL paC l).length = l0.length * 4 := hownl.1
              rw [List.getElem?_eq_getElem (by rw [hr]; omega)] at h1
              exact ⟨by rw [h1]; rfl, World.ownsRow.frozenAt hownl _⟩
            have HC := Lib.hid hcl
            have HP := Lib.hid (fun vs => own_before paC_sz hown hll (k := k) (o := k * 4) (by omega) (Nat.le_refl _) vs)
            have hlt3 : l.length = l0.length := hll
            have HGX := Lib.hid (fun vs => hGr.trans (GS.of_Gs (setCells_grow g vs (k * 4) wr) (show S1 _ g from rfl)))
            have hki : (k : Int) ≤ (l0.length : Int) := by omega
            have hki0 : (0 : Int) ≤ (k : Int) := by omega
            have hkc : (k : Int) ≤ (cap : Int) := by omega
            clear hcl hll hlt3
            obtain ⟨vs, hrun⟩ := run_clear_rows (P := Tryd.prog) (cs := #[.int .i64 0, .string ⟨#[]⟩, .string ⟨#[]⟩, .int .i64 0]) wr 0 Tryd.underlying28 zp_run (pa_oneL (0, ⟨#[]⟩, ⟨#[]⟩, 0)) g (k * 4) (l0.length - k) (cap - k) (by omega) (fun j hj => (HC.out j hj).1) (fun j hj => (HC.out j hj).2)
            have hres := HP.out vs
            have hGz := HGX.out vs
            go_wp2_with fail
            go_ret
            exact ⟨_, rfl, by rw [HF.out]; exact hres, hGz⟩
    · obtain rfl : k = l0.length := by omega
      go_wp2_with fail
      go_ret
      exact ⟨_, rfl, by rw [HQ.out, cpD_end (by omega), List.append_nil, List.take_length]; exact hown, hGr⟩
end Go.Proofs.YtkpmcakppiinlaaDoor

/- Bookings: checkForm; the reference's BookingForm. -/
namespace Go.Proofs.YtkpmcakppiinlaaDoor
open Go.RowKit

/-- A booking: key, class, from, to, made, percent. -/
abbrev Bo := ByteArray × ByteArray × Int × Int × Int × Int
def boC (x : Bo) : Array Value := #[.string x.1, .string x.2.1, .int .i64 x.2.2.1, .int .i64 x.2.2.2.1, .int .i64 x.2.2.2.2.1, .int .i64 x.2.2.2.2.2]
theorem boC_sz (x : Bo) : (boC x).size = 6 := rfl
def boB (x : Bo) : Prop := Small x.1 ∧ Small x.2.1 ∧ bnd x.2.2.1 ∧ bnd x.2.2.2.1 ∧ bnd x.2.2.2.2.1 ∧ bnd x.2.2.2.2.2
def BoOk (l : List Bo) : Prop := ∀ x ∈ l, boB x
def boT (a z m p : Int) : Bool := timB a z && (inB m 0 a && inB p 0 100)
def boErr (b : ByteArray) : List Bo → Int
  | [] => 0
  | x :: r => if keyB x.1 = false then 5 else if keyB x.2.1 = false then 5 else if leB x.1 b = true then 7 else if boT x.2.2.1 x.2.2.2.1 x.2.2.2.2.1 x.2.2.2.2.2 = false then 1 else boErr x.1 r
def boE (l : List Bo) : Int := if 500 < l.length then 2 else boErr ⟨#[]⟩ l
def BoRel (w : World) (l : List Bo) (v i : Value) (wr : World) : Prop :=
  ∃ (k : Nat) (b : ByteArray), k ≤ l.length ∧ i = .int .i64 k ∧ v = .string b ∧ boErr ⟨#[]⟩ l = boErr b (l.drop k) ∧ G w wr none
theorem boRow {W w : World} {bb bo n cap : Nat} {l : List Bo} (h : RdR W 6 boC (.slice (some ⟨bb, bo, none⟩) n cap) l) (hG : G W w none) {k : Nat} {p : Bo} (hp : l[k]? = some p) :
    ∀ j v, (boC p).toList[j]? = some v → w.cell? ((⟨bb, bo + k * 6, none⟩ : Addr).add j) = some v := fun j v hv => by
  rw [add_at]
  exact RdR.cell boC_sz h hG hp j v hv
theorem boTime {w : World} {g : Nat} {T : TypeId} {p : Bo} (h : Bk w g T (boC p)) : ∀ j v, (#[Value.int .i64 p.2.2.1, .int .i64 p.2.2.2.1] : Array Value).toList[j]? = some v → w.cell? ((⟨g, 2, none⟩ : Addr).add j) = some v := fun j v hv => by
  rw [add_at, h.cell]
  match j, hv with
  | 0, hv => exact hv
  | 1, hv => exact hv
  | n + 2, hv => simp at hv
end Go.Proofs.YtkpmcakppiinlaaDoor

/- Tiers: CheckTiers; the reference's TiersFault. -/
namespace Go.Proofs.YtkpmcakppiinlaaDoor
open Go.RowKit

/-- A tier: before, permille. -/
abbrev Ti := Int × Int
def tiC (x : Ti) : Array Value := #[.int .i64 x.1, .int .i64 x.2]
theorem tiC_sz (x : Ti) : (tiC x).size = 2 := rfl
def TiOk (l : List Ti) : Prop := ∀ x ∈ l, bnd x.1 ∧ bnd x.2
def tiAfter (b : Option Ti) (x : Ti) : Bool := match b with | none => false | some y => decide (y.1 ≤ x.1) || decide (x.2 < y.2)
def tiErr : Option Ti → List Ti → Int
  | _, [] => 0
  | b, x :: r => if inB x.1 1 5761440 = false then 1 else if inB x.2 0 1000 = false then 1 else if tiAfter b x = true then 7 else tiErr (some x) r
def tiE (l : List Ti) : Int := if 10 < l.length then 2 else tiErr none l
def TiRel (w : World) (l : List Ti) (i : Value) (wr : World) : Prop :=
  ∃ k : Nat, k ≤ l.length ∧ i = .int .i64 k ∧ tiErr none l = tiErr (prevAt l k) (l.drop k) ∧ G w wr none
theorem tiRow {W w : World} {bb bo n cap : Nat} {l : List Ti} (h : RdR W 2 tiC (.slice (some ⟨bb, bo, none⟩) n cap) l) (hG : G W w none) {k : Nat} {p : Ti} (hp : l[k]? = some p) :
    ∀ j v, (tiC p).toList[j]? = some v → w.cell? ((⟨bb, bo + k * 2, none⟩ : Addr).add j) = some v := fun j v hv => by
  rw [add_at]
  exact RdR.cell tiC_sz h hG hp j v hv
end Go.Proofs.YtkpmcakppiinlaaDoor

/- What was picked; a block as a row; 'when' at literals. -/
namespace Go.Proofs.YtkpmcakppiinlaaDoor
open Go.RowKit

theorem small_of {s : ByteArray} (h : s.size ≤ 100) : Small s := by unfold Small; omega
theorem bnd_pick {zs : List Int} {r : Int} (h : r ∈ zs) (hz : zs.all (fun z => decide (-1099511627776 ≤ z ∧ z ≤ 1099511627776)) = true) : bnd r := by
  unfold bnd
  exact of_decide_eq_true (List.all_eq_true.1 hz r h)
theorem small_pick {zs : List ByteArray} {r : ByteArray} (h : r ∈ zs) (hz : zs.all (fun z => decide (z.size ≤ 100)) = true) : Small r := small_of (of_decide_eq_true (List.all_eq_true.1 hz r h))
theorem Bk.rd {w : World} {g : Nat} {T : TypeId} {cs : Array Value} (h : Bk w g T cs) (z n : Nat) (hc : cs.size = n * z) (hn : n ≤ 1000) : Rd w z (.slice (some ⟨g, 0, none⟩) n n) n cs.toList := by
  refine ⟨_, n, rfl, Nat.le_refl _, by unfold maxLen; omega, by simpa using hc, (fun e => by cases e), fun b hb => ?_⟩
  obtain rfl := Option.some.inj hb
  refine ⟨rfl, h.lt, fun j u hj => ?_⟩
  rw [Nat.zero_add, h.cell]
  simpa using hj
end Go.Proofs.YtkpmcakppiinlaaDoor

/- CancelFee; the reference's CancelOf. -/
namespace Go.Proofs.YtkpmcakppiinlaaDoor
open Go.RowKit

/-- The permille of the last tier that is meant. -/
def cnS (d a : Int) (x : Ti) : Int := if d < x.1 then x.2 else a
def cnP (l : List Ti) (d : Int) : Int := l.foldl (cnS d) 0
theorem cnP_succ {l : List Ti} {k : Nat} {p : Ti} (d : Int) (hp : l[k]? = some p) : cnP (l.take (k + 1)) d = cnS d (cnP (l.take k) d) p := by
  have hk : k < l.length := (List.getElem?_eq_some_iff.1 hp).1
  have e : l.take (k + 1) = l.take k ++ [p] := by
    rw [List.take_succ_eq_append_getElem hk, (List.getElem?_eq_some_iff.1 hp).2]
  unfold cnP
  rw [e, List.foldl_append]
  rfl
theorem cnP_rng {l : List Ti} (h : ∀ x ∈ l, 0 ≤ x.2 ∧ x.2 ≤ 1000) (d : Int) : 0 ≤ cnP l d ∧ cnP l d ≤ 1000 := by
  have : ∀ (r : List Ti) (a : Int), (∀ x ∈ r, 0 ≤ x.2 ∧ x.2 ≤ 1000) → 0 ≤ a ∧ a ≤ 1000 → 0 ≤ r.foldl (cnS d) a ∧ r.foldl (cnS d) a ≤ 1000 := by
    intro r
    induction r with
    | nil => intro a _ ha; exact ha
    | cons x r ih =>
      intro a hx ha
      refine ih _ (fun y hy => hx y (List.mem_cons_of_mem _ hy)) ?_
      unfold cnS
      split
      · exact hx x (List.mem_cons_self ..)
      · exact ha
  exact this l 0 h (by omega)
theorem tiErr_ok {l : List Ti} : ∀ {b : Option Ti}, tiErr b l = 0 → ∀ x ∈ l, 0 ≤ x.2 ∧ x.2 ≤ 1000 := by
  induction l with
  | nil => intro b _ x hx; cases hx
  | cons y r ih =>
    intro b h
    unfold tiErr at h
    split at h
    · exact absurd h (by decide)
    · split at h
      · exact absurd h (by decide)
      · rename_i h2
        split at h
        · exact absurd h (by decide)
        · intro x hx
          rcases List.mem_cons.1 hx with rfl | hx
          · simp only [inB, Bool.not_eq_false, Bool.and_eq_true, decide_eq_true_eq] at h2
            omega
          · exact ih h x hx
theorem tiE_ok {l : List Ti} (h : tiE l = 0) : ∀ x ∈ l, 0 ≤ x.2 ∧ x.2 ≤ 1000 := by
  unfold tiE at h
  split at h
  · exact absurd h (by decide)
  · exact tiErr_ok h
theorem boE_ok {b : Bo} (h : boE [b] = 0) : 0 ≤ b.2.2.1 ∧ b.2.2.1 < 5761440 := by
  have h1 : boErr ⟨#[]⟩ [b] = 0 := h
  unfold boErr at h1
  split at h1
  · exact absurd h1 (by decide)
  · split at h1
    · exact absurd h1 (by decide)
    · split at h1
      · exact absurd h1 (by decide)
      · split at h1
        · exact absurd h1 (by decide)
        · rename_i h2
          simp only [boT, Bool.not_eq_false, Bool.and_eq_true] at h2
          have := (timB_iff _ _).1 h2.1
          omega
theorem one_len (b : Bo) : ([b] : List Bo).length ≤ 1000 := by simp
theorem BoOk.one {b : Bo} (h : boB b) : BoOk [b] := fun x hx => by
  obtain rfl := List.mem_singleton.1 hx
  exact h
def cfE (l : List Ti) (b : Bo) (c t : Int) : Int := if tiE l = 0 then (if boE [b] = 0 then (if inB c 0 1000000000 = false then 1 else if momB t = false then 1 else 0) else boE [b]) else tiE l
def cfN (l : List Ti) (b : Bo) (c t : Int) : Int := if cfE l b c t = 0 then c * cnP l (b.2.2.1 - t) / 1000 else 0
end Go.Proofs.YtkpmcakppiinlaaDoor

/- basic.Lowest. -/
namespace Go.Proofs.YtkpmcakppiinlaaDoor
open Go.RowKit

def frC (a b : Int) : Array Value := #[.int .i64 a, .int .i64 b]
theorem fr_one (a b : Int) : (frC a b).all (·.oneCell') = true := by simp [frC, Value.oneCell']
theorem quo_wrap (n a q : Nat) (hn : n ≤ 1000000000000000000) (hq : n / a = q) : IntKind.i64.wrap ((n : Int) / (a : Int)) = (q : Int) := by
  have h2 : q ≤ n := by rw [← hq]; exact Nat.div_le_self n a
  have h1 : (n : Int) / (a : Int) = (q : Int) := by rw [← hq]; rfl
  rw [h1, IntKind.wrap_i64]
  omega
end Go.Proofs.YtkpmcakppiinlaaDoor

/- The law's own 'booked': the odds of one booking. -/
namespace Go.Proofs.YtkpmcakppiinlaaDoor
open Go.RowKit

def coE (l : List Bo) : Int := if boE l = 0 then (if 9 < l.length then 2 else 0) else boE l
def bo1 : Bo := (⟨#[97]⟩, ⟨#[99]⟩, 0, 1, 0, 50)
theorem bo1_ok : boB bo1 := ⟨small_of (by decide), small_of (by decide), by unfold bnd bo1; dsimp only; omega, by unfold bnd bo1; dsimp only; omega, by unfold bnd bo1; dsimp only; omega, by unfold bnd bo1; dsimp only; omega⟩
theorem coE_one : coE [bo1] = 0 := by
  have h1 : boE [bo1] = 0 := by
    show boErr ⟨#[]⟩ [bo1] = 0
    unfold boErr bo1
    dsimp only
    rw [if_neg (by rw [show keyB ⟨#[97]⟩ = true by decide]; decide), if_neg (by rw [show keyB ⟨#[99]⟩ = true by decide]; decide), if_neg (by rw [leB_cmp]; decide), if_neg (by decide)]
    rfl
  rw [coE, if_pos h1, if_neg (by decide)]
/-! A row of fractions that the call owns. -/
abbrev Fr := Int × Int
def frV (x : Fr) : Array Value := frC x.1 x.2
theorem frV_sz (x : Fr) : (frV x).size = 2 := rfl
theorem frV_one (r : Fr) : ∀ u ∈ (frV r).toList, u.oneCell' = true := by
  intro u hu
  simp [frV, frC] at hu
  rcases hu with rfl | rfl <;> rfl
def EqfRel (l m : List Fr) (w : World) (i : Value) (wr : World) : Prop := ∃ k n : Nat, k ≤ l.length ∧ i = .int .i64 k ∧ l.take k = m.take k ∧ wr = w.drewN n
theorem take_succ_eq {l m : List Fr} {k : Nat} {x : Fr} (h : l.take k = m.take k) (hx : l[k]? = some x) (hy : m[k]? = some x) : l.take (k + 1) = m.take (k + 1) := by
  rw [List.take_add_one, List.take_add_one, h, hx, hy]
end Go.Proofs.YtkpmcakppiinlaaDoor

/- slices.Compact at passages, exact. Written by gencpt.py. -/
namespace Go.Proofs.YtkpmcakppiinlaaDoor
open Go.RowKit

def eqP (x y : Pa) : Bool := decide (x = y)
theorem pa_same (a b c d : ByteArray) (x y u v : Int) : (decide (x = u) && (decide (a.toList = b.toList) && (decide (c.toList = d.toList) && decide (y = v)))) = eqP (x, a, c, y) (u, b, d, v) := by
  have h : ∀ p q : ByteArray, (p.toList = q.toList) = (p = q) := fun p q => propext ⟨fun e => eqB_iff.1 (by unfold eqB; rw [e]; simp), fun e => by rw [e]⟩
  unfold eqP
  simp only [h, Prod.mk.injEq]
  by_cases h1 : x = u <;> by_cases h2 : a = b <;> by_cases h3 : c = d <;> by_cases h4 : y = v <;> simp [h1, h2, h3, h4]
theorem pa_eql (x y : Pa) (w : World) : (binOp .eql 34 (.agg (paC x)) (.agg (paC y))).run Tryd.prog w = .ok (.bool (eqP x y)) w := by
  obtain ⟨a, b, c, d⟩ := x
  obtain ⟨a', b', c', d'⟩ := y
  have ht : Tryd.prog.underlying 34 = some (.struct (Tryd.prog.fieldsOf 34)) := by kernel_rfl
  have hp : Tryd.prog.stoodInHeld 34 = false := by kernel_rfl
  rw [run_eql_struct, run_equalIn_agg w 9999 34 _ _ ht hp, ← pa_same]
  simp [paC, Tryd.underlying34, Tryd.underlying3, Tryd.underlying9, go_sem]
  by_cases h1 : a = a' <;> by_cases h2 : b.toList = b'.toList <;> by_cases h3 : c.toList = c'.toList <;> by_cases h4 : d = d' <;> simp [h1, h2, h3, h4]
theorem pa_neq (x y : Pa) (w : World) : (binOp .neq 34 (.agg (paC x)) (.agg (paC y))).run Tryd.prog w = .ok (.bool (!(eqP x y))) w := by
  have h := pa_eql x y w
  rw [run_eql_struct] at h
  rw [run_neq_struct]
  revert h
  cases (Op.equalIn 10000 34 (.agg (paC x)) (.agg (paC y))).run Tryd.prog w <;> simp [Result.andThen] <;> intros <;> simp_all
set_option maxRecDepth 100000 in
set_option maxHeartbeats 8000000 in
theorem compactE_c (v : Value) (l0 : List Pa) (base : Nat) (w : World)
    (hown : OwnPa w base v l0) (hn : l0.length ≤ 1000) :
    Calls Tryd.prog 43 #[v] w fun e w' => ∃ v', e = .returned v' ∧ OwnPa w' base v' (cpL eqP l0) ∧ GS (S1 v) w w' := by
  obtain ⟨a, cap, rfl, hcap, hm⟩ := RdR.form (c := paC) (Rd.of_owns hown)
  by_cases h2 : l0.length < 2
  · have h2i : (l0.length : Int) < 2 := by omega
    go_enter Tryd.func43, Tryd.ntmps43
    go_wp2_with fail
    go_ret
    exact ⟨_, rfl, by rw [cpL_short h2]; exact hown, GS.refl _ _⟩
  have h2i : ¬ (l0.length : Int) < 2 := by omega
  go_enter Tryd.func43, Tryd.ntmps43
  go_wp2_with fail
  go_loopw [3] (CpO eqP w base (.slice a l0.length cap) l0) (fun i _ => l0.length - (intOf i).toNat)
  case atStart => exact ⟨1, by omega, by omega, rfl, hown, GS.refl _ _, cpL_start (by omega)⟩
  case round =>
    clear hown
    obtain ⟨k, hk1, hkl, rfl, hown, hGr, hq⟩ := hrel
    have HQ := Lib.hid hq
    clear hq
    by_cases hlt : k < l0.length
    · obtain ⟨m, rfl⟩ : ∃ m, k = m + 1 := ⟨k - 1, by omega⟩
      obtain ⟨⟨x1, x2, x3, x4⟩, hx⟩ : ∃ x, l0[m + 1]? = some x := ⟨_, List.getElem?_eq_getElem hlt⟩
      obtain ⟨⟨y1, y2, y3, y4⟩, hy⟩ : ∃ y, l0[m]? = some y := ⟨_, List.getElem?_eq_getElem (by omega)⟩
      obtain ⟨g, cap', cur, e, hB⟩ := OwnX.form0 hown (by omega)
      cases e
      have HI := Lib.hid hlt
      have HST : Hid (cpD eqP l0 m = if eqP (x1, x2, x3, x4) (y1, y2, y3, y4) then cpD eqP l0 (m + 1) else (x1, x2, x3, x4) :: cpD eqP l0 (m + 1)) := Lib.hid (cpD_step hx hy)
      have HTK : Hid (l0.take (m + 1 + 1) = l0.take (m + 1) ++ [(x1, x2, x3, x4)]) := Lib.hid (take_one hx)
      have hcc : ∀ w', G wr w' none → w'.cell? ⟨g, (m + 1) * 4, none⟩ = some (.int .i64 x1) ∧ w'.cell? ⟨g, (m + 1) * 4 + 1, none⟩ = some (.string x2) ∧ w'.cell? ⟨g, (m + 1) * 4 + 2, none⟩ = some (.string x3) ∧ w'.cell? ⟨g, (m + 1) * 4 + 3, none⟩ = some (.int .i64 x4) ∧ w'.cell? ⟨g, m * 4, none⟩ = some (.int .i64 y1) ∧ w'.cell? ⟨g, m * 4 + 1, none⟩ = some (.string y2) ∧ w'.cell? ⟨g, m * 4 + 2, none⟩ = some (.string y3) ∧ w'.cell? ⟨g, m * 4 + 3, none⟩ = some (.int .i64 y4) := fun w' q9 => by
        have ex0 := RdR.cell paC_sz (Rd.of_owns hown) q9 hx 0 (.int .i64 x1) rfl; have ex1 := RdR.cell paC_sz (Rd.of_owns hown) q9 hx 1 (.string x2) rfl; have ex2 := RdR.cell paC_sz (Rd.of_owns hown) q9 hx 2 (.string x3) rfl; have ex3 := RdR.cell paC_sz (Rd.of_owns hown) q9 hx 3 (.int .i64 x4) rfl; have ey0 := RdR.cell paC_sz (Rd.of_owns hown) q9 hy 0 (.int .i64 y1) rfl; have ey1 := RdR.cell paC_sz (Rd.of_owns hown) q9 hy 1 (.string y2) rfl; have ey2 := RdR.cell paC_sz (Rd.of_owns hown) q9 hy 2 (.string y3) rfl; have ey3 := RdR.cell paC_sz (Rd.of_owns hown) q9 hy 3 (.int .i64 y4) rfl
        simp only [Nat.add_zero, Nat.zero_add] at ex0 ex1 ex2 ex3 ey0 ey1 ey2 ey3
        exact ⟨ex0, ex1, ex2, ex3, ey0, ey1, ey2, ey3⟩
      have HG0 := Lib.hid hGr
      have h1 : IntKind.i64.wrap ((m : Int) + 1 - 1) = (m : Int) := by rw [IntKind.wrap_i64]; omega
      have h3 : IntKind.i64.wrap (m : Int) = (m : Int) := by rw [IntKind.wrap_i64]; omega
      have h4 : (m : Int) + 1 < (l0.length : Int) := by omega
      have h5 : (m : Int) < (l0.length : Int) := by omega
      have h6 : (0 : Int) ≤ (m : Int) + 1 := by omega
      have h7 : (0 : Int) ≤ (m : Int) := by omega
      obtain ⟨q0, q1, q2, q3, q4, q5, q6, q7⟩ := hcc _ (G.refl wr none)
      obtain ⟨B, hBq⟩ : ∃ B, eqP (x1, x2, x3, x4) (y1, y2, y3, y4) = B := ⟨_, rfl⟩
      have hnq : ∀ w : World, (binOp .eql 34 (.agg #[.int .i64 x1, .string x2, .string x3, .int .i64 x4]) (.agg #[.int .i64 y1, .string y2, .string y3, .int .i64 y4])).run Tryd.prog w = .ok (.bool (B)) w := fun w => by
        rw [← hBq]
        exact pa_eql (x1, x2, x3, x4) (y1, y2, y3, y4) w
      have hef := Lib.hid hBq
      clear hBq
      go_wp2_with fail
      go_quiet (fail)
      have hS : G wr (wr.drewN nq) none := (G.refl wr none).drewN nq
      generalize wr.drewN nq = w4 at hS ⊢
      clear hnq q0 q1 q2 q3 q4 q5 q6 q7
      clear hcc
      have hown4 := OwnX.quiet hown hS
      have hG4 := hGr.trans (GS.of_G hS)
      clear hS hown hGr hB HG0
      cases B with
      | false =>
        have HQ2 : Hid (cpL eqP l0 = l0.take (m + 1 + 1) ++ cpD eqP l0 (m + 1 + 1 - 1)) := Lib.hid (by
          rw [HQ.out, HTK.out, Nat.add_sub_cancel, Nat.add_sub_cancel, HST.out, hef.out]
          simp)
        go_wp2_with fail
        go_roundw
        case rel => exact ⟨m + 1 + 1, by omega, by have := HI.out; omega, by go_num, hown4, hG4, HQ2.out⟩
        case measure => have := HI.out; simp [intOf]; omega
      | true =>
        have hck : ¬ cap = m + 1 := by omega
        have HQ2 : Hid (cpL eqP l0 = l0.take (m + 1) ++ cpD eqP l0 (m + 1)) := Lib.hid (by
          rw [HQ.out, Nat.add_sub_cancel, HST.out, hef.out]
          rfl)
        obtain ⟨N2, hN2⟩ : ∃ N2, l0.length - (m + 1) = N2 := ⟨_, rfl⟩
        have HN2 : Hid (l0.length = m + 1 + N2) := Lib.hid (by omega)
        have hN1 : 1 ≤ N2 := by omega
        go_upto_region 8 with fail
        try rw [hN2]
        clear hN2 hx hy hef
        go_wp2_with fail
        go_loopw [3, 5] (CpJ eqP w base (.slice (some ⟨g, 0, none⟩) l0.length cap) l0 m N2) (fun _ j _ => N2 - (intOf j).toNat)
        case atStart => exact ⟨m + 1, 1, l0, by omega, hN1, by omega, by omega, by go_num, rfl, rfl, fun z hz => hz, hown4, hG4, HQ2.out, fun _ _ => rfl⟩
        case round =>
          clear hown4 hG4
          obtain ⟨k, k2, l, j1, j2, j3, j4, rfl, rfl, hll, hsub, hown, hGr, hq, heq⟩ := hrel
          have HR := Lib.hid hq
          have HE := Lib.hid heq
          clear hq heq
          have HSUB := Lib.hid hsub
          have HLL := Lib.hid hll
          clear hsub
          by_cases hlt2 : k2 < N2
          · obtain ⟨q, rfl⟩ : ∃ q, k2 = q + 1 := ⟨k2 - 1, by omega⟩
            have HJ := Lib.hid (And.intro hlt2 (And.intro j3 j4))
            obtain ⟨⟨x1, x2, x3, x4⟩, hx⟩ : ∃ x, l[m + 1 + (q + 1)]? = some x := ⟨_, List.getElem?_eq_getElem (by have := HN2.out; omega)⟩
            obtain ⟨⟨y1, y2, y3, y4⟩, hy⟩ : ∃ y, l[m + 1 + q]? = some y := ⟨_, List.getElem?_eq_getElem (by have := HN2.out; omega)⟩
            have HST2 : Hid (cpD eqP l0 (m + (q + 1)) = if eqP (x1, x2, x3, x4) (y1, y2, y3, y4) then cpD eqP l0 (m + (q + 1 + 1)) else (x1, x2, x3, x4) :: cpD eqP l0 (m + (q + 1 + 1))) := Lib.hid (by
              have e1 := HE.out (m + 1 + (q + 1)) (by omega)
              have e2 := HE.out (m + 1 + q) (by omega)
              rw [hx] at e1
              rw [hy] at e2
              rw [show m + (q + 1) = m + 1 + q by omega, show m + (q + 1 + 1) = m + 1 + q + 1 by omega]
              exact cpD_step (by rw [show m + 1 + q + 1 = m + 1 + (q + 1) by omega]; exact e1.symm) e2.symm)
            have hownl : OwnX 34 4 paC wr base (.slice (some ⟨g, 0, none⟩) l0.length cap) l := hown
            obtain ⟨g', cap', cur, e, hB⟩ := OwnX.form0 hownl (by rw [hll]; have := HN2.out; omega)
            rw [hll] at e
            cases e
            have hcc : ∀ w', G wr w' none → w'.cell? ⟨g, (m + 1) * 4 + (q + 1) * 4, none⟩ = some (.int .i64 x1) ∧ w'.cell? ⟨g, (m + 1) * 4 + (q + 1) * 4 + 1, none⟩ = some (.string x2) ∧ w'.cell? ⟨g, (m + 1) * 4 + (q + 1) * 4 + 2, none⟩ = some (.string x3) ∧ w'.cell? ⟨g, (m + 1) * 4 + (q + 1) * 4 + 3, none⟩ = some (.int .i64 x4) ∧ w'.cell? ⟨g, (m + 1) * 4 + q * 4, none⟩ = some (.int .i64 y1) ∧ w'.cell? ⟨g, (m + 1) * 4 + q * 4 + 1, none⟩ = some (.string y2) ∧ w'.cell? ⟨g, (m + 1) * 4 + q * 4 + 2, none⟩ = some (.string y3) ∧ w'.cell? ⟨g, (m + 1) * 4 + q * 4 + 3, none⟩ = some (.int .i64 y4) := fun w' q9 => by
              have ex0 := RdR.cell paC_sz (Rd.of_owns hown) q9 hx 0 (.int .i64 x1) rfl; have ex1 := RdR.cell paC_sz (Rd.of_owns hown) q9 hx 1 (.string x2) rfl; have ex2 := RdR.cell paC_sz (Rd.of_owns hown) q9 hx 2 (.string x3) rfl; have ex3 := RdR.cell paC_sz (Rd.of_owns hown) q9 hx 3 (.int .i64 x4) rfl; have ey0 := RdR.cell paC_sz (Rd.of_owns hown) q9 hy 0 (.int .i64 y1) rfl; have ey1 := RdR.cell paC_sz (Rd.of_owns hown) q9 hy 1 (.string y2) rfl; have ey2 := RdR.cell paC_sz (Rd.of_owns hown) q9 hy 2 (.string y3) rfl; have ey3 := RdR.cell paC_sz (Rd.of_owns hown) q9 hy 3 (.int .i64 y4) rfl
              simp only [Nat.add_zero, Nat.zero_add, Nat.add_mul (m + 1)] at ex0 ex1 ex2 ex3 ey0 ey1 ey2 ey3
              exact ⟨ex0, ex1, ex2, ex3, ey0, ey1, ey2, ey3⟩
            have HG0 := Lib.hid hGr
            have hq9 : q < 1000 := by have := HN2.out; omega
            have h1 : IntKind.i64.wrap ((q : Int) + 1 - 1) = (q : Int) := by rw [IntKind.wrap_i64]; omega
            have h3 : IntKind.i64.wrap (q : Int) = (q : Int) := by rw [IntKind.wrap_i64]; omega
            have h4 : (q : Int) + 1 < (N2 : Int) := by omega
            have h5 : (q : Int) < (N2 : Int) := by omega
            have h6 : (0 : Int) ≤ (q : Int) + 1 := by omega
            have h7 : (0 : Int) ≤ (q : Int) := by omega
            obtain ⟨q0, q1, q2, q3, q4, q5, q6, q7⟩ := hcc _ (G.refl wr none)
            obtain ⟨B, hBq⟩ : ∃ B, eqP (x1, x2, x3, x4) (y1, y2, y3, y4) = B := ⟨_, rfl⟩
            have hnq : ∀ w : World, (binOp .neq 34 (.agg #[.int .i64 x1, .string x2, .string x3, .int .i64 x4]) (.agg #[.int .i64 y1, .string y2, .string y3, .int .i64 y4])).run Tryd.prog w = .ok (.bool (!B)) w := fun w => by
              rw [← hBq]
              exact pa_neq (x1, x2, x3, x4) (y1, y2, y3, y4) w
            have hef := Lib.hid hBq
            clear hBq
            go_wp2_with fail
            go_quiet (fail)
            have hS : G wr (wr.drewN nq) none := (G.refl wr none).drewN nq
            generalize wr.drewN nq = w4 at hS ⊢
            clear hnq q0 q1 q2 q3 q4 q5 q6 q7
            have hown4 : OwnPa w4 base (.slice (some ⟨g, 0, none⟩) l0.length cap) l := OwnX.quiet hown hS
            have hG4 := hGr.trans (GS.of_G hS)
            have hcx := hcc _ hS
            clear hcc hown hGr hB HG0 hownl
            cases B with
            | true =>
              have HR2 : Hid (cpL eqP l0 = l.take k ++ cpD eqP l0 (m + (q + 1 + 1))) := Lib.hid (by
                rw [HR.out, HST2.out, hef.out]
                rfl)
              have HE2 : Hid (∀ i, m + (q + 1 + 1) ≤ i → l[i]? = l0[i]?) := Lib.hid (fun i hi => HE.out i (by omega))
              clear hcx hS
              go_wp2_with fail
              go_roundw
              case rel => exact ⟨k, q + 1 + 1, l, by omega, by have := HJ.out; omega, by have := HJ.out; omega, by have := HJ.out; omega, by go_num, by go_num, HLL.out, HSUB.out, hown4, hG4, HR2.out, HE2.out⟩
              case measure => have := HJ.out; simp [intOf]; omega
            | false =>
              obtain ⟨m0, m1, m2, m3, -, -, -, -⟩ := hcx
              obtain ⟨⟨z1, z2, z3, z4⟩, hp0⟩ : ∃ p0, l[k]? = some p0 := ⟨_, List.getElem?_eq_getElem (by have := HN2.out; have := HJ.out; omega)⟩
              have HT1 : Hid (w4.there g (k * 4) (#[.int .i64 x1, .string x2, .string x3, .int .i64 x4] : Array Value).size) := Lib.hid (pa_there hown4 HLL.out (by have := HN2.out; have := HJ.out; omega))
              have hA := pa_set hown4 HLL.out hp0 (x1, x2, x3, x4)
              have hG6 := hG4.trans (GS.of_Gs (pa_grow w4 g (k * 4) (x1, x2, x3, x4)) (show S1 _ g from rfl))
              have HSUB3 : Hid (∀ z ∈ l.set k (x1, x2, x3, x4), z ∈ l0) := Lib.hid (fun z hz => by
                rcases List.mem_or_eq_of_mem_set hz with hz | rfl
                · exact HSUB.out z hz
                · exact HSUB.out _ (List.mem_of_getElem? hx))
              have HR2 : Hid (cpL eqP l0 = (l.set k (x1, x2, x3, x4)).take (k + 1) ++ cpD eqP l0 (m + (q + 1 + 1))) := Lib.hid (by
                rw [HR.out, HST2.out, hef.out, set_take _ (by rw [HLL.out]; have := HN2.out; have := HJ.out; omega)]
                simp)
              have HE2 : Hid (∀ i, m + (q + 1 + 1) ≤ i → (l.set k (x1, x2, x3, x4))[i]? = l0[i]?) := Lib.hid (fun i hi => by
                rw [List.getElem?_set_ne (by have := HJ.out; omega)]
                exact HE.out i (by omega))
              have h8 : (k : Int) < (l0.length : Int) := by have := HN2.out; have := HJ.out; omega
              have h9 : (0 : Int) ≤ (k : Int) := by omega
              have hk9 : k < 1000 := by omega
              have c0 := RdR.cell paC_sz (Rd.of_owns hown4) (G.refl _ none) hp0 0 (.int .i64 z1) rfl
              have c1 := RdR.cell paC_sz (Rd.of_owns hown4) (G.refl _ none) hp0 1 (.string z2) rfl
              have c2 := RdR.cell paC_sz (Rd.of_owns hown4) (G.refl _ none) hp0 2 (.string z3) rfl
              have c3 := RdR.cell paC_sz (Rd.of_owns hown4) (G.refl _ none) hp0 3 (.int .i64 z4) rfl
              have f0 := (HT1.out 0 (by show 0 < 4; omega)).2
              have f1 := (HT1.out 1 (by show 1 < 4; omega)).2
              have f2 := (HT1.out 2 (by show 2 < 4; omega)).2
              have f3 := (HT1.out 3 (by show 3 < 4; omega)).2
              simp only [Nat.add_zero, Nat.zero_add] at c0 c1 c2 c3 f0
              clear hS hp0 hll hx hy
              go_wp2_with fail
              go_roundw
              case rel => exact ⟨k + 1, q + 1 + 1, l.set k (x1, x2, x3, x4), by omega, by have := HJ.out; omega, by have := HJ.out; omega, by have := HJ.out; omega, by go_num, by go_num, by rw [List.length_set]; exact HLL.out, HSUB3.out, hA, hG6, HR2.out, HE2.out⟩
              case measure => have := HJ.out; simp [intOf]; omega
          · obtain rfl : k2 = N2 := by omega
            have hkn : k < l0.length := by have := HN2.out; omega
            have hck2 : ¬ cap = k := by omega
            have HF : Hid (cpL eqP l0 = l.take k) := Lib.hid (by
              rw [HR.out, cpD_end (by have := HN2.out; omega), List.append_nil])
            have hcl : ∀ j, j < (l0.length - k) * 4 → (wr.cell? ⟨g, k * 4 + j, none⟩).isSome = true ∧ wr.frozen? ⟨g, k * 4 + j, none⟩ = false := fun j hj => by
              have hownl : OwnX 34 4 paC wr base (.slice (some ⟨g, 0, none⟩) l0.length cap) l := hown
              unfold OwnX at hownl
              rw [hll] at hownl
              have h1 := World.ownsRow.cellAt hownl (k * 4 + j) (by omega)
              have hr : (rowL paC l).length = l0.length * 4 := hownl.1
              rw [List.getElem?_eq_getElem (by rw [hr]; omega)] at h1
              exact ⟨by rw [h1]; rfl, World.ownsRow.frozenAt hownl _⟩
            have HC := Lib.hid hcl
            have HP := Lib.hid (fun vs => own_before paC_sz hown hll (k := k) (o := k * 4) (by omega) (Nat.le_refl _) vs)
            have hlt3 : l.length = l0.length := hll
            have HGX := Lib.hid (fun vs => hGr.trans (GS.of_Gs (setCells_grow g vs (k * 4) wr) (show S1 _ g from rfl)))
            have hki : (k : Int) ≤ (l0.length : Int) := by omega
            have hki0 : (0 : Int) ≤ (k : Int) := by omega
            have hkc : (k : Int) ≤ (cap : Int) := by omega
            clear hcl hll hlt3
            obtain ⟨vs, hrun⟩ := run_clear_rows (P := Tryd.prog) (cs := #[.int .i64 0, .string ⟨#[]⟩, .string ⟨#[]⟩, .int .i64 0]) wr 0 Tryd.underlying28 zp_run (pa_oneL (0, ⟨#[]⟩, ⟨#[]⟩, 0)) g (k * 4) (l0.length - k) (cap - k) (by omega) (fun j hj => (HC.out j hj).1) (fun j hj => (HC.out j hj).2)
            have hres := HP.out vs
            have hGz := HGX.out vs
            go_wp2_with fail
            go_ret
            exact ⟨_, rfl, by rw [HF.out]; exact hres, hGz⟩
    · obtain rfl : k = l0.length := by omega
      go_wp2_with fail
      go_ret
      exact ⟨_, rfl, by rw [HQ.out, cpD_end (by omega), List.append_nil, List.take_length]; exact hown, hGr⟩
end Go.Proofs.YtkpmcakppiinlaaDoor

/- Odds: the numbers of cases, reckoned as the program does. No program. -/
namespace Go.Proofs.YtkpmcakppiinlaaDoor
open Go.RowKit

/-- The new numbers of cases after j of the old ones were spread. -/
def nx (c : List Int) (p : Int) : Nat → List Int
  | 0 => List.replicate (c.length + 1) 0
  | j + 1 => ((nx c p j).set j ((nx c p j).getD j 0 + c.getD j 0 * (100 - p))).set (j + 1) ((nx c p j).getD (j + 1) 0 + c.getD j 0 * p)
def cas (ps : List Int) : List Int := ps.foldl (fun c p => nx c p c.length) [1]
theorem nx_len (c : List Int) (p : Int) (j : Nat) : (nx c p j).length = c.length + 1 := by
  induction j with
  | zero => simp [nx]
  | succ j ih => simp [nx, ih]
theorem sum_set (l : List Int) : ∀ (i : Nat) (v : Int), i < l.length → (l.set i v).sum = l.sum + (v - l.getD i 0) := by
  induction l with
  | nil => intro i v h; simp at h
  | cons x r ih =>
    intro i v h
    cases i with
    | zero => simp; omega
    | succ i =>
      have := ih i v (by simpa using h)
      simp only [List.set_cons_succ, List.sum_cons, List.getD_cons_succ]
      omega
theorem gdset_ne (l : List Int) (i j : Nat) (v : Int) (h : i ≠ j) : (l.set i v).getD j 0 = l.getD j 0 := by
  simp [List.getD, h]
theorem take_sum (c : List Int) (j : Nat) (h : j < c.length) : (c.take (j + 1)).sum = (c.take j).sum + c.getD j 0 := by
  rw [List.take_succ_eq_append_getElem h, List.sum_append]
  simp [List.getD, h]
theorem nx_sum (c : List Int) (p : Int) (j : Nat) (h : j ≤ c.length) : (nx c p j).sum = 100 * (c.take j).sum := by
  induction j with
  | zero => simp [nx]
  | succ j ih =>
    have hl := nx_len c p j
    unfold nx
    rw [sum_set _ _ _ (by rw [List.length_set, hl]; omega), sum_set _ _ _ (by rw [hl]; omega), gdset_ne _ _ _ _ (by omega), ih (by omega), take_sum c j (by omega)]
    have : c.getD j 0 * (100 - p) + c.getD j 0 * p = 100 * c.getD j 0 := by rw [← Int.mul_add]; rw [show (100 - p + p : Int) = 100 by omega, Int.mul_comm]
    omega
def NN (c : List Int) : Prop := ∀ x ∈ c, 0 ≤ x
theorem NN.getD {c : List Int} (h : NN c) (j : Nat) : 0 ≤ c.getD j 0 := by
  unfold List.getD
  cases hc : c[j]? with
  | none => exact Int.le_refl 0
  | some x => exact h x (List.mem_of_getElem? hc)
theorem NN.set {c : List Int} (h : NN c) (i : Nat) {v : Int} (hv : 0 ≤ v) : NN (c.set i v) := fun x hx => by
  rcases List.mem_or_eq_of_mem_set hx with hx | rfl
  · exact h x hx
  · exact hv
theorem nx_nn {c : List Int} {p : Int} (hc : NN c) (h0 : 0 ≤ p) (h1 : p ≤ 100) (j : Nat) : NN (nx c p j) := by
  induction j with
  | zero => intro x hx; have := List.eq_of_mem_replicate hx; omega
  | succ j ih =>
    unfold nx
    refine NN.set (NN.set ih j ?_) (j + 1) ?_
    · exact Int.add_nonneg (ih.getD j) (Int.mul_nonneg (hc.getD j) (by omega))
    · exact Int.add_nonneg (ih.getD (j + 1)) (Int.mul_nonneg (hc.getD j) h0)
theorem NN.sum {c : List Int} (h : NN c) : 0 ≤ c.sum := by
  induction c with
  | nil => exact Int.le_refl 0
  | cons x r ih =>
    have h1 := h x (List.mem_cons_self ..)
    have h2 := ih fun y hy => h y (List.mem_cons_of_mem _ hy)
    simp only [List.sum_cons]
    omega
theorem NN.le_sum {c : List Int} (h : NN c) (j : Nat) : c.getD j 0 ≤ c.sum := by
  induction c generalizing j with
  | nil => simp
  | cons x r ih =>
    have h1 := h x (List.mem_cons_self ..)
    have hr : NN r := fun y hy => h y (List.mem_cons_of_mem _ hy)
    have h2 := hr.sum
    cases j with
    | zero => simp only [List.getD_cons_zero, List.sum_cons]; omega
    | succ j =>
      have := ih hr j
      simp only [List.getD_cons_succ, List.sum_cons]
      omega
theorem cas_snoc (ps : List Int) (p : Int) : cas (ps ++ [p]) = nx (cas ps) p (cas ps).length := by
  unfold cas
  rw [List.foldl_append]
  rfl
theorem cas_ok (ps : List Int) (h : ∀ p ∈ ps, 0 ≤ p ∧ p ≤ 100) : (cas ps).length = ps.length + 1 ∧ NN (cas ps) ∧ (cas ps).sum = 100 ^ ps.length := by
  have key : ∀ (n : Nat) (ps : List Int), ps.length = n → (∀ p ∈ ps, 0 ≤ p ∧ p ≤ 100) → (cas ps).length = ps.length + 1 ∧ NN (cas ps) ∧ (cas ps).sum = 100 ^ ps.length := by
    intro n
    induction n with
    | zero =>
      intro ps hn _
      obtain rfl := List.eq_nil_of_length_eq_zero hn
      refine ⟨rfl, ?_, rfl⟩
      intro x hx
      have := List.mem_singleton.1 (show x ∈ [1] from hx)
      omega
    | succ n ih =>
      intro ps hn h
      obtain ⟨qs, p, rfl⟩ : ∃ qs p, ps = qs ++ [p] := ⟨ps.dropLast, ps.getLast (by intro e; rw [e] at hn; simp at hn), (List.dropLast_concat_getLast _).symm⟩
      simp at hn
      obtain ⟨h1, h2, h3⟩ := ih qs hn (fun q hq => h q (by simp [hq]))
      obtain ⟨p0, p1⟩ := h p (by simp)
      rw [cas_snoc]
      refine ⟨by rw [nx_len, h1]; simp, nx_nn h2 p0 p1 _, ?_⟩
      rw [nx_sum _ _ _ (Nat.le_refl _), List.take_length, h3, List.length_append, List.length_singleton, Int.pow_succ, Int.mul_comm]
  exact key ps.length ps rfl h
/-- A row of ints. -/
def ic (l : List Int) : Array Value := (l.map (Value.int .i64)).toArray
theorem ic_at (l : List Int) (j : Nat) (h : j < l.length) : (ic l)[j]? = some (.int .i64 (l.getD j 0)) := by
  simp [ic, List.getD, h]
theorem ic_set (l : List Int) (j : Nat) (v : Int) : (ic l).setIfInBounds j (.int .i64 v) = ic (l.set j v) := by
  simp [ic, List.map_set]
theorem ic_size (l : List Int) : (ic l).size = l.length := by simp [ic]
end Go.Proofs.YtkpmcakppiinlaaDoor

/- mark.Split. Written by genspe.py. -/
namespace Go.Proofs.YtkpmcakppiinlaaDoor
open Go.RowKit

theorem mkCells (n : Nat) : madeCells (Value.cells (.int .i64 0)) n = ic (List.replicate n 0) := by
  apply Array.ext
  · simp [madeCells, ic]
  · intro k h1 h2
    simp [madeCells, ic, Value.cells, Nat.mod_one]
theorem mkInts (n : Nat) (hn : n ≤ 1000) (w : World) : (Instr.makeSlice 22 (.int .i64 (n : Int)) (.int .i64 (n : Int))).run Tryd.prog w = .ok (.slice (some ⟨w.heap.size, 0, none⟩) n n) (w.alloc (.cells (ic (List.replicate n 0)) 3)) := by
  obtain ⟨i0, hi, hz0, hz1, hz2⟩ := info_parts (show (Tryd.prog.info? 3).map (fun i => (i.zero, i.size, i.bytes)) = some (some (.int .i64 0), 1, 8) by kernel_rfl)
  have h := run_make (P := Tryd.prog) w 22 3 i0 (.int .i64 0) Tryd.underlying22 hi hz0 .i64 .i64 n n (by omega) (by omega) (by rw [hz2]; omega) (by omega)
  rw [h, hz1, Int.toNat_natCast, Nat.mul_one, mkCells]
def flI (c : Int) (ws : List Int) (i : Nat) : Int := c * ws.getD i 0 / ws.sum
def pK (c : Int) (ws : List Int) (k : Nat) : List Int := (List.range ws.length).map fun i => if i < k then flI c ws i else 0
def oK (n k : Nat) : List Int := (List.range n).map fun i => if i < k then (i : Int) else 0
def lK (c : Int) (ws : List Int) (k : Nat) : Int := c - ((List.range k).map (flI c ws)).sum
theorem pK_len (c : Int) (ws : List Int) (k : Nat) : (pK c ws k).length = ws.length := by simp [pK]
theorem oK_len (n k : Nat) : (oK n k).length = n := by simp [oK]
theorem pK_0 (c : Int) (ws : List Int) : pK c ws 0 = List.replicate ws.length 0 := by
  apply List.ext_getElem <;> simp [pK]
theorem oK_0 (n : Nat) : oK n 0 = List.replicate n 0 := by
  apply List.ext_getElem <;> simp [oK]
theorem pK_step (c : Int) (ws : List Int) (k : Nat) : (pK c ws k).set k (flI c ws k) = pK c ws (k + 1) := by
  apply List.ext_getElem
  · simp [pK]
  · intro i h1 h2
    simp only [pK, List.getElem_set, List.getElem_map, List.getElem_range]
    by_cases h : k = i
    · rw [if_pos h, if_pos (by omega), h]
    · rw [if_neg h]
      by_cases q : i < k
      · rw [if_pos q, if_pos (by omega)]
      · rw [if_neg q, if_neg (by omega)]
theorem oK_step (n k : Nat) : (oK n k).set k (k : Int) = oK n (k + 1) := by
  apply List.ext_getElem
  · simp [oK]
  · intro i h1 h2
    simp only [oK, List.getElem_set, List.getElem_map, List.getElem_range]
    by_cases h : k = i
    · rw [if_pos h, if_pos (by omega), h]
    · rw [if_neg h]
      by_cases q : i < k
      · rw [if_pos q, if_pos (by omega)]
      · rw [if_neg q, if_neg (by omega)]
theorem lK_step (c : Int) (ws : List Int) (k : Nat) : lK c ws (k + 1) = lK c ws k - flI c ws k := by
  unfold lK
  rw [List.range_succ, List.map_append, List.sum_append]
  simp
  omega
theorem fl_bnd {c : Int} {ws : List Int} (he : spE c ws = 0) (i : Nat) : 0 ≤ flI c ws i ∧ flI c ws i ≤ 5761440000000000 := by
  obtain ⟨h1, h2, h3, h4⟩ := spE_ok he
  have hs := (spA_bnd h3).1
  have hg : 0 ≤ ws.getD i 0 ∧ ws.getD i 0 ≤ 5761440 := by
    rw [List.getD_eq_getElem?_getD]
    cases hp : ws[i]? with
    | none => simp
    | some p => have := h3 p (List.mem_of_getElem? hp); unfold inB at this; simpa using this
  have hp1 : 0 ≤ c * ws.getD i 0 := Int.mul_nonneg h1.1 hg.1
  have hp2 : c * ws.getD i 0 ≤ 1000000000 * 5761440 := Int.mul_le_mul h1.2 hg.2 hg.1 (by omega)
  unfold flI
  refine ⟨Int.ediv_nonneg hp1 hs, ?_⟩
  have := Int.ediv_le_self (ws.sum) hp1
  omega
theorem lK_bnd {c : Int} {ws : List Int} (he : spE c ws = 0) : ∀ k : Nat, k ≤ 1000 → -(5761440000000000 * (k : Int)) ≤ lK c ws k ∧ lK c ws k ≤ 1000000000
  | 0, _ => by have := (spE_ok he).1; unfold lK; simp; omega
  | k + 1, h => by
    have ih := lK_bnd he k (by omega)
    have q := fl_bnd he k
    rw [lK_step]
    push_cast
    omega
theorem sum_mul (c : Int) : ∀ l : List Int, (l.map (c * ·)).sum = c * l.sum
  | [] => by simp
  | x :: r => by simp only [List.map_cons, List.sum_cons, sum_mul c r]; rw [Int.mul_add]
theorem map_getD (ws : List Int) (f : Int → Int) : (List.range ws.length).map (fun i => f (ws.getD i 0)) = ws.map f := by
  apply List.ext_getElem
  · simp
  · intro i h1 h2
    simp at h1
    simp [List.getD, h1]
theorem own_bk {w : World} {g base n : Nat} {l : List Int} (h : Bk w g 3 (ic l)) (hb : base ≤ g) (hn : l.length = n) (hm : n ≤ 1000) : OwnIn w base (.slice (some ⟨g, 0, none⟩) n n) l := by
  subst hn
  have hsz : (ic l).size = l.length := by simp [ic]
  refine ⟨by rw [rowL_len inC_sz], .inr ⟨g, l.length, ic l, rfl, hb, h, Nat.le_refl _, by unfold maxLen; omega, by rw [hsz, Nat.mul_one], ?_⟩⟩
  rw [in_rowL, Nat.mul_one]
  have e : (ic l).toList = l.map (Value.int .i64) := by simp [ic]
  rw [e, List.take_of_length_le (by simp)]
theorem oK_mem {n : Nat} {z : Int} (h : z ∈ oK n n) : ∃ i : Nat, i < n ∧ z = (i : Int) := by
  unfold oK at h
  obtain ⟨i, hi, rfl⟩ := List.mem_map.1 h
  have := List.mem_range.1 hi
  exact ⟨i, this, by rw [if_pos this]⟩
theorem insJ_mem {α : Type} (c : α → α → Bool) : ∀ (j : Nat) (l : List α), ∀ z ∈ insJ c j l, z ∈ l
  | 0, _, _, h => h
  | j + 1, l, z, h => by
    unfold insJ at h
    split at h
    · next x y hx hy =>
      split at h
      · have h2 := insJ_mem c j _ z h
        rcases List.mem_or_eq_of_mem_set h2 with h2 | rfl
        · rcases List.mem_or_eq_of_mem_set h2 with h2 | rfl
          · exact h2
          · exact List.mem_of_getElem? hy
        · exact List.mem_of_getElem? hx
      · exact h
    · exact h
theorem isF_mem {α : Type} (c : α → α → Bool) : ∀ (n i : Nat) (l : List α), ∀ z ∈ isF c n i l, z ∈ l
  | 0, _, _, _, h => h
  | n + 1, i, l, z, h => insJ_mem c i l z (isF_mem c n (i + 1) _ z h)
theorem isrt_mem {α : Type} (c : α → α → Bool) (l : List α) : ∀ z ∈ isrt c l, z ∈ l := isF_mem c _ _ l
/-- What is left is no more than there are parts. -/
theorem lf_bnd {c : Int} {ws : List Int} (he : spE c ws = 0) : 0 ≤ lK c ws ws.length ∧ lK c ws ws.length ≤ (ws.length : Int) := by
  obtain ⟨h1, h2, h3, h4⟩ := spE_ok he
  have hs := spA_bnd h3
  have hs0 : 0 < ws.sum := by omega
  have hfl : (List.range ws.length).map (flI c ws) = ws.map (fun x => c * x / ws.sum) := map_getD ws (fun x => c * x / ws.sum)
  have key : ∀ l : List Int, ws.sum * (l.map (fun x => c * x / ws.sum)).sum ≤ c * l.sum ∧ c * l.sum ≤ ws.sum * (l.map (fun x => c * x / ws.sum)).sum + ws.sum * (l.length : Int) := by
    intro l
    induction l with
    | nil => simp
    | cons x r ih =>
      have e1 := Int.emod_nonneg (c * x) (show ws.sum ≠ 0 by omega)
      have e2 := Int.emod_lt_of_pos (c * x) hs0
      have e3 := Int.mul_ediv_add_emod (c * x) ws.sum
      simp only [List.map_cons, List.sum_cons, List.length_cons]
      rw [Int.mul_add, Int.mul_add]
      push_cast
      rw [Int.mul_add]
      omega
  have k1 := key ws
  unfold lK
  rw [hfl]
  obtain ⟨a1, a2⟩ := k1
  generalize (ws.map (fun x => c * x / ws.sum)).sum = F at a1 a2 ⊢
  have b1 : ws.sum * F ≤ ws.sum * c := by rw [Int.mul_comm ws.sum c]; exact a1
  have b2 : ws.sum * c ≤ ws.sum * (F + (ws.length : Int)) := by rw [Int.mul_add, Int.mul_comm ws.sum c]; exact a2
  have c1 := Int.le_of_mul_le_mul_left b1 hs0
  have c2 := Int.le_of_mul_le_mul_left b2 hs0
  omega
/-- The order in which parts get one more. -/
def spO (c : Int) (ws : List Int) : List Int := isrt (fun x y : Int => decide (cpI (restI c ws y.toNat) (restI c ws x.toNat) < 0)) (oK ws.length ws.length)
def incI (l : List Int) (i : Int) : List Int := l.set i.toNat (l.getD i.toNat 0 + 1)
def spP (c : Int) (ws : List Int) : List Int := ((spO c ws).take (lK c ws ws.length).toNat).foldl incI (pK c ws ws.length)
def SpRel (w : World) (c : Int) (v : Value) (ws : List Int) (gC gW gS gP gO : Nat) (s10 s34 : Value) (wr : World) : Prop :=
  ∃ k : Nat, k ≤ ws.length ∧ s34 = .int .i64 k ∧ s10 = .int .i64 (lK c ws k) ∧ Bk wr gP 3 (ic (pK c ws k)) ∧ Bk wr gO 3 (ic (oK ws.length k)) ∧ Bk wr gC 3 #[.int .i64 c] ∧ Bk wr gW 22 #[v] ∧ Bk wr gS 3 #[.int .i64 ws.sum] ∧ G w wr none
def SqRel (w : World) (gP base n lf : Nat) (SO P0 : List Int) (s66 : Value) (wr : World) : Prop :=
  ∃ (k : Nat) (P : List Int), k ≤ lf ∧ s66 = .int .i64 k ∧ (SO.take k).foldl incI P0 = P ∧ P.length = n ∧ (∀ i : Nat, 0 ≤ P.getD i 0 ∧ P.getD i 0 ≤ 5761440000000000 + (k : Int)) ∧ Bk wr gP 3 (ic P) ∧ OwnIn wr base (.slice (some ⟨base, 0, none⟩) n n) SO ∧ G w wr none
theorem pK_bnd {c : Int} {ws : List Int} (he : spE c ws = 0) (i : Nat) : 0 ≤ (pK c ws ws.length).getD i 0 ∧ (pK c ws ws.length).getD i 0 ≤ 5761440000000000 := by
  rw [List.getD_eq_getElem?_getD]
  cases h : (pK c ws ws.length)[i]? with
  | none => simp
  | some z =>
    have hm := List.mem_of_getElem? h
    unfold pK at hm
    obtain ⟨j, hj, rfl⟩ := List.mem_map.1 hm
    rw [if_pos (List.mem_range.1 hj)]
    exact fl_bnd he j
end Go.Proofs.YtkpmcakppiinlaaDoor

/- Split: who gets one more (mathematics). No program. -/
namespace Go.Proofs.YtkpmcakppiinlaaDoor
open Go.RowKit

/-- A number goes into a list that is told from its end on. -/
def insR {α : Type} (c : α → α → Bool) : List α → α → List α
  | [], x => [x]
  | y :: q, x => if c x y = true then y :: insR c q x else x :: y :: q
theorem insR_perm {α : Type} (c : α → α → Bool) : ∀ (q : List α) (x : α), (insR c q x).Perm (x :: q)
  | [], x => List.Perm.refl _
  | y :: q, x => by
    unfold insR
    split
    · exact ((insR_perm c q x).cons y).trans (List.Perm.swap x y q)
    · exact List.Perm.refl _
theorem insR_mem {α : Type} {c : α → α → Bool} {q : List α} {x z : α} (h : z ∈ insR c q x) : z = x ∨ z ∈ q := by
  have := (insR_perm c q x).mem_iff.1 h
  simpa using this
/-- It stays sorted. -/
theorem insR_sort {α : Type} (c : α → α → Bool) (lt : α → α → Prop) (tr : ∀ a b d, lt a b → lt b d → lt a d) : ∀ (q : List α) (x : α), q.Pairwise (fun a b => lt b a) → (∀ y ∈ q, (c x y = true → lt x y) ∧ (c x y = false → lt y x)) → (insR c q x).Pairwise (fun a b => lt b a)
  | [], x, _, _ => by unfold insR; exact List.pairwise_singleton _ _
  | y :: q, x, h, hc => by
    obtain ⟨h1, h2⟩ := List.pairwise_cons.1 h
    unfold insR
    by_cases hxy : c x y = true
    · rw [if_pos hxy]
      refine List.pairwise_cons.2 ⟨fun z hz => ?_, insR_sort c lt tr q x h2 (fun z hz => hc z (List.mem_cons_of_mem _ hz))⟩
      rcases insR_mem hz with rfl | hz
      · exact (hc y List.mem_cons_self).1 hxy
      · exact h1 z hz
    · rw [if_neg hxy]
      have hyx := (hc y List.mem_cons_self).2 (by simpa using hxy)
      refine List.pairwise_cons.2 ⟨fun z hz => ?_, h⟩
      rcases List.mem_cons.1 hz with rfl | hz
      · exact hyx
      · exact tr _ _ _ (h1 z hz) hyx
/-- What one number's way down is. -/
theorem insJ_eq {α : Type} (c : α → α → Bool) : ∀ (q : List α) (x : α) (s : List α), insJ c q.length (q.reverse ++ x :: s) = (insR c q x).reverse ++ s
  | [], x, s => rfl
  | y :: q, x, s => by
    have hx : ((y :: q).reverse ++ x :: s)[q.length + 1]? = some x := by
      rw [List.getElem?_append_right (by simp)]; simp
    have hy : ((y :: q).reverse ++ x :: s)[q.length]? = some y := by
      rw [List.getElem?_append_left (by simp), List.reverse_cons, List.getElem?_append_right (by simp)]; simp
    rw [List.length_cons, insJ, hx, hy]
    simp only
    unfold insR
    by_cases hc : c x y = true
    · rw [if_pos hc, if_pos hc]
      have e : (((y :: q).reverse ++ x :: s).set (q.length + 1) y).set q.length x = q.reverse ++ x :: (y :: s) := by
        rw [List.reverse_cons, List.append_assoc]
        rw [List.set_append_right _ _ (by simp), List.set_append_right _ _ (by simp)]
        simp
      rw [e, insJ_eq c q x (y :: s)]
      simp
    · rw [if_neg hc, if_neg hc]
      simp
/-- What the whole sort is: the numbers go in, one after the other. -/
theorem isF_eq {α : Type} (c : α → α → Bool) : ∀ (s q : List α), isF c s.length q.length (q.reverse ++ s) = (s.foldl (insR c) q).reverse
  | [], q => by simp [isF]
  | x :: s, q => by
    rw [List.length_cons, isF, insJ_eq c q x s]
    have hl : q.length + 1 = (insR c q x).length := by rw [(insR_perm c q x).length_eq]; rfl
    rw [hl, isF_eq c s (insR c q x)]
    rfl
theorem isrt_eq {α : Type} (c : α → α → Bool) (l : List α) : isrt c l = (l.foldl (insR c) []).reverse := by
  cases l with
  | nil => rfl
  | cons x s =>
    have := isF_eq c s [x]
    simp only [List.reverse_cons, List.reverse_nil, List.nil_append, List.length_cons, List.length_nil, List.cons_append] at this
    unfold isrt
    rw [List.length_cons, Nat.add_sub_cancel]
    rw [show (0 + 1 : Nat) = 1 from rfl] at this
    rw [this]
    rfl
theorem foldR_perm {α : Type} (c : α → α → Bool) : ∀ (s q : List α), (s.foldl (insR c) q).Perm (s ++ q)
  | [], q => List.Perm.refl _
  | x :: s, q => by
    rw [List.foldl_cons]
    refine (foldR_perm c s _).trans ?_
    refine ((insR_perm c q x).append_left s).trans ?_
    exact List.perm_middle
/-- Sorted, where each that goes in is told apart from those that are in. -/
theorem foldR_sort {α : Type} (c : α → α → Bool) (lt : α → α → Prop) (tr : ∀ a b d, lt a b → lt b d → lt a d) : ∀ (s q : List α), q.Pairwise (fun a b => lt b a) → (∀ x ∈ s, ∀ y ∈ q, (c x y = true → lt x y) ∧ (c x y = false → lt y x)) →
    s.Pairwise (fun y x => (c x y = true → lt x y) ∧ (c x y = false → lt y x)) → (s.foldl (insR c) q).Pairwise (fun a b => lt b a)
  | [], q, h, _, _ => h
  | x :: s, q, h, hc, hs => by
    obtain ⟨h1, h2⟩ := List.pairwise_cons.1 hs
    rw [List.foldl_cons]
    refine foldR_sort c lt tr s _ (insR_sort c lt tr q x h (hc x List.mem_cons_self)) (fun z hz y hy => ?_) h2
    rcases insR_mem hy with rfl | hy
    · exact h1 z hz
    · exact hc z (List.mem_cons_of_mem _ hz) y hy
end Go.Proofs.YtkpmcakppiinlaaDoor

/- Two rising lists put together: sorted (stable), what is equal once, no two at one place; and step by step (mathematics). No program. -/
namespace Go.Proofs.YtkpmcakppiinlaaDoor
open Go.RowKit

structure OrdC {α : Type} (c : α → α → Int) : Prop where
  anti : ∀ x y, c x y < 0 ↔ 0 < c y x
  trans : ∀ x y z, c x y ≤ 0 → c y z ≤ 0 → c x z ≤ 0
theorem OrdC.lt_le {α : Type} {c : α → α → Int} (h : OrdC c) {x y z : α} (h1 : c x y < 0) (h2 : c y z ≤ 0) : c x z < 0 := by
  have a1 := h.trans x y z (by omega) h2
  have a2 := h.anti x y
  have a3 := h.anti x z
  have a4 := h.anti z x
  have a5 := h.anti y x
  have a6 := h.trans y z x h2
  omega
theorem OrdC.le_lt {α : Type} {c : α → α → Int} (h : OrdC c) {x y z : α} (h1 : c x y ≤ 0) (h2 : c y z < 0) : c x z < 0 := by
  have a1 := h.trans x y z h1 (by omega)
  have a2 := h.anti y z
  have a3 := h.anti x z
  have a4 := h.anti z x
  have a5 := h.anti z y
  have a6 := h.trans z x y
  omega
theorem OrdC.self {α : Type} {c : α → α → Int} (h : OrdC c) (x : α) : c x x = 0 := by
  have := h.anti x x
  omega
theorem OrdC.zero {α : Type} {c : α → α → Int} (h : OrdC c) {x y : α} (e : c x y = 0) : c y x = 0 := by
  have a1 := h.anti x y
  have a2 := h.anti y x
  omega
/-- The two lists merged, the first one's elements first where two have one place. -/
def stmI {α : Type} (c : α → α → Int) (x : α) (f : List α → List α) : List α → List α
  | [] => x :: f []
  | y :: b => if 0 < c x y then y :: stmI c x f b else x :: f (y :: b)
def stm {α : Type} (c : α → α → Int) : List α → List α → List α
  | [], b => b
  | x :: a, b => stmI c x (stm c a) b
theorem stm_nil {α : Type} (c : α → α → Int) : ∀ a : List α, stm c a [] = a
  | [] => rfl
  | x :: a => by show x :: stm c a [] = _; rw [stm_nil c a]
theorem stm_cons {α : Type} (c : α → α → Int) (x y : α) (a b : List α) : stm c (x :: a) (y :: b) = if 0 < c x y then y :: stm c (x :: a) b else x :: stm c a (y :: b) := rfl
/-- Put together step by step; none: two that differ have one place. -/
def mgI {α : Type} [DecidableEq α] (c : α → α → Int) (x : α) (a : List α) (f : List α → Option (List α)) : List α → Option (List α)
  | [] => some (x :: a)
  | y :: b => if c x y = 0 then (if x = y then (f b).map (x :: ·) else none) else if c x y < 0 then (f (y :: b)).map (x :: ·) else (mgI c x a f b).map (y :: ·)
def mg {α : Type} [DecidableEq α] (c : α → α → Int) : List α → List α → Option (List α)
  | [], b => some b
  | x :: a, b => mgI c x a (mg c a) b
theorem mg_nil {α : Type} [DecidableEq α] (c : α → α → Int) : ∀ a : List α, mg c a [] = some a
  | [] => rfl
  | _ :: _ => rfl
theorem mg_cons {α : Type} [DecidableEq α] (c : α → α → Int) (x y : α) (a b : List α) : mg c (x :: a) (y :: b) = if c x y = 0 then (if x = y then (mg c a b).map (x :: ·) else none) else if c x y < 0 then (mg c a (y :: b)).map (x :: ·) else (mg c (x :: a) b).map (y :: ·) := rfl
theorem mg_comm {α : Type} [DecidableEq α] {c : α → α → Int} (h : OrdC c) : ∀ (n : Nat) (a b : List α), a.length + b.length ≤ n → mg c a b = mg c b a
  | _, [], b, _ => by rw [mg_nil]; rfl
  | _, a, [], _ => by rw [mg_nil]; rfl
  | 0, x :: a, y :: b, hn => by simp at hn
  | n + 1, x :: a, y :: b, hn => by
    simp only [List.length_cons] at hn
    have a1 := h.anti x y
    have a2 := h.anti y x
    rw [mg_cons, mg_cons]
    by_cases e : c x y = 0
    · rw [if_pos e, if_pos (h.zero e)]
      by_cases e2 : x = y
      · subst e2
        rw [if_pos rfl, if_pos rfl, mg_comm h n a b (by omega)]
      · rw [if_neg e2, if_neg (fun q => e2 q.symm)]
    · rw [if_neg e, if_neg (by omega : ¬ c y x = 0)]
      by_cases e3 : c x y < 0
      · rw [if_pos e3, if_neg (by omega : ¬ c y x < 0), mg_comm h n a (y :: b) (by simp only [List.length_cons]; omega)]
      · rw [if_neg e3, if_pos (by omega : c y x < 0), mg_comm h n (x :: a) b (by simp only [List.length_cons]; omega)]
/-- An element goes into a rising list, behind those of its place. -/
def insF {α : Type} (c : α → α → Int) (x : α) : List α → List α
  | [] => [x]
  | y :: l => if c x y < 0 then x :: y :: l else y :: insF c x l
theorem insR_all {α : Type} (d : α → α → Bool) (x : α) : ∀ q : List α, (∀ z ∈ q, d x z = true) → insR d q x = q ++ [x]
  | [], _ => rfl
  | y :: q, hq => by
    unfold insR
    rw [if_pos (hq y List.mem_cons_self), insR_all d x q (fun z hz => hq z (List.mem_cons_of_mem _ hz))]
    rfl
theorem insR_last {α : Type} (d : α → α → Bool) (x y : α) (hy : d x y = false) : ∀ q : List α, insR d (q ++ [y]) x = insR d q x ++ [y]
  | [] => by show insR d [y] x = _; unfold insR; rw [if_neg (by simp [hy])]; rfl
  | z :: q => by
    show insR d (z :: (q ++ [y])) x = _
    unfold insR
    by_cases hz : d x z = true
    · rw [if_pos hz, if_pos hz, insR_last d x y hy q]; rfl
    · rw [if_neg hz, if_neg hz]; rfl
theorem insR_insF {α : Type} {c : α → α → Int} (h : OrdC c) (x : α) : ∀ l : List α, l.Pairwise (fun p q => c p q ≤ 0) → insR (fun p q => decide (c p q < 0)) l.reverse x = (insF c x l).reverse
  | [], _ => rfl
  | y :: l, hl => by
    obtain ⟨h1, h2⟩ := List.pairwise_cons.1 hl
    unfold insF
    by_cases hxy : c x y < 0
    · rw [if_pos hxy, insR_all]
      · simp
      · intro z hz
        rw [List.mem_reverse] at hz
        rcases List.mem_cons.1 hz with rfl | hz
        · simpa using hxy
        · simpa using h.lt_le hxy (h1 z hz)
    · rw [if_neg hxy, List.reverse_cons, insR_last _ _ _ (by simpa using hxy), insR_insF h x l h2, List.reverse_cons]
theorem insF_mem {α : Type} {c : α → α → Int} {x z : α} : ∀ {l : List α}, z ∈ insF c x l → z = x ∨ z ∈ l
  | [], hz => by
    rcases List.mem_cons.1 hz with e | e
    · exact Or.inl e
    · cases e
  | y :: l, hz => by
    unfold insF at hz
    split at hz
    · rcases List.mem_cons.1 hz with e | e
      · exact Or.inl e
      · exact Or.inr e
    · rcases List.mem_cons.1 hz with e | e
      · exact Or.inr (e ▸ List.mem_cons_self)
      · rcases insF_mem e with e | e
        · exact Or.inl e
        · exact Or.inr (List.mem_cons_of_mem _ e)
theorem insF_sort {α : Type} {c : α → α → Int} (h : OrdC c) (x : α) : ∀ l : List α, l.Pairwise (fun p q => c p q ≤ 0) → (insF c x l).Pairwise (fun p q => c p q ≤ 0)
  | [], _ => List.pairwise_singleton _ _
  | y :: l, hl => by
    obtain ⟨h1, h2⟩ := List.pairwise_cons.1 hl
    unfold insF
    by_cases hxy : c x y < 0
    · rw [if_pos hxy]
      refine List.pairwise_cons.2 ⟨fun z hz => ?_, hl⟩
      rcases List.mem_cons.1 hz with rfl | hz
      · omega
      · have := h.lt_le hxy (h1 z hz)
        omega
    · rw [if_neg hxy]
      refine List.pairwise_cons.2 ⟨fun z hz => ?_, insF_sort h x l h2⟩
      rcases insF_mem hz with rfl | hz
      · have := h.anti z y
        have := h.anti y z
        omega
      · exact h1 z hz
theorem stm_insF {α : Type} {c : α → α → Int} (h : OrdC c) (y : α) (b : List α) (hb : ∀ z ∈ b, c y z ≤ 0) : ∀ a : List α, stm c (insF c y a) b = stm c a (y :: b)
  | [] => by
    cases b with
    | nil => rfl
    | cons z b =>
      have := hb z List.mem_cons_self
      show stm c [y] (z :: b) = y :: z :: b
      rw [stm_cons, if_neg (by omega)]
      rfl
  | x :: a => by
    have a1 := h.anti y x
    have a2 := h.anti x y
    unfold insF
    by_cases hyx : c y x < 0
    · rw [if_pos hyx, stm_cons c x y a b, if_pos (by omega)]
      cases b with
      | nil => rfl
      | cons z b =>
        have := hb z List.mem_cons_self
        rw [stm_cons, if_neg (by omega)]
    · rw [if_neg hyx, stm_cons c x y a b, if_neg (by omega), ← stm_insF h y b hb a]
      cases b with
      | nil => rfl
      | cons z b =>
        have q := hb z List.mem_cons_self
        have q2 := h.trans x y z (by omega) q
        rw [stm_cons, if_neg (by omega)]
theorem fold_sm {α : Type} {c : α → α → Int} (h : OrdC c) : ∀ (b a : List α), a.Pairwise (fun p q => c p q ≤ 0) → b.Pairwise (fun p q => c p q ≤ 0) → b.foldl (insR (fun p q => decide (c p q < 0))) a.reverse = (stm c a b).reverse
  | [], a, _, _ => by rw [stm_nil]; rfl
  | y :: b, a, ha, hb => by
    obtain ⟨h1, h2⟩ := List.pairwise_cons.1 hb
    rw [List.foldl_cons, insR_insF h y a ha, fold_sm h b _ (insF_sort h y a ha) h2, stm_insF h y b h1]
/-- The stable sort of two rising lists, one behind the other, is the two merged. -/
theorem isrt_sm {α : Type} {c : α → α → Int} (h : OrdC c) (a b : List α) (ha : a.Pairwise (fun p q => c p q ≤ 0)) (hb : b.Pairwise (fun p q => c p q ≤ 0)) : isrt (fun p q => decide (c p q < 0)) (a ++ b) = stm c a b := by
  have e1 : (a ++ b).foldl (insR (fun p q => decide (c p q < 0))) [] = (stm c a b).reverse := by
    have e2 := fold_sm h a [] List.Pairwise.nil ha
    have e3 := fold_sm h b a ha hb
    rw [List.reverse_nil] at e2
    rw [List.foldl_append, e2]
    exact e3
  have e4 : ∀ l : List α, isrt (fun p q => decide (c p q < 0)) l = (l.foldl (insR (fun p q => decide (c p q < 0))) []).reverse := fun l => by
    cases l with
    | nil => rfl
    | cons x s =>
      have := isF_eq (fun p q => decide (c p q < 0)) s [x]
      unfold isrt
      rw [List.length_cons, Nat.add_sub_cancel]
      exact this
  rw [e4, e1, List.reverse_reverse]
/-- Two neighbours have one place. -/
def tieL {α : Type} (c : α → α → Int) : List α → Bool
  | x :: y :: r => decide (c x y = 0) || tieL c (y :: r)
  | _ => false
def goO {α : Type} [DecidableEq α] (c : α → α → Int) : Option α → List α → Option (List α)
  | _, [] => some []
  | none, x :: r => (goO c (some x) r).map (x :: ·)
  | some q, x :: r => if x = q then goO c (some q) r else if c q x = 0 then none else (goO c (some x) r).map (x :: ·)
theorem goO_lt {α : Type} [DecidableEq α] {c : α → α → Int} (h : OrdC c) (p : Option α) (x : α) (r : List α) (hp : ∀ q, p = some q → c q x < 0) : goO c p (x :: r) = (goO c (some x) r).map (x :: ·) := by
  cases p with
  | none => rfl
  | some q =>
    have h1 := hp q rfl
    have h2 : ¬ x = q := fun e => by subst e; have := h.self x; omega
    show (if x = q then _ else if c q x = 0 then _ else _) = _
    rw [if_neg h2, if_neg (by omega)]
theorem goO_rise {α : Type} [DecidableEq α] {c : α → α → Int} (h : OrdC c) : ∀ (l : List α) (p : Option α), (∀ q, p = some q → ∀ x ∈ l, c q x < 0) → l.Pairwise (fun p q => c p q < 0) → goO c p l = some l
  | [], p, _, _ => by cases p <;> rfl
  | x :: l, p, hp, hl => by
    obtain ⟨h1, h2⟩ := List.pairwise_cons.1 hl
    rw [goO_lt h p x l (fun q e => hp q e x List.mem_cons_self), goO_rise h l (some x) (fun q e z hz => by cases e; exact h1 z hz) h2]
    rfl
theorem goO_mg {α : Type} [DecidableEq α] {c : α → α → Int} (h : OrdC c) : ∀ (n : Nat) (a b : List α) (p : Option α), a.length + b.length ≤ n → (∀ q, p = some q → ∀ x ∈ a, c q x < 0) → (∀ q, p = some q → ∀ x ∈ b, c q x < 0) → a.Pairwise (fun p q => c p q < 0) → b.Pairwise (fun p q => c p q < 0) → goO c p (stm c a b) = mg c a b
  | _, [], b, p, _, _, hb, _, h2 => goO_rise h b p hb h2
  | _, x :: a, [], p, _, ha, _, h1, _ => by rw [stm_nil, mg_nil]; exact goO_rise h _ p ha h1
  | 0, x :: a, y :: b, _, hn, _, _, _, _ => by simp at hn
  | n + 1, x :: a, y :: b, p, hn, ha, hb, h1, h2 => by
    simp only [List.length_cons] at hn
    obtain ⟨i1, i2⟩ := List.pairwise_cons.1 h1
    obtain ⟨j1, j2⟩ := List.pairwise_cons.1 h2
    have a1 := h.anti x y
    have a2 := h.anti y x
    rw [stm_cons, mg_cons]
    by_cases e : c x y = 0
    · rw [if_pos e, if_neg (by omega), goO_lt h p x _ (fun q e => ha q e x List.mem_cons_self)]
      have e5 : stm c a (y :: b) = y :: stm c a b := by
        cases a with
        | nil => rfl
        | cons z a =>
          have k1 := i1 z List.mem_cons_self
          have k2 := h.le_lt (x := y) (y := x) (z := z) (by omega) k1
          have k3 := h.anti y z
          rw [stm_cons, if_pos (by omega)]
      rw [e5]
      by_cases e2 : x = y
      · subst e2
        rw [if_pos rfl]
        show (if x = x then _ else _ : Option (List α)).map _ = _
        rw [if_pos rfl, goO_mg h n a b (some x) (by omega) (fun q e z hz => by cases e; exact i1 z hz) (fun q e z hz => by cases e; exact j1 z hz) i2 j2]
      · rw [if_neg e2]
        show (if y = x then _ else if c x y = 0 then _ else _ : Option (List α)).map _ = _
        rw [if_neg (fun q => e2 q.symm), if_pos e]
        rfl
    · rw [if_neg e]
      by_cases e3 : c x y < 0
      · rw [if_pos e3, if_neg (by omega), goO_lt h p x _ (fun q e => ha q e x List.mem_cons_self), goO_mg h n a (y :: b) (some x) (by simp only [List.length_cons]; omega) (fun q e z hz => by cases e; exact i1 z hz) (fun q e z hz => by
          cases e
          rcases List.mem_cons.1 hz with rfl | hz
          · exact e3
          · exact h.lt_le e3 (by have := j1 z hz; omega)) i2 h2]
      · rw [if_neg e3, if_pos (by omega), goO_lt h p y _ (fun q e => hb q e y List.mem_cons_self), goO_mg h n (x :: a) b (some y) (by simp only [List.length_cons]; omega) (fun q e z hz => by
          cases e
          rcases List.mem_cons.1 hz with rfl | hz
          · omega
          · exact h.lt_le (x := y) (y := x) (by omega) (by have := i1 z hz; omega)) (fun q e z hz => by cases e; exact j1 z hz) h1 j2]
/-- With the program's types: what is left of neighbours that are equal, and whether two have one place. -/
theorem goO_cp [DecidableEq Pa] {c : Pa → Pa → Int} : ∀ (l : List Pa) (p : Pa), goO c (some p) l = if tieL c (p :: cpE (fun x y => decide (x = y)) p l) = true then none else some (cpE (fun x y => decide (x = y)) p l)
  | [], p => by show some [] = if tieL c [p] = true then none else some []; rw [if_neg (by simp [tieL])]
  | x :: r, p => by
    show (if x = p then _ else if c p x = 0 then _ else _) = if tieL c (p :: (if decide (x = p) = true then cpE _ x r else x :: cpE _ x r)) = true then none else some (if decide (x = p) = true then cpE _ x r else x :: cpE _ x r)
    by_cases e : x = p
    · subst e
      simp only [decide_true, if_true]
      exact goO_cp r x
    · rw [if_neg e]
      simp only [e, decide_false, Bool.false_eq_true, if_false]
      show _ = if (decide (c p x = 0) || tieL c (x :: cpE (fun x y => decide (x = y)) x r)) = true then none else _
      by_cases e2 : c p x = 0
      · simp [e2]
      · rw [if_neg e2, goO_cp r x]
        simp only [e2, decide_false, Bool.false_or]
        split <;> rfl
theorem mg_ref [DecidableEq Pa] {c : Pa → Pa → Int} (h : OrdC c) (a b : List Pa) (h1 : a.Pairwise (fun p q => c p q < 0)) (h2 : b.Pairwise (fun p q => c p q < 0)) :
    mg c a b = if tieL c (cpL (fun x y => decide (x = y)) (isrt (fun p q => decide (c p q < 0)) (a ++ b))) = true then none else some (cpL (fun x y => decide (x = y)) (isrt (fun p q => decide (c p q < 0)) (a ++ b))) := by
  rw [isrt_sm h a b (h1.imp (fun h => by omega)) (h2.imp (fun h => by omega)), ← goO_mg h _ a b none (Nat.le_refl _) (fun q e => by cases e) (fun q e => by cases e) h1 h2]
  cases stm c a b with
  | nil => rfl
  | cons x r =>
    show (goO c (some x) r).map (x :: ·) = if tieL c (x :: cpE _ x r) = true then none else some (x :: cpE _ x r)
    rw [goO_cp]
    split <;> rfl
end Go.Proofs.YtkpmcakppiinlaaDoor

/- Gates: their checks, the map of them, the true time. Written by gengat.py. -/
namespace Go.Proofs.YtkpmcakppiinlaaDoor
open Go.RowKit

/-- A gate: key, area, clock. -/
abbrev Ga := ByteArray × ByteArray × Int
def gaC (x : Ga) : Array Value := #[.string x.1, .string x.2.1, .int .i64 x.2.2]
theorem gaC_sz (x : Ga) : (gaC x).size = 3 := rfl
theorem ga_info (x : Ga) : (Tryd.prog.info? 51).map (·.size) = some (gaC x).size := (by kernel_rfl : (Tryd.prog.info? 51).map (·.size) = some 3)
def GaOk (l : List Ga) : Prop := ∀ x ∈ l, Small x.1 ∧ Small x.2.1
def gaErr (b : ByteArray) : List Ga → Int
  | [] => 0
  | x :: r => if keyB x.1 = false then 5 else if keyB x.2.1 = false then 5 else if leB x.1 b = true then 7 else if inB x.2.2 (-1440) 1440 = false then 1 else gaErr x.1 r
def gaE (l : List Ga) : Int := if 200 < l.length then 2 else gaErr ⟨#[]⟩ l
theorem gaRow {W w : World} {bb bo n cap : Nat} {l : List Ga} (h : RdR W 3 gaC (.slice (some ⟨bb, bo, none⟩) n cap) l) (hG : G W w none) {k : Nat} {p : Ga} (hp : l[k]? = some p) :
    ∀ j v, (gaC p).toList[j]? = some v → w.cell? ((⟨bb, bo + k * 3, none⟩ : Addr).add j) = some v := fun j v hv => by
  rw [add_at]
  exact RdR.cell gaC_sz h hG hp j v hv
def GaRel (w : World) (l : List Ga) (v i : Value) (wr : World) : Prop :=
  ∃ (k : Nat) (b : ByteArray), k ≤ l.length ∧ i = .int .i64 k ∧ v = .string b ∧ gaErr ⟨#[]⟩ l = gaErr b (l.drop k) ∧ G w wr none
theorem ga_rise (b : ByteArray) (l : List Ga) (h : gaErr b l = 0) : (Rise (l.map (·.1)) ∧ ∀ p ∈ l, cmpI b p.1 < 0) ∧ ∀ p ∈ l, -1440 ≤ p.2.2 ∧ p.2.2 ≤ 1440 := by
  induction l generalizing b with
  | nil => exact ⟨⟨List.Pairwise.nil, fun p hp => by cases hp⟩, fun p hp => by cases hp⟩
  | cons p r ih =>
    unfold gaErr at h
    split at h
    · omega
    · split at h
      · omega
      · split at h
        · omega
        · rename_i hle
          split at h
          · omega
          · rename_i ht
            obtain ⟨⟨i1, i2⟩, i3⟩ := ih p.1 h
            have hb : cmpI b p.1 < 0 := by
              rw [leB_cmp] at hle
              have h1 := cmpI_neg p.1 b
              simp at hle
              omega
            refine ⟨⟨List.pairwise_cons.2 ⟨fun s hs => ?_, i1⟩, fun q hq => ?_⟩, fun q hq => ?_⟩
            · obtain ⟨q, hq, rfl⟩ := List.mem_map.1 hs
              exact i2 q hq
            · rcases List.mem_cons.1 hq with rfl | hq
              · exact hb
              · exact cmpI_trans hb (i2 q hq)
            · rcases List.mem_cons.1 hq with rfl | hq
              · unfold inB at ht
                simp at ht
                omega
              · exact i3 q hq
theorem gaE_ok {l : List Ga} (h : gaE l = 0) : Rise (l.map (·.1)) ∧ (∀ p ∈ l, -1440 ≤ p.2.2 ∧ p.2.2 ≤ 1440) ∧ l.length ≤ 200 := by
  unfold gaE at h
  split at h
  · omega
  · exact ⟨(ga_rise _ _ h).1.1, (ga_rise _ _ h).2, by omega⟩
set_option maxRecDepth 100000 in
set_option maxHeartbeats 4000000 in
theorem checkGates_c (v : Value) (l : List Ga) (w : World) (hr : RdR w 3 gaC v l) (hl : GaOk l) (hn : l.length ≤ 1000000) :
    Calls Tryd.prog 12 #[v] w fun e w' => e = .returned (.int .i64 (gaE l)) ∧ G w w' none := by
  have HR := Lib.hid hr
  obtain ⟨a, cap, rfl, hcap, hm⟩ := RdR.form hr
  clear hr
  obtain ⟨E, hE⟩ : ∃ E, gaE l = E := ⟨_, rfl⟩
  have HEE := Lib.hid hE
  rw [hE]
  clear hE
  by_cases h30 : 200 < l.length
  · obtain rfl : E = 2 := by rw [← HEE.out]; simp [gaE, h30]
    go_enter Tryd.func12, Tryd.ntmps12
    go_wp2_with fail
    go_ret
    exact ⟨rfl, G.refl _ _⟩
  · have H := Lib.hid (show E = gaErr ⟨#[]⟩ l by rw [← HEE.out]; simp [gaE, h30])
    go_enter Tryd.func12, Tryd.ntmps12
    go_wp2_with fail
    go_loopw [3, 11] (GaRel w l) (fun _ i _ => l.length - (intOf i).toNat)
    case atStart => exact ⟨0, ⟨#[]⟩, by omega, rfl, rfl, rfl, G.refl _ _⟩
    case round =>
      obtain ⟨k, b, hkl, rfl, rfl, heq, hG⟩ := hrel
      have HE := Lib.hid heq
      clear heq
      by_cases hk : k < l.length
      · obtain ⟨⟨h, y, c⟩, hp⟩ : ∃ p, l[k]? = some p := ⟨_, List.getElem?_eq_getElem hk⟩
        have hdrop : l.drop k = (h, y, c) :: l.drop (k + 1) := by rw [List.drop_eq_getElem_cons hk, ← (List.getElem?_eq_some_iff.1 hp).2]
        have hs1 := hl _ (List.mem_of_getElem? hp)
        obtain ⟨hs1, hs2⟩ := hs1
        dsimp only at hs1 hs2
        unfold Small at hs1 hs2
        obtain ⟨bb, bo, rfl, hbb, _⟩ := RdR.elem gaC_sz HR.out hG hp
        have HW := Lib.hid (gaRow HR.out hG hp)
        have HS : Hid (gaErr b (l.drop k) = if keyB h = false then 5 else if keyB y = false then 5 else if leB h b = true then 7 else if inB c (-1440) 1440 = false then 1 else gaErr h (l.drop (k + 1))) := Lib.hid (by rw [hdrop]; rfl)
        have HK := Lib.hid hk
        have hB5 : Bk (wr.alloc (.cells #[.string h, .string y, .int .i64 c] 51)) wr.heap.size 51 #[.string h, .string y, .int .i64 c] := Bk.new wr 51 _
        have hG5 : G w (wr.alloc (.cells #[.string h, .string y, .int .i64 c] 51)) none := hG.alloc (.cells (gaC (h, y, c)) 51)
        clear hdrop hp hG
        go_upto_region 7 with (refine wpList_load_at rfl 51 _ rfl ⟨bb, bo + k * 3, none⟩ rfl #[.string h, .string y, .int .i64 c] _ HW.out Tryd.underlying51 rfl (ga_info (h, y, c)) ?_)
        clear HW
        generalize wr.alloc (.cells #[.string h, .string y, .int .i64 c] 51) = w5 at hB5 hG5 ⊢
        generalize wr.heap.size = g at hB5 ⊢
        have c0 : w5.cell? ⟨g, 0, none⟩ = some (.string h) := hB5.cell 0
        have c1 : w5.cell? ⟨g, 1, none⟩ = some (.string y) := hB5.cell 1
        have c2 : w5.cell? ⟨g, 2, none⟩ = some (.int .i64 c) := hB5.cell 2
        go_wp2_with fail
        refine (isKey_c _ _ hs1).mono ?_; rintro e w' ⟨rfl, rfl⟩
        cases k0 : keyB h with
        | false =>
          obtain rfl : E = 5 := by rw [H.out, HE.out, HS.out, if_pos k0]
          clear k0
          go_wp2_with fail
          go_ret
          exact ⟨rfl, hG5⟩
        | true =>
          have K0 := Lib.hid k0
          clear k0
          go_wp2_with fail
          refine (isKey_c _ _ hs2).mono ?_; rintro e w' ⟨rfl, rfl⟩
          cases k1 : keyB y with
          | false =>
            obtain rfl : E = 5 := by rw [H.out, HE.out, HS.out, if_neg (by simp [K0.out]), if_pos k1]
            clear k1
            go_wp2_with fail
            go_ret
            exact ⟨rfl, hG5⟩
          | true =>
            have K1 := Lib.hid k1
            clear k1
            cases hle : leB h b with
            | true =>
              obtain rfl : E = 7 := by rw [H.out, HE.out, HS.out, if_neg (by simp [K0.out]), if_neg (by simp [K1.out]), if_pos hle]
              unfold leB at hle
              go_wp2_with fail
              go_ret
              exact ⟨rfl, hG5⟩
            | false =>
              have HL := Lib.hid hle
              unfold leB at hle
              go_wp2_with fail
              refine (within_c c (-1440) 1440 _).mono ?_; rintro e w' ⟨rfl, rfl⟩
              cases kc : inB c (-1440) 1440 with
              | false =>
                obtain rfl : E = 1 := by rw [H.out, HE.out, HS.out, if_neg (by simp [K0.out]), if_neg (by simp [K1.out]), if_neg (by simp [HL.out]), if_pos kc]
                clear kc
                go_wp2_with fail
                go_ret
                exact ⟨rfl, hG5⟩
              | true =>
                have HF : Hid (gaErr ⟨#[]⟩ l = gaErr h (l.drop (k + 1))) := Lib.hid (by rw [HE.out, HS.out, if_neg (by simp [K0.out]), if_neg (by simp [K1.out]), if_neg (by simp [HL.out]), if_neg (by simp [kc])])
                clear kc
                go_wp2_with fail
                go_roundw
                case rel => exact ⟨k + 1, h, by omega, by go_num, rfl, HF.out, hG5⟩
                case measure => have := HK.out; simp [intOf]; omega
      · obtain rfl : k = l.length := by omega
        obtain rfl : E = 0 := by rw [H.out, HE.out, List.drop_length]; rfl
        go_wp2_with fail
        go_ret
        exact ⟨rfl, hG⟩
set_option maxRecDepth 100000 in
set_option maxHeartbeats 4000000 in
theorem gatesFault_c (v : Value) (l : List Ga) (w : World) (hr : RdR w 3 gaC v l) (hl : GaOk l) (hn : l.length ≤ 1000000) :
    Calls Tryd.prog 13 #[v] w fun e w' => e = .returned (.int .i64 (gaE l)) ∧ G w w' none := by
  have HR := Lib.hid hr
  obtain ⟨a, cap, rfl, hcap, hm⟩ := RdR.form hr
  clear hr
  obtain ⟨E, hE⟩ : ∃ E, gaE l = E := ⟨_, rfl⟩
  have HEE := Lib.hid hE
  rw [hE]
  clear hE
  by_cases h30 : 200 < l.length
  · obtain rfl : E = 2 := by rw [← HEE.out]; simp [gaE, h30]
    go_enter Tryd.func13, Tryd.ntmps13
    go_wp2_with fail
    go_ret
    exact ⟨rfl, G.refl _ _⟩
  · have H := Lib.hid (show E = gaErr ⟨#[]⟩ l by rw [← HEE.out]; simp [gaE, h30])
    go_enter Tryd.func13, Tryd.ntmps13
    go_wp2_with fail
    go_loopw [3, 11] (GaRel w l) (fun _ i _ => l.length - (intOf i).toNat)
    case atStart => exact ⟨0, ⟨#[]⟩, by omega, rfl, rfl, rfl, G.refl _ _⟩
    case round =>
      obtain ⟨k, b, hkl, rfl, rfl, heq, hG⟩ := hrel
      have HE := Lib.hid heq
      clear heq
      by_cases hk : k < l.length
      · obtain ⟨⟨h, y, c⟩, hp⟩ : ∃ p, l[k]? = some p := ⟨_, List.getElem?_eq_getElem hk⟩
        have hdrop : l.drop k = (h, y, c) :: l.drop (k + 1) := by rw [List.drop_eq_getElem_cons hk, ← (List.getElem?_eq_some_iff.1 hp).2]
        have hs1 := hl _ (List.mem_of_getElem? hp)
        obtain ⟨hs1, hs2⟩ := hs1
        dsimp only at hs1 hs2
        unfold Small at hs1 hs2
        obtain ⟨bb, bo, rfl, hbb, _⟩ := RdR.elem gaC_sz HR.out hG hp
        have HW := Lib.hid (gaRow HR.out hG hp)
        have HS : Hid (gaErr b (l.drop k) = if keyB h = false then 5 else if keyB y = false then 5 else if leB h b = true then 7 else if inB c (-1440) 1440 = false then 1 else gaErr h (l.drop (k + 1))) := Lib.hid (by rw [hdrop]; rfl)
        have HK := Lib.hid hk
        have hB5 : Bk (wr.alloc (.cells #[.string h, .string y, .int .i64 c] 51)) wr.heap.size 51 #[.string h, .string y, .int .i64 c] := Bk.new wr 51 _
        have hG5 : G w (wr.alloc (.cells #[.string h, .string y, .int .i64 c] 51)) none := hG.alloc (.cells (gaC (h, y, c)) 51)
        clear hdrop hp hG
        go_upto_region 7 with (refine wpList_load_at rfl 51 _ rfl ⟨bb, bo + k * 3, none⟩ rfl #[.string h, .string y, .int .i64 c] _ HW.out Tryd.underlying51 rfl (ga_info (h, y, c)) ?_)
        clear HW
        generalize wr.alloc (.cells #[.string h, .string y, .int .i64 c] 51) = w5 at hB5 hG5 ⊢
        generalize wr.heap.size = g at hB5 ⊢
        have c0 : w5.cell? ⟨g, 0, none⟩ = some (.string h) := hB5.cell 0
        have c1 : w5.cell? ⟨g, 1, none⟩ = some (.string y) := hB5.cell 1
        have c2 : w5.cell? ⟨g, 2, none⟩ = some (.int .i64 c) := hB5.cell 2
        go_wp2_with fail
        refine (rkey_c _ _ hs1).mono ?_; rintro e w6 ⟨rfl, hGk⟩
        have hB6 := hB5.quiet hGk
        have hG6 := hG5.trans hGk
        clear hGk c0 c1 c2 hB5 hG5
        have c0 : w6.cell? ⟨g, 0, none⟩ = some (.string h) := hB6.cell 0
        have c1 : w6.cell? ⟨g, 1, none⟩ = some (.string y) := hB6.cell 1
        have c2 : w6.cell? ⟨g, 2, none⟩ = some (.int .i64 c) := hB6.cell 2
        cases k0 : keyB h with
        | false =>
          obtain rfl : E = 5 := by rw [H.out, HE.out, HS.out, if_pos k0]
          clear k0
          go_wp2_with fail
          go_ret
          exact ⟨rfl, hG6⟩
        | true =>
          have K0 := Lib.hid k0
          clear k0
          go_wp2_with fail
          refine (rkey_c _ _ hs2).mono ?_; rintro e w7 ⟨rfl, hGk⟩
          have hB7 := hB6.quiet hGk
          have hG7 := hG6.trans hGk
          clear hGk c0 c1 c2 hB6 hG6
          have c0 : w7.cell? ⟨g, 0, none⟩ = some (.string h) := hB7.cell 0
          have c1 : w7.cell? ⟨g, 1, none⟩ = some (.string y) := hB7.cell 1
          have c2 : w7.cell? ⟨g, 2, none⟩ = some (.int .i64 c) := hB7.cell 2
          cases k1 : keyB y with
          | false =>
            obtain rfl : E = 5 := by rw [H.out, HE.out, HS.out, if_neg (by simp [K0.out]), if_pos k1]
            clear k1
            go_wp2_with fail
            go_ret
            exact ⟨rfl, hG7⟩
          | true =>
            have K1 := Lib.hid k1
            clear k1
            cases hle : leB h b with
            | true =>
              obtain rfl : E = 7 := by rw [H.out, HE.out, HS.out, if_neg (by simp [K0.out]), if_neg (by simp [K1.out]), if_pos hle]
              unfold leB at hle
              go_wp2_with fail
              go_ret
              exact ⟨rfl, hG7⟩
            | false =>
              have HL := Lib.hid hle
              unfold leB at hle
              go_wp2_with fail
              refine (in2_c c (-1440) 1440 _).mono ?_; rintro e w' ⟨rfl, rfl⟩
              cases kc : inB c (-1440) 1440 with
              | false =>
                obtain rfl : E = 1 := by rw [H.out, HE.out, HS.out, if_neg (by simp [K0.out]), if_neg (by simp [K1.out]), if_neg (by simp [HL.out]), if_pos kc]
                clear kc
                go_wp2_with fail
                go_ret
                exact ⟨rfl, hG7⟩
              | true =>
                have HF : Hid (gaErr ⟨#[]⟩ l = gaErr h (l.drop (k + 1))) := Lib.hid (by rw [HE.out, HS.out, if_neg (by simp [K0.out]), if_neg (by simp [K1.out]), if_neg (by simp [HL.out]), if_neg (by simp [kc])])
                clear kc
                go_wp2_with fail
                go_roundw
                case rel => exact ⟨k + 1, h, by omega, by go_num, rfl, HF.out, hG7⟩
                case measure => have := HK.out; simp [intOf]; omega
      · obtain rfl : k = l.length := by omega
        obtain rfl : E = 0 := by rw [H.out, HE.out, List.drop_length]; rfl
        go_wp2_with fail
        go_ret
        exact ⟨rfl, hG⟩
/-! ### The map -/
def gaS : List Ga → ByteArray → Option Ga
  | [], _ => none
  | p :: r, s => match gaS r s with | some u => some u | none => if s = p.1 then some p else none
def gaF (f : Fn) : List Ga → Fn
  | [] => f
  | p :: r => gaF (fput f p.1 (.agg (gaC p))) r
def gaN (c : Nat) (f : Fn) : List Ga → Nat
  | [] => c
  | p :: r => gaN (cput c f p.1) (fput f p.1 (.agg (gaC p))) r
theorem gaS_cons (p : Ga) (r : List Ga) (s : ByteArray) : gaS (p :: r) s = match gaS r s with | some u => some u | none => if s = p.1 then some p else none := rfl
theorem gaF_eq (f : Fn) (l : List Ga) (s : ByteArray) : gaF f l s = match gaS l s with | some u => some (.agg (gaC u)) | none => f s := by
  induction l generalizing f with
  | nil => rfl
  | cons p r ih =>
    show gaF (fput f p.1 (.agg (gaC p))) r s = _
    rw [ih, gaS_cons]
    cases h : gaS r s with
    | some u => rfl
    | none =>
      simp only [fput]
      by_cases e : s = p.1
      · simp [e]
      · simp [e]
theorem gaF_at (l : List Ga) (s : ByteArray) : gaF eF l s = (gaS l s).map (fun u => .agg (gaC u)) := by
  rw [gaF_eq]
  unfold eF
  cases gaS l s <;> rfl
theorem gaN_le (c : Nat) (f : Fn) (l : List Ga) : gaN c f l ≤ c + l.length := by
  induction l generalizing c f with
  | nil => simp [gaN]
  | cons p r ih =>
    have h1 := ih (cput c f p.1) (fput f p.1 (.agg (gaC p)))
    have h2 : cput c f p.1 ≤ c + 1 := by unfold cput; split <;> omega
    show gaN (cput c f p.1) (fput f p.1 (.agg (gaC p))) r ≤ _
    simp only [List.length_cons]
    omega
theorem gaF_snoc (f : Fn) (l : List Ga) (p : Ga) : gaF f (l ++ [p]) = fput (gaF f l) p.1 (.agg (gaC p)) := by
  induction l generalizing f with
  | nil => rfl
  | cons q r ih => exact ih _
theorem gaN_snoc (c : Nat) (f : Fn) (l : List Ga) (p : Ga) : gaN c f (l ++ [p]) = cput (gaN c f l) (gaF f l) p.1 := by
  induction l generalizing c f with
  | nil => rfl
  | cons q r ih => exact ih _ _
theorem gaS_mem {l : List Ga} {s : ByteArray} {u : Ga} (h : gaS l s = some u) : u ∈ l ∧ u.1 = s := by
  induction l with
  | nil => cases h
  | cons p r ih =>
    rw [gaS_cons] at h
    cases hr : gaS r s with
    | some v =>
      rw [hr] at h
      have := ih (by rw [hr]; exact h)
      exact ⟨List.mem_cons_of_mem _ this.1, this.2⟩
    | none =>
      rw [hr] at h
      dsimp only at h
      split at h
      · cases h
        rename_i e
        exact ⟨List.mem_cons_self .., e.symm⟩
      · cases h
def clk (l : List Ga) (s : ByteArray) : Int := match gaS l s with | some u => u.2.2 | none => 0
abbrev MapG (w : World) (b c : Nat) (f : Fn) : Prop := OwnM Tryd.prog 9 w b c f
theorem zg_run (w : World) : (zeroValue 51).run Tryd.prog w = .ok (.agg #[.string ⟨#[]⟩, .string ⟨#[]⟩, .int .i64 0]) w := by kernel_rfl
def GtRel (w : World) (l : List Ga) (g : Nat) (i : Value) (wr : World) : Prop :=
  ∃ k : Nat, k ≤ l.length ∧ i = .int .i64 k ∧ MapG wr g (gaN 0 eF (l.take k)) (gaF eF (l.take k)) ∧ G w wr none
theorem take_snk {α : Type} {l : List α} {k : Nat} {x : α} (h : l[k]? = some x) : l.take (k + 1) = l.take k ++ [x] := by
  rw [List.take_add_one, h]; rfl
set_option maxRecDepth 100000 in
set_option maxHeartbeats 4000000 in
theorem gatesOf_c (v : Value) (l : List Ga) (w : World) (hr : RdR w 3 gaC v l) (hl : GaOk l) (hn : l.length ≤ 1000) :
    Calls Tryd.prog 39 #[v] w fun e w' => ∃ b : Nat, e = .returned (.map (some b)) ∧ w.heap.size ≤ b ∧ MapG w' b (gaN 0 eF l) (gaF eF l) ∧ G w w' none := by
  have HR := Lib.hid hr
  obtain ⟨a, cap, rfl, hcap, hm⟩ := RdR.form hr
  clear hr
  have hmm : ∀ (n : Nat) (w : World), (Instr.makeMap 65 (some (.int .i64 (n : Int)))).run Tryd.prog w = .ok (.map (some w.heap.size)) (w.alloc (.map #[] 0)) := fun _ _ => rfl
  go_enter Tryd.func39, Tryd.ntmps39
  go_wp2_with fail
  go_loopw [11] (GtRel w l w.heap.size) (fun i _ => l.length - (intOf i).toNat)
  case atStart => exact ⟨0, by omega, rfl, OwnM.made _ _ _ rfl, (G.refl _ _).alloc _⟩
  case round =>
    obtain ⟨k, hkl, rfl, hM, hG⟩ := hrel
    by_cases hk : k < l.length
    · obtain ⟨⟨h, y, c⟩, hp⟩ : ∃ p, l[k]? = some p := ⟨_, List.getElem?_eq_getElem hk⟩
      obtain ⟨hs1, -⟩ := hl _ (List.mem_of_getElem? hp)
      dsimp only at hs1
      unfold Small at hs1
      obtain ⟨bb, bo, rfl, hbb, _⟩ := RdR.elem gaC_sz HR.out hG hp
      have HW := Lib.hid (gaRow HR.out hG hp)
      have hcc := gaN_le 0 eF (l.take k)
      have hct : (l.take k).length ≤ k := List.length_take_le _ _
      have HT : Hid (cput (gaN 0 eF (l.take k)) (gaF eF (l.take k)) h = gaN 0 eF (l.take (k + 1)) ∧ fput (gaF eF (l.take k)) h (.agg #[.string h, .string y, .int .i64 c]) = gaF eF (l.take (k + 1))) := Lib.hid (by rw [take_snk hp, gaN_snoc, gaF_snoc]; exact ⟨rfl, rfl⟩)
      have hclt : gaN 0 eF (l.take k) < maxLen := by unfold maxLen; omega
      have HK := Lib.hid hk
      have hgl := hM.lt
      have hB5 : Bk (wr.alloc (.cells #[.string h, .string y, .int .i64 c] 51)) wr.heap.size 51 #[.string h, .string y, .int .i64 c] := Bk.new wr 51 _
      have hG5 : G w (wr.alloc (.cells #[.string h, .string y, .int .i64 c] 51)) none := hG.alloc (.cells (gaC (h, y, c)) 51)
      have hM5 := hM.alloc (.cells #[.string h, .string y, .int .i64 c] 51)
      clear hp hcc hct hG hM
      go_upto_region 5 with (refine wpList_load_at rfl 51 _ rfl ⟨bb, bo + k * 3, none⟩ rfl #[.string h, .string y, .int .i64 c] _ HW.out Tryd.underlying51 rfl (ga_info (h, y, c)) ?_)
      clear HW
      generalize wr.alloc (.cells #[.string h, .string y, .int .i64 c] 51) = w5 at hB5 hG5 hM5 ⊢
      generalize wr.heap.size = g at hB5 hgl ⊢
      have c0 : w5.cell? ⟨g, 0, none⟩ = some (.string h) := hB5.cell 0
      go_wp2_with (first | (refine wpList_load_row rfl 51 _ rfl g rfl 51 #[.string h, .string y, .int .i64 c] (0, 0) _ hB5 Tryd.underlying51 rfl (ga_info (h, y, c)) ?_) | (at_mapUpdate; refine wpM_store rfl _ _ _ 65 rfl 9 51 Tryd.underlying9 Tryd.underlying65 w.heap.size _ _ rfl hM5 hclt h rfl hs1 (.agg #[.string h, .string y, .int .i64 c]) rfl ?_; intro w6 hM6 hG6))
      rw [HT.out.1, HT.out.2] at hM6
      refine ⟨⟨k + 1, by have := HK.out; omega, by go_num, hM6, ?_⟩, by have := HK.out; simp only [intOf]; omega⟩
      exact hG5.other hG6 (fun j e => .inl (by obtain rfl := Option.some.inj e; exact Nat.le_refl _))
    · obtain rfl : k = l.length := by omega
      rw [List.take_length] at hM
      go_wp2_with fail
      go_ret
      exact ⟨_, rfl, Nat.le_refl _, hM, hG⟩
set_option maxRecDepth 100000 in
set_option maxHeartbeats 4000000 in
theorem trueTime_c (b c : Nat) (l : List Ga) (x : Pa) (w : World) (hM : MapG w b c (gaF eF l)) (hs : Small x.2.1) (hx : -1000000000 ≤ x.1 ∧ x.1 ≤ 1000000000) (hl : ∀ p ∈ l, -1440 ≤ p.2.2 ∧ p.2.2 ≤ 1440) :
    Calls Tryd.prog 41 #[.map (some b), .agg (paC x)] w fun e w' => e = .returned (.int .i64 (x.1 - clk l x.2.1)) ∧ G w w' none := by
  obtain ⟨t, g, y, z⟩ := x
  dsimp only at hs hx ⊢
  unfold Small at hs
  obtain ⟨R, hR⟩ : ∃ R, t - clk l g = R := ⟨_, rfl⟩
  have HR := Lib.hid hR
  rw [hR]
  clear hR
  have hB : Bk (w.alloc (.cells #[.int .i64 t, .string g, .string y, .int .i64 z] 34)) w.heap.size 34 #[.int .i64 t, .string g, .string y, .int .i64 z] := Bk.new _ _ _
  have hG := (G.refl w none).alloc (.cells #[.int .i64 t, .string g, .string y, .int .i64 z] 34)
  have hM1 := hM.alloc (.cells #[.int .i64 t, .string g, .string y, .int .i64 z] 34)
  have hF := gaF_at l g
  clear hM
  show Calls Tryd.prog 41 #[.map (some b), .agg #[.int .i64 t, .string g, .string y, .int .i64 z]] w _
  go_enter Tryd.func41, Tryd.ntmps41
  go_upto_region 1 with fail
  generalize w.alloc (.cells #[.int .i64 t, .string g, .string y, .int .i64 z] 34) = w1 at hB hG hM1 ⊢
  generalize w.heap.size = gp at hB ⊢
  have c0 : w1.cell? ⟨gp, 0, none⟩ = some (.int .i64 t) := hB.cell 0
  have c1 : w1.cell? ⟨gp, 1, none⟩ = some (.string g) := hB.cell 1
  generalize gaF eF l = f at hM1 hF ⊢
  have hfd : ∀ (x1 x2 : ByteArray) (x3 : Int) (w : World), (Instr.field 51 (.agg #[.string x1, .string x2, .int .i64 x3]) 2).run Tryd.prog w = .ok (.int .i64 x3) w := fun _ _ _ _ => by kernel_rfl
  cases hg : gaS l g with
  | none =>
    have hfs : f g = none := by rw [hF, hg]; rfl
    obtain rfl : R = t := by rw [← HR.out, clk, hg]; simp
    have hw : IntKind.i64.wrap R = R := by rw [IntKind.wrap_i64]; omega
    clear hg hF
    go_wp2_with (at_lookup; refine wpM_look rfl _ _ 65 rfl 9 51 Tryd.underlying9 Tryd.underlying65 (.agg #[.string ⟨#[]⟩, .string ⟨#[]⟩, .int .i64 0]) (zg_run _) b c f rfl hM1 g rfl hs ?_; rw [hfs])
    go_ret
    exact ⟨rfl, hG⟩
  | some u =>
    obtain ⟨k, a, q⟩ := u
    have hb := hl _ (gaS_mem hg).1
    dsimp only at hb
    have hfs : f g = some (.agg #[.string k, .string a, .int .i64 q]) := by rw [hF, hg]; rfl
    obtain rfl : R = t - q := by rw [← HR.out, clk, hg]
    have hw : IntKind.i64.wrap (t - q) = t - q := by rw [IntKind.wrap_i64]; omega
    clear hg hF
    go_wp2_with (at_lookup; refine wpM_look rfl _ _ 65 rfl 9 51 Tryd.underlying9 Tryd.underlying65 (.agg #[.string ⟨#[]⟩, .string ⟨#[]⟩, .int .i64 0]) (zg_run _) b c f rfl hM1 g rfl hs ?_; rw [hfs])
    go_ret
    exact ⟨rfl, hG⟩
end Go.Proofs.YtkpmcakppiinlaaDoor

/- Charges: their checks. Written by genchr.py. -/
namespace Go.Proofs.YtkpmcakppiinlaaDoor
open Go.RowKit

/-- A charge: hire, vehicle, passage, cents. -/
abbrev Cg := ByteArray × ByteArray × Int × Int
def cgC (x : Cg) : Array Value := #[.string x.1, .string x.2.1, .int .i64 x.2.2.1, .int .i64 x.2.2.2]
theorem cgC_sz (x : Cg) : (cgC x).size = 4 := rfl
def CgOk (l : List Cg) : Prop := ∀ x ∈ l, Small x.1 ∧ Small x.2.1
def cgErr (b : Int) : List Cg → Int
  | [] => 0
  | x :: r => if kn x.1 = false then 5 else if kn x.2.1 = false then 5 else if x.2.2.1 < 0 then 1 else if x.2.2.1 ≤ b then 7 else if inB x.2.2.2 0 1000000 = false then 1 else cgErr x.2.2.1 r
def cgE (l : List Cg) : Int := if 1000 < l.length then 2 else cgErr (-1) l
def cgB (l : List Cg) : Nat → Int
  | 0 => -1
  | m + 1 => match l[m]? with | some x => x.2.2.1 | none => -1
theorem cgRow {W w : World} {bb bo n cap : Nat} {l : List Cg} (h : RdR W 4 cgC (.slice (some ⟨bb, bo, none⟩) n cap) l) (hG : G W w none) {k : Nat} {p : Cg} (hp : l[k]? = some p) :
    ∀ j v, (cgC p).toList[j]? = some v → w.cell? ((⟨bb, bo + k * 4, none⟩ : Addr).add j) = some v := fun j v hv => by
  rw [add_at]
  exact RdR.cell cgC_sz h hG hp j v hv
def CgRel (w : World) (l : List Cg) (v i : Value) (wr : World) : Prop :=
  ∃ (k : Nat) (b : Int), k ≤ l.length ∧ i = .int .i64 k ∧ v = .int .i64 b ∧ cgErr (-1) l = cgErr b (l.drop k) ∧ G w wr none
def CgfRel (w : World) (l : List Cg) (i : Value) (wr : World) : Prop :=
  ∃ k : Nat, k ≤ l.length ∧ i = .int .i64 k ∧ cgErr (-1) l = cgErr (cgB l k) (l.drop k) ∧ G w wr none
end Go.Proofs.YtkpmcakppiinlaaDoor

/- Lines: CheckLines, LinesFault, sumOf, Total, SumOf. Written by genlin.py. -/
namespace Go.Proofs.YtkpmcakppiinlaaDoor
open Go.RowKit

/-- A line: kind, key, cents. -/
abbrev Li := Int × ByteArray × Int
def liC (x : Li) : Array Value := #[.int .i64 x.1, .string x.2.1, .int .i64 x.2.2]
theorem liC_sz (x : Li) : (liC x).size = 3 := rfl
def LiOk (l : List Li) : Prop := ∀ x ∈ l, Small x.2.1
def liErr : List Li → Int
  | [] => 0
  | x :: r => if inB x.1 1 6 = false then 4 else if keyB x.2.1 = false then 5 else if inB x.2.2 (-1000000000) 1000000000 = false then 1 else liErr r
def liE (l : List Li) : Int := if 1000 < l.length then 2 else liErr l
/-- What the lines cost in all. -/
def liS (l : List Li) : Int := (l.map fun x => x.2.2).sum
def LiB (l : List Li) : Prop := ∀ x ∈ l, -1000000000 ≤ x.2.2 ∧ x.2.2 ≤ 1000000000
theorem liErr_b : ∀ (l : List Li), liErr l = 0 → LiB l
  | [], _, p, hp => by cases hp
  | x :: r, h, p, hp => by
    unfold liErr at h
    split at h
    · omega
    · split at h
      · omega
      · split at h
        · omega
        · rename_i h3
          rcases List.mem_cons.1 hp with rfl | hp
          · simpa [inB] using h3
          · exact liErr_b r h p hp
theorem liE_ok {l : List Li} (h : liE l = 0) : LiB l ∧ l.length ≤ 1000 := by
  unfold liE at h
  split at h
  · omega
  · exact ⟨liErr_b l h, by omega⟩
theorem liS_step (l : List Li) (k : Nat) (p : Li) (hp : l[k]? = some p) : liS (l.take (k + 1)) = liS (l.take k) + p.2.2 := by
  unfold liS
  rw [List.take_add_one, hp]
  simp
theorem liS_bnd (l : List Li) (hb : LiB l) : ∀ k, k ≤ l.length → -(1000000000 * (k : Int)) ≤ liS (l.take k) ∧ liS (l.take k) ≤ 1000000000 * (k : Int)
  | 0, _ => by simp [liS]
  | k + 1, h => by
    obtain ⟨p, hp⟩ : ∃ p, l[k]? = some p := ⟨_, List.getElem?_eq_getElem (by omega)⟩
    have h1 := liS_bnd l hb k (by omega)
    have h2 := hb p (List.mem_of_getElem? hp)
    rw [liS_step l k p hp]
    omega
def LiRel (w : World) (l : List Li) (i : Value) (wr : World) : Prop :=
  ∃ k : Nat, k ≤ l.length ∧ i = .int .i64 k ∧ liErr l = liErr (l.drop k) ∧ G w wr none
def LsuRel (w : World) (l : List Li) (s i : Value) (wr : World) : Prop :=
  ∃ k : Nat, k ≤ l.length ∧ i = .int .i64 k ∧ s = .int .i64 (liS (l.take k)) ∧ G w wr none
theorem liRow {W w : World} {bb bo n cap : Nat} {l : List Li} (h : RdR W 3 liC (.slice (some ⟨bb, bo, none⟩) n cap) l) (hG : G W w none) {k : Nat} {p : Li} (hp : l[k]? = some p) :
    ∀ j v, (liC p).toList[j]? = some v → w.cell? ((⟨bb, bo + k * 3, none⟩ : Addr).add j) = some v := fun j v hv => by
  rw [add_at]
  exact RdR.cell liC_sz h hG hp j v hv
def toN (l : List Li) : Int := if liE l = 0 then liS l else 0
end Go.Proofs.YtkpmcakppiinlaaDoor

/- Generator: the lines of a bill. Written by genlin.py. -/
namespace Go.Proofs.YtkpmcakppiinlaaDoor
open Go.RowKit

theorem li_oneL (r : Li) : ∀ u ∈ (liC r).toList, u.oneCell' = true := by
  intro u hu
  simp [liC] at hu
  rcases hu with rfl | rfl | rfl <;> rfl
theorem LiOk.snoc {l : List Li} {r : Li} (h : LiOk l) (hr : Small r.2.1) : LiOk (l ++ [r]) := fun p hp => by
  rcases List.mem_append.1 hp with hp | hp
  · exact h p hp
  · obtain rfl := List.mem_singleton.1 hp
    exact hr
theorem LiOk.set {l : List Li} (h : LiOk l) {r : Li} (hr : Small r.2.1) (k : Nat) : LiOk (l.set k r) := fun p hp => by
  rcases List.mem_or_eq_of_mem_set hp with hp | rfl
  · exact h p hp
  · exact hr
end Go.Proofs.YtkpmcakppiinlaaDoor

/- Split: a part gets one more if fewer others come before it than are left (mathematics). No program. -/
namespace Go.Proofs.YtkpmcakppiinlaaDoor
open Go.RowKit

def ltI (c : Int) (ws : List Int) (a b : Int) : Prop := restI c ws b.toNat < restI c ws a.toNat ∨ (restI c ws a.toNat = restI c ws b.toNat ∧ a < b)
theorem ltI_tr (c : Int) (ws : List Int) (a b d : Int) (h : ltI c ws a b) (k : ltI c ws b d) : ltI c ws a d := by
  unfold ltI at *
  omega
theorem ltI_ir (c : Int) (ws : List Int) (a : Int) : ¬ ltI c ws a a := by
  unfold ltI
  omega
theorem ltI_as {c : Int} {ws : List Int} {a b : Int} (h : ltI c ws a b) : ¬ ltI c ws b a := by
  unfold ltI at *
  omega
theorem cpI_neg' (a b : Int) : decide (cpI a b < 0) = decide (a < b) := by
  unfold cpI
  by_cases h : a < b
  · rw [if_pos h]; simp [h]
  · rw [if_neg h]
    split <;> simp [h]
theorem oK_full (n : Nat) : oK n n = (List.range n).map (fun i : Nat => (i : Int)) := by
  unfold oK
  apply List.map_congr_left
  intro i hi
  rw [if_pos (List.mem_range.1 hi)]
theorem spO_perm (c : Int) (ws : List Int) : (spO c ws).Perm (oK ws.length ws.length) := by
  unfold spO
  rw [isrt_eq]
  have := foldR_perm (fun x y : Int => decide (cpI (restI c ws y.toNat) (restI c ws x.toNat) < 0)) (oK ws.length ws.length) []
  rw [List.append_nil] at this
  exact (List.reverse_perm _).trans this
theorem spO_sort (c : Int) (ws : List Int) : (spO c ws).Pairwise (ltI c ws) := by
  unfold spO
  rw [isrt_eq, List.pairwise_reverse]
  refine foldR_sort _ (ltI c ws) (ltI_tr c ws) _ [] List.Pairwise.nil (fun x _ y hy => by cases hy) ?_
  rw [oK_full, List.pairwise_map]
  refine List.Pairwise.imp ?_ (List.pairwise_lt_range)
  intro y x hyx
  simp only [cpI_neg', decide_eq_true_eq, decide_eq_false_iff_not]
  unfold ltI
  simp only [Int.toNat_natCast]
  omega
instance (c : Int) (ws : List Int) (a b : Int) : Decidable (ltI c ws a b) := by unfold ltI; infer_instance
/-- In a sorted list as many come before one as stand before it. -/
theorem count_at {c : Int} {ws : List Int} {l : List Int} (hs : l.Pairwise (ltI c ws)) {k : Nat} {z : Int} (hz : l[k]? = some z) : l.countP (fun a => decide (ltI c ws a z)) = k := by
  have hk := (List.getElem?_eq_some_iff.1 hz).1
  have e : l = l.take k ++ z :: l.drop (k + 1) := by
    have h0 := List.take_append_drop k l
    rw [List.drop_eq_getElem_cons hk, (List.getElem?_eq_some_iff.1 hz).2] at h0
    exact h0.symm
  have hs2 := hs
  rw [e] at hs2
  obtain ⟨_, h2, h3⟩ := List.pairwise_append.1 hs2
  obtain ⟨h4, _⟩ := List.pairwise_cons.1 h2
  rw [e, List.countP_append, List.countP_cons]
  have a1 : (l.take k).countP (fun a => decide (ltI c ws a z)) = k := by
    rw [List.countP_eq_length.2 (fun a ha => by simpa using h3 a ha z List.mem_cons_self), List.length_take]
    omega
  have a2 : (l.drop (k + 1)).countP (fun a => decide (ltI c ws a z)) = 0 := by
    rw [List.countP_eq_zero]
    intro a ha
    simpa using ltI_as (h4 a ha)
  rw [a1, a2]
  simp [ltI_ir]
theorem mem_take {c : Int} {ws : List Int} {l : List Int} (hs : l.Pairwise (ltI c ws)) {z : Int} (hz : z ∈ l) (m : Nat) : z ∈ l.take m ↔ l.countP (fun a => decide (ltI c ws a z)) < m := by
  constructor
  · intro h
    obtain ⟨k, hk⟩ := List.getElem?_of_mem h
    have hk2 : l[k]? = some z ∧ k < m := by
      rw [List.getElem?_take] at hk
      split at hk
      · exact ⟨hk, by assumption⟩
      · cases hk
    rw [count_at hs hk2.1]
    exact hk2.2
  · intro h
    obtain ⟨k, hk⟩ := List.getElem?_of_mem hz
    rw [count_at hs hk] at h
    exact List.mem_of_getElem? (i := k) (by rw [List.getElem?_take, if_pos h]; exact hk)
theorem incs_get : ∀ (S P : List Int), S.Nodup → (∀ z ∈ S, ∃ i : Nat, i < P.length ∧ z = (i : Int)) → (S.foldl incI P).length = P.length ∧ ∀ j : Nat, j < P.length → (S.foldl incI P).getD j 0 = P.getD j 0 + (if (j : Int) ∈ S then 1 else 0)
  | [], P, _, _ => ⟨rfl, fun j _ => by simp⟩
  | z :: S, P, hn, hz => by
    obtain ⟨i, hi, rfl⟩ := hz z List.mem_cons_self
    obtain ⟨n1, n2⟩ := List.nodup_cons.1 hn
    have hl : (incI P (i : Int)).length = P.length := by simp [incI]
    obtain ⟨g1, g2⟩ := incs_get S (incI P (i : Int)) n2 (fun z hz' => by rw [hl]; exact hz z (List.mem_cons_of_mem _ hz'))
    rw [List.foldl_cons]
    refine ⟨g1.trans hl, fun j hj => ?_⟩
    rw [g2 j (by rw [hl]; exact hj)]
    have hinc : (incI P (i : Int)).getD j 0 = P.getD j 0 + (if j = i then 1 else 0) := by
      unfold incI
      rw [Int.toNat_natCast, List.getD_eq_getElem?_getD]
      by_cases e : i = j
      · subst e
        rw [List.getElem?_set_self hi, if_pos rfl]
        rfl
      · rw [List.getElem?_set_ne e, if_neg (fun q => e q.symm), ← List.getD_eq_getElem?_getD]
        omega
    rw [hinc]
    by_cases e : j = i
    · subst e
      rw [if_pos rfl, if_neg n1, if_pos List.mem_cons_self]
      omega
    · rw [if_neg e]
      have : ((j : Int) ∈ (i : Int) :: S) ↔ (j : Int) ∈ S := by
        rw [List.mem_cons]
        constructor
        · rintro (h | h)
          · exact absurd (by omega) e
          · exact h
        · exact .inr
      by_cases q : (j : Int) ∈ S
      · rw [if_pos q, if_pos (this.2 q)]; omega
      · rw [if_neg q, if_neg (fun x => q (this.1 x))]; omega
/-- Does a part come before another one? -/
def ahB (c : Int) (ws : List Int) (i k : Nat) : Bool := decide (restI c ws i < restI c ws k) || (decide (restI c ws k = restI c ws i) && decide (k < i))
def ahN (c : Int) (ws : List Int) (i : Nat) : Nat := (List.range ws.length).countP (ahB c ws i)
def rfP (c : Int) (ws : List Int) : List Int := (List.range ws.length).map fun i => flI c ws i + (if (ahN c ws i : Int) < lK c ws ws.length then 1 else 0)
theorem spP_eq {c : Int} {ws : List Int} (he : spE c ws = 0) : spP c ws = rfP c ws := by
  have hp := spO_perm c ws
  have hs := spO_sort c ws
  have hnd : (spO c ws).Nodup := hs.imp (fun {a b} h e => by subst e; exact ltI_ir _ _ _ h)
  have hin : ∀ z ∈ (spO c ws).take (lK c ws ws.length).toNat, ∃ i : Nat, i < (pK c ws ws.length).length ∧ z = (i : Int) := fun z hz => by
    rw [pK_len]
    exact oK_mem (hp.mem_iff.1 (List.mem_of_mem_take hz))
  obtain ⟨g1, g2⟩ := incs_get _ _ (hnd.sublist (List.take_sublist _ _)) hin
  have hlf := lf_bnd he
  unfold spP rfP
  apply List.ext_getElem
  · rw [g1, pK_len]; simp
  · intro i h1 h2
    have hi : i < ws.length := by rw [g1, pK_len] at h1; exact h1
    have q := g2 i (by rw [pK_len]; exact hi)
    rw [List.getD_eq_getElem?_getD, List.getElem?_eq_getElem h1] at q
    simp only [Option.getD_some] at q
    rw [q]
    simp only [List.getElem_map, List.getElem_range]
    have hpk : (pK c ws ws.length).getD i 0 = flI c ws i := by simp [pK, List.getD, hi]
    have hmem : (i : Int) ∈ spO c ws := hp.mem_iff.2 (by rw [oK_full]; exact List.mem_map.2 ⟨i, List.mem_range.2 hi, rfl⟩)
    have hcnt : (spO c ws).countP (fun a => decide (ltI c ws a i)) = ahN c ws i := by
      rw [hp.countP_eq, oK_full, List.countP_map]
      unfold ahN
      apply List.countP_congr
      intro k hk
      simp only [Function.comp_apply, ahB, Bool.or_eq_true, Bool.and_eq_true, decide_eq_true_eq]
      unfold ltI
      simp only [Int.toNat_natCast]
      omega
    rw [hpk]
    congr 1
    have hm := mem_take hs hmem (lK c ws ws.length).toNat
    rw [hcnt] at hm
    by_cases h : (i : Int) ∈ (spO c ws).take (lK c ws ws.length).toNat
    · rw [if_pos h, if_pos (by have := hm.1 h; omega)]
    · rw [if_neg h, if_neg (fun q => h (hm.2 (by omega)))]
end Go.Proofs.YtkpmcakppiinlaaDoor

/- Lists of ints compared; marked. -/
namespace Go.Proofs.YtkpmcakppiinlaaDoor
open Go.RowKit

def InqRel (l : List Int) (w : World) (i : Value) (wr : World) : Prop := ∃ k n : Nat, k ≤ l.length ∧ i = .int .i64 k ∧ wr = w.drewN n
set_option maxRecDepth 100000 in
set_option maxHeartbeats 2000000 in
theorem inEqual_c (v u : Value) (l : List Int) (w : World) (hr : RdI w v l) (hs : RdI w u l) (hn : l.length ≤ 1000000) :
    Calls Tryd.prog 45 #[v, u] w fun e w' => e = .returned (.bool true) ∧ G w w' none := by
  have HR := Lib.hid hr
  have HS := Lib.hid hs
  obtain ⟨a, cap, rfl, hcap, hm1⟩ := RdR.form hr
  obtain ⟨a2, cap2, rfl, hcap2, hm2⟩ := RdR.form hs
  clear hr hs
  have hlq : ((l.length : Int) != (l.length : Int)) = false := by simp
  go_enter Tryd.func45, Tryd.ntmps45
  go_wp2_with fail
  go_loopw [13] (InqRel l w) (fun i _ => l.length - (intOf i).toNat)
  case atStart => exact ⟨0, 0, by omega, rfl, rfl⟩
  case round =>
    obtain ⟨k, n, hk, rfl, rfl⟩ := hrel
    by_cases hlt : k < l.length
    · obtain ⟨x, hx⟩ : ∃ x, l[k]? = some x := ⟨_, List.getElem?_eq_getElem hlt⟩
      obtain ⟨bb, bo, rfl, hbb, _⟩ := RdR.elem inC_sz HR.out (G.refl w none) hx
      obtain ⟨b2, o2, rfl, hb2, _⟩ := RdR.elem inC_sz HS.out (G.refl w none) hx
      have d0 := RdR.cell inC_sz HR.out (G.refl w none) hx 0 (.int .i64 x) rfl
      have e0 := RdR.cell inC_sz HS.out (G.refl w none) hx 0 (.int .i64 x) rfl
      simp only [Nat.add_zero, Nat.mul_one] at d0 e0
      have hxx : (x != x) = false := by simp
      clear hx
      go_wp2_with fail
      go_quiet (fail)
      go_wp2_with fail
      go_roundw
      case rel => exact ⟨k + 1, _, by omega, by go_num, rfl⟩
      case measure => simp [intOf]; omega
    · obtain rfl : k = l.length := by omega
      go_wp2_with fail
      go_ret
      exact ⟨rfl, (G.refl _ _).drewN _⟩
theorem sp311 : spE 3 [1, 1] = 0 ∧ spP 3 [1, 1] = [2, 1] := by decide +kernel
end Go.Proofs.YtkpmcakppiinlaaDoor

/- rentref2.SplitOf. Written by genspo.py. -/
namespace Go.Proofs.YtkpmcakppiinlaaDoor
open Go.RowKit

def fK (c : Int) (ws : List Int) (k : Nat) : List Int := (List.range k).map (flI c ws)
theorem fK_step (c : Int) (ws : List Int) (k : Nat) : fK c ws (k + 1) = fK c ws k ++ [flI c ws k] := by
  unfold fK
  rw [List.range_succ, List.map_append]
  rfl
theorem fK_len (c : Int) (ws : List Int) (k : Nat) : (fK c ws k).length = k := by simp [fK]
def oneI (c : Int) (ws : List Int) (i : Nat) : Int := if (ahN c ws i : Int) < lK c ws ws.length then 1 else 0
def mK (c : Int) (ws : List Int) (k : Nat) : List Int := (List.range ws.length).map fun i => flI c ws i + (if i < k then oneI c ws i else 0)
theorem mK_len (c : Int) (ws : List Int) (k : Nat) : (mK c ws k).length = ws.length := by simp [mK]
theorem mK_0 (c : Int) (ws : List Int) : fK c ws ws.length = mK c ws 0 := by
  apply List.ext_getElem <;> simp [mK, fK]
theorem mK_all (c : Int) (ws : List Int) : mK c ws ws.length = rfP c ws := by
  unfold mK rfP
  apply List.map_congr_left
  intro i hi
  rw [if_pos (List.mem_range.1 hi)]
  rfl
theorem mK_step (c : Int) (ws : List Int) (k : Nat) : (mK c ws k).set k (flI c ws k + oneI c ws k) = mK c ws (k + 1) := by
  apply List.ext_getElem
  · simp [mK]
  · intro i h1 h2
    simp only [mK, List.getElem_set, List.getElem_map, List.getElem_range]
    by_cases h : k = i
    · rw [if_pos h, if_pos (by omega), h]
    · rw [if_neg h]
      by_cases q : i < k
      · rw [if_pos q, if_pos (by omega)]
      · rw [if_neg q, if_neg (by omega)]
def acN (c : Int) (ws : List Int) (i k : Nat) : Nat := (List.range k).countP (ahB c ws i)
theorem acN_step (c : Int) (ws : List Int) (i k : Nat) : acN c ws i (k + 1) = acN c ws i k + (if ahB c ws i k = true then 1 else 0) := by
  unfold acN
  rw [List.range_succ, List.countP_append, List.countP_singleton]
theorem acN_le (c : Int) (ws : List Int) (i k : Nat) : acN c ws i k ≤ k := by
  unfold acN
  have := List.countP_le_length (p := ahB c ws i) (l := List.range k)
  rwa [List.length_range] at this
def So1 (w : World) (ws : List Int) (s5 i : Value) (wr : World) : Prop := ∃ k : Nat, k ≤ ws.length ∧ i = .int .i64 k ∧ s5 = .int .i64 (ws.take k).sum ∧ w = wr
def So2 (w : World) (c : Int) (ws : List Int) (s8 s9 i : Value) (wr : World) : Prop := ∃ k : Nat, k ≤ ws.length ∧ i = .int .i64 k ∧ s9 = .int .i64 (lK c ws k) ∧ OwnIn wr w.heap.size s8 (fK c ws k) ∧ G w wr none
def So3 (w : World) (c : Int) (ws : List Int) (v : Value) (i : Value) (wr : World) : Prop := ∃ k : Nat, k ≤ ws.length ∧ i = .int .i64 k ∧ OwnIn wr w.heap.size v (mK c ws k) ∧ G w wr none
def So4 (w : World) (c : Int) (ws : List Int) (i : Nat) (s14 s61 : Value) (wr : World) : Prop := ∃ k : Nat, k ≤ ws.length ∧ s61 = .int .i64 k ∧ s14 = .int .i64 (acN c ws i k) ∧ G w wr none
theorem mK_at (c : Int) (ws : List Int) {i : Nat} (h : i < ws.length) : (mK c ws i)[i]? = some (flI c ws i) := by
  unfold mK
  rw [List.getElem?_map, List.getElem?_range h]
  simp
theorem ws_at {c : Int} {ws : List Int} (he : spE c ws = 0) {k : Nat} {p : Int} (hp : ws[k]? = some p) : (0 ≤ c * p ∧ c * p ≤ 5761440000000000) ∧ 0 < ws.sum ∧ flI c ws k = c * p / ws.sum ∧ restI c ws k = c * p % ws.sum := by
  obtain ⟨h1, h2, h3, h4⟩ := spE_ok he
  have hpb : 0 ≤ p ∧ p ≤ 5761440 := by have := h3 p (List.mem_of_getElem? hp); unfold inB at this; simpa using this
  have hsb := (spA_bnd h3)
  have hp1 : 0 ≤ c * p := Int.mul_nonneg h1.1 hpb.1
  have hp2 : c * p ≤ 1000000000 * 5761440 := Int.mul_le_mul h1.2 hpb.2 hpb.1 (by omega)
  refine ⟨⟨hp1, by omega⟩, by omega, ?_, ?_⟩
  · unfold flI; rw [List.getD_eq_getElem?_getD, hp]; rfl
  · unfold restI; rw [List.getD_eq_getElem?_getD, hp]; rfl
end Go.Proofs.YtkpmcakppiinlaaDoor

/- Lines of tolls: toll.Lines, the reference's TollLines. Written by gentln.py. -/
namespace Go.Proofs.YtkpmcakppiinlaaDoor
open Go.RowKit

def tlS (key : ByteArray) (l : List Cg) : Int := (l.map fun x => if x.1 = key then x.2.2.2 else 0).sum
def CgB (l : List Cg) : Prop := ∀ x ∈ l, 0 ≤ x.2.2.2 ∧ x.2.2.2 ≤ 1000000
theorem cgErr_b (b : Int) (l : List Cg) (h : cgErr b l = 0) : CgB l := by
  induction l generalizing b with
  | nil => exact fun p hp => by cases hp
  | cons p r ih =>
    unfold cgErr at h
    split at h
    · omega
    · split at h
      · omega
      · split at h
        · omega
        · split at h
          · omega
          · split at h
            · omega
            · rename_i ht
              have i3 := ih _ h
              intro q hq
              rcases List.mem_cons.1 hq with rfl | hq
              · unfold inB at ht
                simp at ht
                omega
              · exact i3 q hq
theorem cgE_ok {l : List Cg} (h : cgE l = 0) : CgB l ∧ l.length ≤ 1000 := by
  unfold cgE at h
  split at h
  · omega
  · exact ⟨cgErr_b _ _ h, by omega⟩
theorem tlS_bnd (key : ByteArray) {l : List Cg} (hb : CgB l) : 0 ≤ tlS key l ∧ tlS key l ≤ 1000000 * l.length := by
  induction l with
  | nil => simp [tlS]
  | cons s r ih =>
    have h1 := ih (fun x hx => hb x (List.mem_cons_of_mem _ hx))
    have h2 := hb s (List.mem_cons_self ..)
    have h4 : tlS key (s :: r) = (if s.1 = key then s.2.2.2 else 0) + tlS key r := by simp [tlS]
    rw [h4, List.length_cons]
    split <;> omega
theorem tlS_take (key : ByteArray) {l : List Cg} {k : Nat} {p : Cg} (h : l[k]? = some p) : tlS key (l.take (k + 1)) = tlS key (l.take k) + (if p.1 = key then p.2.2.2 else 0) := by
  unfold tlS
  rw [List.take_add_one, h, List.map_append, List.sum_append]
  simp
def tlL (fee sum : Int) : List Li := if sum = 0 then [] else if 0 < fee then [(6, ⟨#[116, 111, 108, 108]⟩, sum), (6, ⟨#[116, 111, 108, 108, 102, 101, 101]⟩, fee)] else [(6, ⟨#[116, 111, 108, 108]⟩, sum)]
def lnE (x : Tr) (l : List Cg) (key : ByteArray) : Int := if trE x = 0 then (if cgE l = 0 then (if keyB key = true then 0 else 5) else cgE l) else trE x
def lnL (x : Tr) (l : List Cg) (key : ByteArray) : List Li := if lnE x l key = 0 then tlL x.2.2 (tlS key l) else []
theorem tr_info (x : Tr) : (Tryd.prog.info? 73).map (·.size) = some (trC x).size := (by kernel_rfl : (Tryd.prog.info? 73).map (·.size) = some 3)
def TlRel (w : World) (l : List Cg) (key : ByteArray) (s i : Value) (wr : World) : Prop :=
  ∃ k : Nat, k ≤ l.length ∧ i = .int .i64 k ∧ s = .int .i64 (tlS key (l.take k)) ∧ G w wr none
end Go.Proofs.YtkpmcakppiinlaaDoor
