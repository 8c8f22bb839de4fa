/- Pof, Pmm, Peq, Mpk, Prk, Dbl, Dob, Er2, Pml, Lay. -/
import Derived.Test.YtkpmcakppiinlaaDoorZm4
import Derived.Test.YtkpmcakppiinlaaDoorZm3
import Derived.Test.YtkpmcakppiinlaaDoorZm1
import Derived.DeepKeys4
import Derived.Test.YtkpmcakppiinlaaDoorProg
import Derived.Deep.CutRange
import Derived.Test.YtkpmcakppiinlaaDoorRows
import Derived.Test.YtkpmcakppiinlaaDoorTie
import Derived.Test.YtkpmcakppiinlaaDoorCards
import Derived.LaidMore
import Derived.ChangeSame
import Derived.ProofKit
import Derived.OpenShut
import Derived.PinnedBridge
import Derived.Deep.DeepHandedRow
import Derived.Deep.DeepWitnessRowRef
/- rentref2.PassagesOf. Written by genpof.py. -/
namespace Go.Proofs.YtkpmcakppiinlaaDoor
open Go.RowKit

theorem cpE_mem {ef : Pa → Pa → Bool} : ∀ (l : List Pa) (p z : Pa), z ∈ cpE ef p l → z ∈ l
  | [], _, _, h => by cases h
  | x :: r, p, z, h => by
    unfold cpE at h
    split at h
    · exact List.mem_cons_of_mem _ (cpE_mem r x z h)
    · rcases List.mem_cons.1 h with rfl | h
      · exact List.mem_cons_self
      · exact List.mem_cons_of_mem _ (cpE_mem r x z h)
theorem cpL_mem {ef : Pa → Pa → Bool} {l : List Pa} {z : Pa} (h : z ∈ cpL ef l) : z ∈ l := by
  cases l with
  | nil => cases h
  | cons x r =>
    rcases List.mem_cons.1 h with rfl | h
    · exact List.mem_cons_self
    · exact List.mem_cons_of_mem _ (cpE_mem r x z h)
theorem cpE_len {ef : Pa → Pa → Bool} : ∀ (l : List Pa) (p : Pa), (cpE ef p l).length ≤ l.length
  | [], _ => Nat.le_refl _
  | x :: r, p => by
    have := cpE_len (ef := ef) r x
    unfold cpE
    split <;> simp only [List.length_cons] <;> omega
theorem cpL_len {ef : Pa → Pa → Bool} (l : List Pa) : (cpL ef l).length ≤ l.length := by
  cases l with
  | nil => exact Nat.le_refl _
  | cons x r =>
    have := cpE_len (ef := ef) r x
    show (x :: cpE ef x r).length ≤ _
    simp only [List.length_cons]
    omega
theorem tie_step {l : List Pa} {m : Nat} {x y : Pa} (hx : l[m]? = some x) (hy : l[m + 1]? = some y) : tieL cmpP (l.drop m) = (decide (cmpP x y = 0) || tieL cmpP (l.drop (m + 1))) := by
  obtain ⟨h1, e1⟩ := List.getElem?_eq_some_iff.1 hx
  obtain ⟨h2, e2⟩ := List.getElem?_eq_some_iff.1 hy
  rw [List.drop_eq_getElem_cons h1, e1, List.drop_eq_getElem_cons h2, e2]
  rfl
theorem tie_end {l : List Pa} {k : Nat} (h : l.length ≤ k) : tieL cmpP (l.drop (k - 1)) = false := by
  have hl : (l.drop (k - 1)).length ≤ 1 := by rw [List.length_drop]; omega
  match l.drop (k - 1), hl with
  | [], _ => rfl
  | [_], _ => rfl
def pofL (A B : List Pa) : List Pa := cpL eqP (isrt (fun x y => decide (cmpP x y < 0)) (A ++ B))
def PofPost (A B : List Pa) (w : World) (e : Ending) (w' : World) : Prop :=
  G w w' none ∧ ∃ v', e = .returned (.tuple #[v', .int .i64 (if tieL cmpP (pofL A B) = true then 13 else 0)]) ∧ RdR w' 4 paC v' (if tieL cmpP (pofL A B) = true then [] else pofL A B)
def PofRel (w : World) (L : List Pa) (i : Value) (wr : World) : Prop :=
  ∃ k : Nat, k ≤ L.length ∧ i = .int .i64 k ∧ tieL cmpP L = tieL cmpP (L.drop (k - 1)) ∧ G w wr none
set_option maxRecDepth 100000 in
set_option maxHeartbeats 8000000 in
theorem passagesOf_c (v u : Value) (A B : List Pa) (w : World) (hr : RdR w 4 paC v A) (hs : RdR w 4 paC u B) (hok : PaG (A ++ B)) (hn : A.length + B.length < 20) :
    Calls Tryd.prog 16 #[v, u] w (PofPost A B w) := by
  have HOK := Lib.hid hok
  have HN := Lib.hid hn
  have CC := Lib.hid (concatPa_c v u A B w.heap.size (w.alloc (.cells #[v, u] 28)) (Bk.new w _ _) (hr.quiet ((G.refl w none).alloc _)) (hs.quiet ((G.refl w none).alloc _)) (by omega))
  obtain ⟨L, hL⟩ : ∃ L, pofL A B = L := ⟨_, rfl⟩
  have HL := Lib.hid hL
  have HLO : Hid (PaG L ∧ L.length < 20) := Lib.hid (by
    subst hL
    refine ⟨hok.sub (fun z hz => isrtP_mem _ _ _ (cpL_mem hz)), ?_⟩
    have h1 := cpL_len (ef := eqP) (isrt (fun x y => decide (cmpP x y < 0)) (A ++ B))
    rw [isrtP_len, List.length_append] at h1
    show (cpL eqP _).length < 20
    omega)
  obtain ⟨a, cap, rfl, -, -⟩ := RdR.form hr
  obtain ⟨a2, cap2, rfl, -, -⟩ := RdR.form hs
  clear hr hs hok hn hL
  go_enter Tryd.func16, Tryd.ntmps16
  go_wp2_with fail
  refine CC.out.mono ?_; rintro e w1 ⟨v1, rfl, hown1, hh⟩
  have hG1 := ((G.refl w none).alloc _).trans hh
  replace hown1 := hown1.down (b := w.heap.size) (by simp)
  clear hh CC
  have CST := Lib.hid (sortStableP_c 25 #[] cmpP v1 (A ++ B) w.heap.size w1 cf_order (fun x y w' hx hy _ => passageOrder_c x y w' (HOK.out.2 x hx) (HOK.out.2 y hy)) hown1 (by rw [List.length_append]; exact HN.out))
  have hob1 := OwnX.low hown1
  clear hown1
  go_wp2_with fail
  refine CST.out.mono ?_; rintro e w2 ⟨rfl, hown2, hgs⟩
  have hG2 := hG1.other (GS.toOwn hgs) (fun r e => .inl (hob1 r e))
  clear hgs CST hG1
  have CCP := Lib.hid (compactE_c v1 (isrt (fun x y => decide (cmpP x y < 0)) (A ++ B)) w.heap.size w2 hown2 (by rw [isrtP_len, List.length_append]; have := HN.out; omega))
  clear hown2
  go_wp2_with fail
  refine CCP.out.mono ?_; rintro e w3 ⟨v3, rfl, hown3, hgs⟩
  have hG3 := hG2.other (GS.toOwn hgs) (fun r e => .inl (hob1 r e))
  have HR : Hid (RdR w3 4 paC v3 L) := Lib.hid (by have h := Rd.of_owns hown3; rw [show cpL eqP (isrt (fun x y => decide (cmpP x y < 0)) (A ++ B)) = L from HL.out] at h; exact h)
  obtain ⟨a3, cap3, rfl, -, -⟩ := RdR.form HR.out
  have HG3 := Lib.hid hG3
  clear hgs CCP hG2 hown3 hob1 hG3
  have hl20 : L.length < 20 := HLO.out.2
  go_wp2_with fail
  go_loopw [18] (PofRel w3 L) (fun i _ => L.length - (intOf i).toNat)
  case atStart => exact ⟨0, by omega, rfl, rfl, G.refl _ _⟩
  case round =>
    obtain ⟨k, hkl, rfl, heq, hG⟩ := hrel
    have HE := Lib.hid heq
    clear heq
    by_cases hk : k < L.length
    · cases k with
      | zero =>
        have HE2 : Hid (tieL cmpP L = tieL cmpP (L.drop (0 + 1 - 1))) := Lib.hid HE.out
        go_wp2_with fail
        go_quiet (fail)
        have hGq := hG.drewN nq
        go_wp2_with fail
        go_roundw
        case rel => exact ⟨0 + 1, by omega, by go_num, HE2.out, hGq⟩
        case measure => simp [intOf]; omega
      | succ m =>
        obtain ⟨⟨x1, x2, x3, x4⟩, hx⟩ : ∃ x, L[m]? = some x := ⟨_, List.getElem?_eq_getElem (by omega)⟩
        obtain ⟨⟨y1, y2, y3, y4⟩, hy⟩ : ∃ y, L[m + 1]? = some y := ⟨_, List.getElem?_eq_getElem hk⟩
        have HBX := Lib.hid (HLO.out.1.2 _ (List.mem_of_getElem? hx))
        have HBY := Lib.hid (HLO.out.1.2 _ (List.mem_of_getElem? hy))
        have HST := Lib.hid (tie_step hx hy)
        obtain ⟨bb, bo, rfl, hbb, _⟩ := RdR.elem paC_sz HR.out hG hx
        have hcc : ∀ w', G wr w' none → w'.cell? ⟨bb, bo + m * 4, none⟩ = some (.int .i64 x1) ∧ w'.cell? ⟨bb, bo + m * 4 + 1, none⟩ = some (.string x2) ∧ w'.cell? ⟨bb, bo + m * 4 + 2, none⟩ = some (.string x3) ∧ w'.cell? ⟨bb, bo + m * 4 + 3, none⟩ = some (.int .i64 x4) ∧ w'.cell? ⟨bb, bo + (m + 1) * 4, none⟩ = some (.int .i64 y1) ∧ w'.cell? ⟨bb, bo + (m + 1) * 4 + 1, none⟩ = some (.string y2) ∧ w'.cell? ⟨bb, bo + (m + 1) * 4 + 2, none⟩ = some (.string y3) ∧ w'.cell? ⟨bb, bo + (m + 1) * 4 + 3, none⟩ = some (.int .i64 y4) := fun w' q9 => by
          have ex0 := RdR.cell paC_sz HR.out (hG.trans q9) hx 0 (.int .i64 x1) rfl; have ex1 := RdR.cell paC_sz HR.out (hG.trans q9) hx 1 (.string x2) rfl; have ex2 := RdR.cell paC_sz HR.out (hG.trans q9) hx 2 (.string x3) rfl; have ex3 := RdR.cell paC_sz HR.out (hG.trans q9) hx 3 (.int .i64 x4) rfl; have ey0 := RdR.cell paC_sz HR.out (hG.trans q9) hy 0 (.int .i64 y1) rfl; have ey1 := RdR.cell paC_sz HR.out (hG.trans q9) hy 1 (.string y2) rfl; have ey2 := RdR.cell paC_sz HR.out (hG.trans q9) hy 2 (.string y3) rfl; have ey3 := RdR.cell paC_sz HR.out (hG.trans q9) hy 3 (.int .i64 y4) rfl
          simp only [Nat.add_zero] at ex0 ey0
          exact ⟨ex0, ex1, ex2, ex3, ey0, ey1, ey2, ey3⟩
        obtain ⟨o, ho⟩ : ∃ o, cmpP (x1, x2, x3, x4) (y1, y2, y3, y4) = o := ⟨_, rfl⟩
        have HO := Lib.hid ho
        have h1 : IntKind.i64.wrap ((m : Int) + 1 - 1) = (m : Int) := by rw [IntKind.wrap_i64]; omega
        have h3 : IntKind.i64.wrap (m : Int) = (m : Int) := by rw [IntKind.wrap_i64]; omega
        have h4 : (m : Int) + 1 < (L.length : Int) := by omega
        have h5 : (m : Int) < (L.length : Int) := by omega
        have h6 : (0 : Int) ≤ (m : Int) + 1 := by omega
        have h7 : (0 : Int) ≤ (m : Int) := by omega
        clear hx hy ho
        go_upto_region 7 with fail
        have hS := (G.refl wr none).drew
        refine wp_region_held_drew (S := (fun w' : World => w'.cell? ⟨bb, bo + m * 4, none⟩ = some (.int .i64 x1) ∧ w'.cell? ⟨bb, bo + m * 4 + 1, none⟩ = some (.string x2) ∧ w'.cell? ⟨bb, bo + m * 4 + 2, none⟩ = some (.string x3) ∧ w'.cell? ⟨bb, bo + m * 4 + 3, none⟩ = some (.int .i64 x4) ∧ w'.cell? ⟨bb, bo + (m + 1) * 4, none⟩ = some (.int .i64 y1) ∧ w'.cell? ⟨bb, bo + (m + 1) * 4 + 1, none⟩ = some (.string y2) ∧ w'.cell? ⟨bb, bo + (m + 1) * 4 + 2, none⟩ = some (.string y3) ∧ w'.cell? ⟨bb, bo + (m + 1) * 4 + 3, none⟩ = some (.int .i64 y4))) (by kernel_rfl) ?_ (fun hHeld => ?_)
        · exact hcc _ hS
        refine wpAnyH_take (i := 0) (oi := { dst := some 21, op := Op.move (Operand.tmp 7), type := 3, pos := _, after := #[], guard := none }) (v := ?_) rfl (by kernel_rfl) (by kernel_rfl) (by kernel_rfl) (fun _ _ _ h => h) (Or.inl ⟨by rfl, ?_⟩) (by assumption) ?_
        rotate_left
        · (intro w hSw; obtain ⟨q0, q1, q2, q3, q4, q5, q6, q7⟩ := hSw; (go_simp <;> with_reducible rfl))
        try simp only [Act.put, List.setIfInBounds_toArray, List.set_cons_zero, List.set_cons_succ]
        refine wpAnyH_take (i := 1) (oi := { dst := some 22, op := Op.binOp BinOp.gtr 3 (Operand.tmp 21) (Operand.const (Value.int IntKind.i64 0)) 3, type := 4, pos := _, after := #[{ on := 0, ground := Ground.data }], guard := none }) (v := ?_) rfl (by kernel_rfl) (by kernel_rfl) (by kernel_rfl) (fun _ _ _ h => h) (Or.inl ⟨by rfl, ?_⟩) (by assumption) ?_
        rotate_left
        · (intro w hSw; obtain ⟨q0, q1, q2, q3, q4, q5, q6, q7⟩ := hSw; (go_simp <;> with_reducible rfl))
        try simp only [Act.put, List.setIfInBounds_toArray, List.set_cons_zero, List.set_cons_succ]
        refine wpAnyH_take (i := 2) (oi := { dst := some 23, op := Op.move (Operand.tmp 22), type := 4, pos := _, after := #[{ on := 1, ground := Ground.data }], guard := none }) (v := ?_) rfl (by kernel_rfl) (by kernel_rfl) (by kernel_rfl) (fun _ _ _ h => h) (Or.inl ⟨by rfl, ?_⟩) (by assumption) ?_
        rotate_left
        · (intro w hSw; obtain ⟨q0, q1, q2, q3, q4, q5, q6, q7⟩ := hSw; (go_simp <;> with_reducible rfl))
        try simp only [Act.put, List.setIfInBounds_toArray, List.set_cons_zero, List.set_cons_succ]
        refine wpAnyH_take (i := 3) (oi := { dst := some 24, op := Op.move (Operand.tmp 6), type := 28, pos := _, after := #[{ on := 2, ground := Ground.guard }], guard := some (2, true) }) (v := ?_) rfl (by kernel_rfl) (by kernel_rfl) (by kernel_rfl) (fun _ _ _ h => h) (Or.inl ⟨by rfl, ?_⟩) (by assumption) ?_
        rotate_left
        · (intro w hSw; obtain ⟨q0, q1, q2, q3, q4, q5, q6, q7⟩ := hSw; (go_simp <;> with_reducible rfl))
        try simp only [Act.put, List.setIfInBounds_toArray, List.set_cons_zero, List.set_cons_succ]
        refine wpAnyH_take (i := 4) (oi := { dst := some 25, op := Op.move (Operand.tmp 7), type := 3, pos := _, after := #[{ on := 2, ground := Ground.guard }], guard := some (2, true) }) (v := ?_) rfl (by kernel_rfl) (by kernel_rfl) (by kernel_rfl) (fun _ _ _ h => h) (Or.inl ⟨by rfl, ?_⟩) (by assumption) ?_
        rotate_left
        · (intro w hSw; obtain ⟨q0, q1, q2, q3, q4, q5, q6, q7⟩ := hSw; (go_simp <;> with_reducible rfl))
        try simp only [Act.put, List.setIfInBounds_toArray, List.set_cons_zero, List.set_cons_succ]
        refine wpAnyH_take (i := 5) (oi := { dst := some 26, op := Op.binOp BinOp.sub 3 (Operand.tmp 25) (Operand.const (Value.int IntKind.i64 1)) 3, type := 3, pos := _, after := #[{ on := 4, ground := Ground.data }, { on := 2, ground := Ground.guard }], guard := some (2, true) }) (v := ?_) rfl (by kernel_rfl) (by kernel_rfl) (by kernel_rfl) (fun _ _ _ h => h) (Or.inl ⟨by rfl, ?_⟩) (by assumption) ?_
        rotate_left
        · (intro w hSw; obtain ⟨q0, q1, q2, q3, q4, q5, q6, q7⟩ := hSw; (go_simp <;> with_reducible rfl))
        try simp only [Act.put, List.setIfInBounds_toArray, List.set_cons_zero, List.set_cons_succ]
        refine wpAnyH_take (i := 6) (oi := { dst := some 27, op := Op.indexAddr 28 (Operand.tmp 24) (Operand.tmp 26), type := 0, pos := _, after := #[{ on := 3, ground := Ground.data }, { on := 5, ground := Ground.data }, { on := 2, ground := Ground.guard }], guard := some (2, true) }) (v := ?_) rfl (by kernel_rfl) (by kernel_rfl) (by kernel_rfl) (fun _ _ _ h => h) (Or.inl ⟨by rfl, ?_⟩) (by assumption) ?_
        rotate_left
        · (intro w hSw; obtain ⟨q0, q1, q2, q3, q4, q5, q6, q7⟩ := hSw; (go_simp <;> with_reducible rfl))
        try simp only [Act.put, List.setIfInBounds_toArray, List.set_cons_zero, List.set_cons_succ]
        refine wpAnyH_take (i := 7) (oi := { dst := some 28, op := Op.load 34 (Operand.tmp 27), type := 34, pos := _, after := #[{ on := 6, ground := Ground.data }, { on := 2, ground := Ground.guard }], guard := some (2, true) }) (v := ?_) rfl (by kernel_rfl) (by kernel_rfl) (by kernel_rfl) (fun _ _ _ h => h) (Or.inl ⟨by rfl, ?_⟩) (by assumption) ?_
        rotate_left
        · (intro w hSw; obtain ⟨q0, q1, q2, q3, q4, q5, q6, q7⟩ := hSw; (go_simp <;> with_reducible rfl))
        try simp only [Act.put, List.setIfInBounds_toArray, List.set_cons_zero, List.set_cons_succ]
        refine wpAnyH_take (i := 8) (oi := { dst := some 29, op := Op.move (Operand.tmp 6), type := 28, pos := _, after := #[{ on := 2, ground := Ground.guard }], guard := some (2, true) }) (v := ?_) rfl (by kernel_rfl) (by kernel_rfl) (by kernel_rfl) (fun _ _ _ h => h) (Or.inl ⟨by rfl, ?_⟩) (by assumption) ?_
        rotate_left
        · (intro w hSw; obtain ⟨q0, q1, q2, q3, q4, q5, q6, q7⟩ := hSw; (go_simp <;> with_reducible rfl))
        try simp only [Act.put, List.setIfInBounds_toArray, List.set_cons_zero, List.set_cons_succ]
        refine wpAnyH_take (i := 9) (oi := { dst := some 30, op := Op.move (Operand.tmp 7), type := 3, pos := _, after := #[{ on := 2, ground := Ground.guard }], guard := some (2, true) }) (v := ?_) rfl (by kernel_rfl) (by kernel_rfl) (by kernel_rfl) (fun _ _ _ h => h) (Or.inl ⟨by rfl, ?_⟩) (by assumption) ?_
        rotate_left
        · (intro w hSw; obtain ⟨q0, q1, q2, q3, q4, q5, q6, q7⟩ := hSw; (go_simp <;> with_reducible rfl))
        try simp only [Act.put, List.setIfInBounds_toArray, List.set_cons_zero, List.set_cons_succ]
        refine wpAnyH_take (i := 10) (oi := { dst := some 31, op := Op.indexAddr 28 (Operand.tmp 29) (Operand.tmp 30), type := 0, pos := _, after := #[{ on := 8, ground := Ground.data }, { on := 9, ground := Ground.data }, { on := 2, ground := Ground.guard }], guard := some (2, true) }) (v := ?_) rfl (by kernel_rfl) (by kernel_rfl) (by kernel_rfl) (fun _ _ _ h => h) (Or.inl ⟨by rfl, ?_⟩) (by assumption) ?_
        rotate_left
        · (intro w hSw; obtain ⟨q0, q1, q2, q3, q4, q5, q6, q7⟩ := hSw; (go_simp <;> with_reducible rfl))
        try simp only [Act.put, List.setIfInBounds_toArray, List.set_cons_zero, List.set_cons_succ]
        refine wpAnyH_take (i := 11) (oi := { dst := some 32, op := Op.load 34 (Operand.tmp 31), type := 34, pos := _, after := #[{ on := 10, ground := Ground.data }, { on := 2, ground := Ground.guard }], guard := some (2, true) }) (v := ?_) rfl (by kernel_rfl) (by kernel_rfl) (by kernel_rfl) (fun _ _ _ h => h) (Or.inl ⟨by rfl, ?_⟩) (by assumption) ?_
        rotate_left
        · (intro w hSw; obtain ⟨q0, q1, q2, q3, q4, q5, q6, q7⟩ := hSw; (go_simp <;> with_reducible rfl))
        try simp only [Act.put, List.setIfInBounds_toArray, List.set_cons_zero, List.set_cons_succ]
        refine wpAnyH_ready (rs := [12]) (by kernel_rfl) (by simp) ?_
        refine AllReadyH.cons (o := { dst := some 33, op := Op.call { callee := Callee.value (Operand.func 25), args := #[Operand.tmp 28, Operand.tmp 32], argTypes := #[34, 34] }, type := 3, pos := _, after := #[{ on := 7, ground := Ground.data }, { on := 11, ground := Ground.data }, { on := 2, ground := Ground.chain }, { on := 2, ground := Ground.guard }], guard := some (2, true) }) rfl (fun K hK => ?_) AllReadyH.nil
        go_simp
        refine (passageOrder_c (x1, x2, x3, x4) (y1, y2, y3, y4) _ HBX.out HBY.out).mono ?_
        rintro e w4 ⟨rfl, hh⟩
        replace hS := hS.trans hh
        clear hh
        refine hK.out _ _ ?_ (fun hHeld => ?_)
        · exact hcc _ hS
        clear hK K
        try simp only [Act.put, List.setIfInBounds_toArray, List.set_cons_zero, List.set_cons_succ]
        refine wpAnyH_take (i := 13) (oi := { dst := some 34, op := Op.binOp BinOp.eql 3 (Operand.tmp 33) (Operand.const (Value.int IntKind.i64 0)) 3, type := 4, pos := _, after := #[{ on := 12, ground := Ground.data }, { on := 2, ground := Ground.guard }], guard := some (2, true) }) (v := ?_) rfl (by kernel_rfl) (by kernel_rfl) (by kernel_rfl) (fun _ _ _ h => h) (Or.inl ⟨by rfl, ?_⟩) (by assumption) ?_
        rotate_left
        · (intro w hSw; obtain ⟨q0, q1, q2, q3, q4, q5, q6, q7⟩ := hSw; (go_simp <;> with_reducible rfl))
        try simp only [Act.put, List.setIfInBounds_toArray, List.set_cons_zero, List.set_cons_succ]
        refine wpAnyH_take (i := 14) (oi := { dst := some 35, op := Op.pick (Operand.tmp 23) (Operand.tmp 34) (Operand.const (Value.bool false)), type := 4, pos := _, after := #[{ on := 2, ground := Ground.data }, { on := 13, ground := Ground.data }], guard := none }) (v := ?_) rfl (by kernel_rfl) (by kernel_rfl) (by kernel_rfl) (fun _ _ _ h => h) (Or.inl ⟨by rfl, ?_⟩) (by assumption) ?_
        rotate_left
        · (intro w hSw; obtain ⟨q0, q1, q2, q3, q4, q5, q6, q7⟩ := hSw; (go_simp <;> with_reducible rfl))
        try simp only [Act.put, List.setIfInBounds_toArray, List.set_cons_zero, List.set_cons_succ]
        refine wpAnyH_done (by kernel_rfl) ?_ _
        clear hHeld
        rw [HO.out]
        replace hG := hG.trans hS
        clear hS hcc
        by_cases e0 : o = 0
        · subst e0
          have HF : Hid (tieL cmpP L = true) := Lib.hid (by rw [HE.out, Nat.add_sub_cancel, HST.out, HO.out]; simp)
          go_wp2_with fail
          go_ret2
          exact ⟨HG3.out.trans hG, .slice none 0 0, by rw [HL.out, if_pos HF.out]; rfl, by rw [HL.out, if_pos HF.out]; exact RdR.nil _ _ _⟩
        · have HE2 : Hid (tieL cmpP L = tieL cmpP (L.drop (m + 1 + 1 - 1))) := Lib.hid (by rw [HE.out, Nat.add_sub_cancel, HST.out, HO.out, decide_eq_false e0, Nat.add_sub_cancel]; simp)
          have hb : (o == 0) = false := beq_false_of_ne e0
          go_wp2_with fail
          go_roundw
          case rel => exact ⟨m + 1 + 1, by omega, by go_num, HE2.out, hG⟩
          case measure => simp [intOf]; omega
    · obtain rfl : k = L.length := by omega
      have HF : Hid (tieL cmpP L = false) := Lib.hid (by rw [HE.out]; exact tie_end (Nat.le_refl _))
      have HRF := Lib.hid (HR.out.quiet hG)
      have hlc : ¬ ((1000 : Int) < (L.length : Int)) := by omega
      go_wp2_with fail
      go_ret2
      exact ⟨HG3.out.trans hG, .slice a3 L.length cap3, by rw [HL.out, if_neg (by rw [HF.out]; decide)]; rfl, by rw [HL.out, if_neg (by rw [HF.out]; decide)]; exact HRF.out⟩
end Go.Proofs.YtkpmcakppiinlaaDoor

/- What toll.Merge gives is what the reference gives (mathematics), for the law PassagesMerge. -/
namespace Go.Proofs.YtkpmcakppiinlaaDoor
open Go.RowKit

theorem tcE_pa {g : List Ga} {l : List Pa} (h : tcE g l = 0) : paE l = 0 := by
  unfold tcE at h
  by_cases h1 : gaE g = 0
  · rw [if_pos h1] at h
    by_cases h2 : paE l = 0
    · exact h2
    · rw [if_neg h2] at h; exact absurd h h2
  · rw [if_neg h1] at h; exact absurd h h1
theorem tm_right {g : List Ga} {A B : List Pa} (ha : tcE g A = 0) (hb : tcE g B = 0) :
    tmE g A B = (if tieL cmpP (pofL A B) = true then 13 else 0) ∧ tmL g A B = (if tieL cmpP (pofL A B) = true then [] else pofL A B) := by
  have h : mg cmpP A B = if tieL cmpP (pofL A B) = true then none else some (pofL A B) := paMg_ref (tcE_pa ha) (tcE_pa hb)
  unfold tmE tmL
  rw [if_pos ha, if_pos hb, if_pos (And.intro ha hb), h]
  by_cases ht : tieL cmpP (pofL A B) = true
  · simp [ht]
  · simp [ht]
theorem tm_wrong {g : List Ga} {A B : List Pa} (h : ¬ (tcE g A = 0 ∧ tcE g B = 0)) : tmE g A B = errsOf [tcE g A, tcE g B] ∧ tmL g A B = [] := by
  unfold tmE tmL
  rw [if_neg h]
  refine ⟨?_, rfl⟩
  by_cases ha : tcE g A = 0
  · have hb : ¬ tcE g B = 0 := fun e => h ⟨ha, e⟩
    rw [if_pos ha, if_neg hb, errsOf, if_pos ha, errsOf, if_neg hb]
  · rw [if_neg ha, errsOf, if_neg ha]
end Go.Proofs.YtkpmcakppiinlaaDoor

/- slices.Equal of passages. Written by genpeq.py. -/
namespace Go.Proofs.YtkpmcakppiinlaaDoor
open Go.RowKit

theorem paQ_neq (x y : Pa) (w : World) : (binOp .neq 34 (.agg (paC x)) (.agg (paC y))).run Tryd.prog w = .ok (.bool (!(decide (x = y)))) w := pa_neq x y w
def EqpRel (l m : List Pa) (w : World) (i : Value) (wr : World) : Prop := ∃ k n : Nat, k ≤ l.length ∧ i = .int .i64 k ∧ l.take k = m.take k ∧ wr = w.drewN n
theorem take_succ_eqP {l m : List Pa} {k : Nat} {x : Pa} (h : l.take k = m.take k) (hx : l[k]? = some x) (hy : m[k]? = some x) : l.take (k + 1) = m.take (k + 1) := by
  rw [List.take_add_one, List.take_add_one, h, hx, hy]
set_option maxRecDepth 100000 in
set_option maxHeartbeats 4000000 in
theorem paEqual_c (v u : Value) (l m : List Pa) (w : World) (hr : RdR w 4 paC v l) (hs : RdR w 4 paC u m) (hn : l.length ≤ 1000000) :
    Calls Tryd.prog 17 #[v, u] w fun e w' => e = .returned (.bool (decide (l = m))) ∧ G w w' none := by
  have HR := Lib.hid hr
  have HS := Lib.hid hs
  obtain ⟨a, cap, rfl, hcap, hm1⟩ := RdR.form hr
  obtain ⟨a2, cap2, rfl, hcap2, hm2⟩ := RdR.form hs
  clear hr hs
  by_cases hlen : l.length = m.length
  · have hlq : ((l.length : Int) != (m.length : Int)) = false := by rw [hlen]; simp
    have hlq2 : ((m.length : Int) != (l.length : Int)) = false := by rw [hlen]; simp
    have HL := Lib.hid hlen
    clear hlen
    go_enter Tryd.func17, Tryd.ntmps17
    go_wp2_with fail
    go_loopw [13] (EqpRel l m w) (fun i _ => l.length - (intOf i).toNat)
    case atStart => exact ⟨0, 0, by omega, rfl, rfl, rfl⟩
    case round =>
      obtain ⟨k, n, hk, rfl, heq, rfl⟩ := hrel
      have HE := Lib.hid heq
      clear heq
      by_cases hlt : k < l.length
      · obtain ⟨x, hx⟩ : ∃ x, l[k]? = some x := ⟨_, List.getElem?_eq_getElem hlt⟩
        obtain ⟨y, hy⟩ : ∃ y, m[k]? = some y := ⟨_, List.getElem?_eq_getElem (by rw [← HL.out]; exact hlt)⟩
        have hlt2 : k < m.length := by have := HL.out; omega
        obtain ⟨bb, bo, rfl, hbb, _⟩ := RdR.elem paC_sz HR.out (G.refl w none) hx
        obtain ⟨b2, o2, rfl, hb2, _⟩ := RdR.elem paC_sz HS.out (G.refl w none) hy
        have d0 := RdR.cell paC_sz HR.out (G.refl w none) hx 0 (.int .i64 x.1) rfl
        have d1 := RdR.cell paC_sz HR.out (G.refl w none) hx 1 (.string x.2.1) rfl
        have d2 := RdR.cell paC_sz HR.out (G.refl w none) hx 2 (.string x.2.2.1) rfl
        have d3 := RdR.cell paC_sz HR.out (G.refl w none) hx 3 (.int .i64 x.2.2.2) rfl
        have e0 := RdR.cell paC_sz HS.out (G.refl w none) hy 0 (.int .i64 y.1) rfl
        have e1 := RdR.cell paC_sz HS.out (G.refl w none) hy 1 (.string y.2.1) rfl
        have e2 := RdR.cell paC_sz HS.out (G.refl w none) hy 2 (.string y.2.2.1) rfl
        have e3 := RdR.cell paC_sz HS.out (G.refl w none) hy 3 (.int .i64 y.2.2.2) rfl
        simp only [Nat.add_zero] at d0 e0
        have HX := Lib.hid hx
        have HY := Lib.hid hy
        clear hx hy
        by_cases hxy : x = y
        · have hnq : ∀ w : World, (binOp .neq 34 (.agg #[.int .i64 x.1, .string x.2.1, .string x.2.2.1, .int .i64 x.2.2.2]) (.agg #[.int .i64 y.1, .string y.2.1, .string y.2.2.1, .int .i64 y.2.2.2])).run Tryd.prog w = .ok (.bool false) w := fun w => by
            have := paQ_neq x y w
            rw [decide_eq_true hxy] at this
            exact this
          have HT : Hid (l.take (k + 1) = m.take (k + 1)) := Lib.hid (take_succ_eqP HE.out HX.out (by rw [hxy]; exact HY.out))
          clear hxy HX HY
          go_wp2_with fail
          go_quiet (fail)
          go_wp2_with fail
          go_roundw
          case rel => exact ⟨k + 1, _, by omega, by go_num, HT.out, rfl⟩
          case measure => simp [intOf]; omega
        · have hnq : ∀ w : World, (binOp .neq 34 (.agg #[.int .i64 x.1, .string x.2.1, .string x.2.2.1, .int .i64 x.2.2.2]) (.agg #[.int .i64 y.1, .string y.2.1, .string y.2.2.1, .int .i64 y.2.2.2])).run Tryd.prog w = .ok (.bool true) w := fun w => by
            have := paQ_neq x y w
            rw [decide_eq_false hxy] at this
            exact this
          have HT : Hid (decide (l = m) = false) := Lib.hid (decide_eq_false (fun e => hxy (by have h1 := HX.out; rw [e, HY.out] at h1; exact (Option.some.inj h1).symm)))
          clear hxy HX HY
          go_wp2_with fail
          go_quiet (fail)
          go_wp2_with fail
          go_ret
          exact ⟨ret_bool HT.out.symm, ((G.refl _ _).drewN _).drewN _⟩
      · obtain rfl : k = l.length := by omega
        have HT : Hid (decide (l = m) = true) := Lib.hid (decide_eq_true (by have h := HE.out; rwa [List.take_length, HL.out, List.take_length] at h))
        go_wp2_with fail
        go_ret
        exact ⟨ret_bool HT.out.symm, (G.refl _ _).drewN _⟩
  · have hlq : ((l.length : Int) != (m.length : Int)) = true := by rw [bne_iff_ne]; omega
    have hlq2 : ¬ l.length = m.length := hlen
    have HT : Hid (decide (l = m) = false) := Lib.hid (decide_eq_false (fun e => hlen (by rw [e])))
    clear hlen
    go_enter Tryd.func17, Tryd.ntmps17
    go_wp2_with fail
    go_ret
    exact ⟨ret_bool HT.out.symm, G.refl _ _⟩
end Go.Proofs.YtkpmcakppiinlaaDoor

/- A map whose keys are of any kind, told by a function from the keys to the values that stand at them, and by how many there are. No program. -/
namespace Go.Proofs.YtkpmcakppiinlaaDoor
open Go.RowKit Go.ChangeMaps Go.MapKept
open Go.Maps (Keyed IsMap Tidy has size)

/-- A kind of keys: which are good, their values, how they are told. -/
structure KeyK (P : Program) (k : TypeId) (κ : Type) where
  ok : κ → Prop
  v : κ → Value
  l : κ → Lit
  keyed : Maps.Keyed P k
  of : ∀ x, ok x → keyOf P k (v x) = some (l x)
  inj : ∀ x y, v x = v y → x = y
theorem KeyK.isk {P : Program} {k : TypeId} {κ : Type} (KK : KeyK P k κ) {x : κ} (h : KK.ok x) : WideAt.IsKeyLit (KK.l x) := KK.keyed.key (KK.of x h)
theorem KeyK.linj {P : Program} {k : TypeId} {κ : Type} (KK : KeyK P k κ) {x y : κ} (hx : KK.ok x) (hy : KK.ok y) (h : x ≠ y) : KK.l x ≠ KK.l y := fun e => h (KK.inj x y (KK.keyed.inj (KK.of x hx) (by rw [e]; exact KK.of y hy)))
abbrev FnK (κ : Type) := κ → Option Value
/-- What a map holds, as a datum. -/
def MapIsK {P : Program} {k : TypeId} {κ : Type} (KK : KeyK P k κ) (D : DataW Value) (c : Nat) (f : FnK κ) : Prop := Tidy D ∧ size D = c ∧ ∀ s, KK.ok s → has D (KK.l s) = (f s).isSome ∧ ∀ v, f s = some v → ∀ z, D.atKey (KK.l s) z = .held v
/-- Block 'b' is a map of 'c' keys that holds what 'f' says. -/
def OwnK {P : Program} {k : TypeId} {κ : Type} (KK : KeyK P k κ) (w : World) (b c : Nat) (f : FnK κ) : Prop := ∃ D n, w.ownsMap P k RV b n D ∧ n ≤ c ∧ MapIsK KK D c f
def fputK {κ : Type} [DecidableEq κ] (f : FnK κ) (s : κ) (v : Value) : FnK κ := fun t => if t = s then some v else f t
def fdelK {κ : Type} [DecidableEq κ] (f : FnK κ) (s : κ) : FnK κ := fun t => if t = s then none else f t
def cputK {κ : Type} (c : Nat) (f : FnK κ) (s : κ) : Nat := if (f s).isSome = true then c else c + 1
section
variable {P : Program} {k : TypeId} {κ : Type} (KK : KeyK P k κ)
theorem MapIsK.empty : MapIsK KK (.map []) 0 (fun _ => none) := ⟨Maps.tidy_empty, rfl, fun _ _ => ⟨rfl, fun _ h => by cases h⟩⟩
variable {KK}
theorem MapIsK.put [DecidableEq κ] {D : DataW Value} {c : Nat} {f : FnK κ} (h : MapIsK KK D c f) {s : κ} (hs : KK.ok s) (v : Value) : MapIsK KK (D.put (KK.l s) (.held v)) (cputK c f s) (fputK f s v) := by
  obtain ⟨h1, h2, h3⟩ := h
  refine ⟨h1.put (KK.isk hs) _, ?_, fun t ht => ?_⟩
  · rw [Maps.size_put h1, (h3 s hs).1, h2]
    rfl
  · by_cases e : t = s
    · subst e
      simp only [fputK, if_pos]
      exact ⟨by rw [Maps.has_put_same h1.isMap (KK.isk ht)]; rfl, fun u hu z => by cases hu; exact Maps.atKey_put_same h1.isMap (KK.isk ht) _ _⟩
    · simp only [fputK, if_neg e]
      exact ⟨by rw [Maps.has_put_other (KK.linj ht hs e)]; exact (h3 t ht).1, fun u hu z => by rw [Maps.atKey_put_other (KK.linj ht hs e)]; exact (h3 t ht).2 u hu z⟩
theorem MapIsK.del [DecidableEq κ] {D : DataW Value} {c : Nat} {f : FnK κ} (h : MapIsK KK D c f) {s : κ} (hs : KK.ok s) : MapIsK KK (D.del (KK.l s)) (if (f s).isSome = true then c - 1 else c) (fdelK f s) := by
  obtain ⟨h1, h2, h3⟩ := h
  refine ⟨h1.del _, ?_, fun t ht => ?_⟩
  · have := Maps.size_del h1 (k := KK.l s)
    rw [(h3 s hs).1, h2] at this
    split at this <;> simp_all <;> omega
  · by_cases e : t = s
    · subst e
      simp only [fdelK, if_pos]
      exact ⟨by rw [Maps.has_del_same]; rfl, fun u hu => by cases hu⟩
    · simp only [fdelK, if_neg e]
      exact ⟨by rw [Maps.has_del_other (KK.linj ht hs e)]; exact (h3 t ht).1, fun u hu z => by rw [Maps.atKey_del_other (KK.linj ht hs e)]; exact (h3 t ht).2 u hu z⟩
end
section
variable {P : Program} {k : TypeId} {κ : Type} {KK : KeyK P k κ} {w : World} {b c : Nat} {f : FnK κ}
theorem OwnK.made (w : World) (KK : KeyK P k κ) {b : Nat} (hb : w.heap.size = b) : OwnK KK (w.alloc (.map #[] 0)) b 0 (fun _ => none) := by
  subst hb
  exact ⟨_, 0, World.ownsMap_made w P k RV, Nat.le_refl _, MapIsK.empty KK⟩
theorem OwnK.lt (h : OwnK KK w b c f) : b < w.heap.size := by obtain ⟨D, n, h, _⟩ := h; exact h.lt
theorem OwnK.grown {w' : World} {s : Option Nat} (h : OwnK KK w b c f) (hg : G w w' s) (hs : some b ≠ s) : OwnK KK w' b c f := by obtain ⟨D, n, h, r⟩ := h; exact ⟨D, n, h.kept hg hs, r⟩
theorem OwnK.quiet {w' : World} (h : OwnK KK w b c f) (hg : G w w' none) : OwnK KK w' b c f := h.grown hg (by simp)
theorem OwnK.alloc (h : OwnK KK w b c f) (o : Obj) : OwnK KK (w.alloc o) b c f := h.quiet ((G.refl _ _).alloc o)
theorem OwnK.drewN (h : OwnK KK w b c f) (n : Nat) : OwnK KK (w.drewN n) b c f := h.quiet ((G.refl _ _).drewN n)
theorem OwnK.setCell (h : OwnK KK w b c f) {p : Addr} (hp : b ≠ p.block) (u : Value) : OwnK KK (w.setCell p u) b c f := h.grown (grownBy_setCell_row w p u) (by simpa using hp)
theorem OwnK.setRow (h : OwnK KK w b c f) {g : Nat} (hp : b ≠ g) (cs : Array Value) : OwnK KK (w.setRow g cs) b c f := h.grown (grownBy_setRow w g cs) (by simpa using hp)
theorem OwnK.look {t e : TypeId} (h : OwnK KK w b c f) (ht : P.underlying t = some (.map k e)) {z : Value} (hz : (zeroValue e).run P w = .ok z w) {s : κ} (hs : KK.ok s) :
    (Instr.lookup t (.map (some b)) (KK.v s) false).run P w = .ok ((f s).getD z) w := by
  obtain ⟨D, n, h, _, h1, h2, h3⟩ := h
  obtain ⟨v, ps, hrun, hv⟩ := h.lookup KK.keyed ht hz (zd := .held z) (zp := []) rfl (KK.of s hs)
  rw [hrun]
  have e : DataW.held v = D.atKey (KK.l s) (.held z) := by have := congrArg (fun o => o.map Prod.fst) hv; simpa [RV] using this
  cases hf : f s with
  | none =>
    have hn := (h3 s hs).1
    rw [hf] at hn
    rw [Maps.atKey_of_not_has hn] at e
    injection e with e
    rw [e]; rfl
  | some u =>
    rw [(h3 s hs).2 u hf] at e
    injection e with e
    rw [e]; rfl
theorem OwnK.look_ok {t e : TypeId} (h : OwnK KK w b c f) (ht : P.underlying t = some (.map k e)) {z : Value} (hz : (zeroValue e).run P w = .ok z w) {s : κ} (hs : KK.ok s) :
    (Instr.lookup t (.map (some b)) (KK.v s) true).run P w = .ok (.tuple #[(f s).getD z, .bool (f s).isSome]) w := by
  obtain ⟨D, n, h, _, h1, h2, h3⟩ := h
  obtain ⟨v, ps, hrun, hv⟩ := h.look_ok KK.keyed ht hz (zd := .held z) (zp := []) rfl (KK.of s hs)
  rw [hrun]
  have e : DataW.held v = D.atKey (KK.l s) (.held z) := by have := congrArg (fun o => o.map Prod.fst) hv; simpa [RV] using this
  have hb : has D (KK.l s) = (f s).isSome := (h3 s hs).1
  rw [show Maps.has D (KK.l s) = (f s).isSome from hb]
  cases hf : f s with
  | none =>
    have hn := (h3 s hs).1
    rw [hf] at hn
    rw [Maps.atKey_of_not_has hn] at e
    injection e with e
    rw [e]; rfl
  | some u =>
    rw [(h3 s hs).2 u hf] at e
    injection e with e
    rw [e]; rfl
theorem OwnK.store [DecidableEq κ] {t e : TypeId} (h : OwnK KK w b c f) (ht : P.underlying t = some (.map k e)) (hc : c < maxLen) {s : κ} (hs : KK.ok s) (v : Value) :
    ∃ w', (Instr.mapUpdate t (.map (some b)) (KK.v s) v).run P w = .ok () w' ∧ OwnK KK w' b (cputK c f s) (fputK f s v) ∧ w.grownBy w' (some b) := by
  obtain ⟨D, n, h, hn, hM⟩ := h
  obtain ⟨w', hrun, h1, h2⟩ := h.update KK.keyed ht (Nat.lt_of_le_of_lt hn hc) (KK.of s hs) (val := v) (d := .held v) (ps := []) rfl
  have hM' := hM.put hs v
  refine ⟨w', hrun, ⟨_, size (D.put (KK.l s) (.held v)), ?_, Nat.le_of_eq hM'.2.1, hM'⟩, h2⟩
  obtain ⟨es, clock, hb, F, _, hD⟩ := h1
  have hD' : D.put (KK.l s) (.held v) = .map ((es.toList.map (Go.WideElems.rg P k RV)).foldr DataW.insert []) := hD
  refine ⟨es, clock, hb, F, ?_, hD⟩
  rw [hD']
  simp [size, length_sorted]
theorem OwnK.drop [DecidableEq κ] {t e : TypeId} (h : OwnK KK w b c f) (ht : P.underlying t = some (.map k e)) {s : κ} (hs : KK.ok s) (ty : TypeId) :
    ∃ w', (Builtin.delete_ #[t, k] ty #[.map (some b), KK.v s]).run P w = .ok (.tuple #[]) w' ∧ OwnK KK w' b (if (f s).isSome = true then c - 1 else c) (fdelK f s) ∧ w.grownBy w' (some b) := by
  obtain ⟨D, n, h, hn, hM⟩ := h
  obtain ⟨w', hrun, h1, h2⟩ := h.drop KK.keyed ht (KK.of s hs) ty
  have hM' := hM.del hs
  refine ⟨w', hrun, ⟨_, size (D.del (KK.l s)), ?_, Nat.le_of_eq hM'.2.1, hM'⟩, h2.grown⟩
  obtain ⟨es, clock, hb, F, _, hD⟩ := h1
  have hD' : D.del (KK.l s) = .map ((es.toList.map (Go.WideElems.rg P k RV)).foldr DataW.insert []) := hD
  refine ⟨es, clock, hb, F, ?_, hD⟩
  rw [hD']
  simp [size, length_sorted]
end

/-! ### At the operation, for the walk -/
section
variable {P : Program} {k : TypeId} {κ : Type} {KK : KeyK P k κ} {w : World} {ops : Array Oper} {rest : List Oper} {o : Oper} {a : Act} {Q : Exit → Act → World → Prop}
theorem wpK_look (hg : o.guard = none) (m x : Operand) (t : TypeId) (hop : o.op = Op.lookup t m x false) (e : TypeId) (ht : P.underlying t = some (.map k e)) (z : Value) (hz : (zeroValue e).run P w = .ok z w)
    (b c : Nat) (f : FnK κ) (hm : a.eval m = .map (some b)) (hown : OwnK KK w b c f) (s : κ) (hx : a.eval x = KK.v s) (hs : KK.ok s) (hK : wpList P ops Q rest (a.put o.dst ((f s).getD z)) w) : wpList P ops Q (o :: rest) a w := by
  refine wpList_plain hg fun K' hK' => ?_
  unfold Oper.wp
  simp [execOp, hop, hm, hx, hown.look ht hz hs, Result.andThen]
  exact hK' _ _ hK
theorem wpK_look_ok (hg : o.guard = none) (m x : Operand) (t : TypeId) (hop : o.op = Op.lookup t m x true) (e : TypeId) (ht : P.underlying t = some (.map k e)) (z : Value) (hz : (zeroValue e).run P w = .ok z w)
    (b c : Nat) (f : FnK κ) (hm : a.eval m = .map (some b)) (hown : OwnK KK w b c f) (s : κ) (hx : a.eval x = KK.v s) (hs : KK.ok s) (hK : wpList P ops Q rest (a.put o.dst (.tuple #[(f s).getD z, .bool (f s).isSome])) w) : wpList P ops Q (o :: rest) a w := by
  refine wpList_plain hg fun K' hK' => ?_
  unfold Oper.wp
  simp [execOp, hop, hm, hx, hown.look_ok ht hz hs, Result.andThen]
  exact hK' _ _ hK
theorem wpK_store [DecidableEq κ] (hg : o.guard = none) (m x v : Operand) (t : TypeId) (hop : o.op = Op.mapUpdate t m x v) (e : TypeId) (ht : P.underlying t = some (.map k e))
    (b c : Nat) (f : FnK κ) (hm : a.eval m = .map (some b)) (hown : OwnK KK w b c f) (hc : c < maxLen) (s : κ) (hx : a.eval x = KK.v s) (hs : KK.ok s) (u : Value) (hv : a.eval v = u)
    (hK : ∀ w', OwnK KK w' b (cputK c f s) (fputK f s u) → w.grownBy w' (some b) → wpList P ops Q rest (a.put o.dst undef) w') : wpList P ops Q (o :: rest) a w := by
  refine wpList_plain hg fun K' hK' => ?_
  obtain ⟨w', hrun, r1, r2⟩ := hown.store ht hc hs u
  unfold Oper.wp
  simp [execOp, hop, hm, hx, hv, hrun, Result.andThen]
  exact hK' _ _ (hK w' r1 r2)
theorem wpK_delete [DecidableEq κ] (hg : o.guard = none) (m x : Operand) (t : TypeId) (hop : o.op = Op.call { callee := Callee.builtin Builtin.delete, args := #[m, x], argTypes := #[t, k] }) (e : TypeId) (ht : P.underlying t = some (.map k e))
    (b c : Nat) (f : FnK κ) (hm : a.eval m = .map (some b)) (hown : OwnK KK w b c f) (s : κ) (hx : a.eval x = KK.v s) (hs : KK.ok s)
    (hK : ∀ w', OwnK KK w' b (if (f s).isSome = true then c - 1 else c) (fdelK f s) → w.grownBy w' (some b) → wpList P ops Q rest (a.put o.dst (.tuple #[])) w') : wpList P ops Q (o :: rest) a w := by
  refine wpList_plain hg fun K' hK' => ?_
  obtain ⟨w', hrun, r1, r2⟩ := hown.drop ht hs o.type
  unfold Oper.wp
  simp [execOp, hop, resolve, invoke, builtin, hm, hx, hrun, Result.andThen]
  exact hK' _ _ (hK w' r1 r2)
theorem wpK_len (hg : o.guard = none) (m : Operand) (t : TypeId) (hop : o.op = Op.call { callee := Callee.builtin Builtin.len, args := #[m], argTypes := #[t] }) (e : TypeId) (ht : P.underlying t = some (.map k e))
    (b c : Nat) (f : FnK κ) (hm : a.eval m = .map (some b)) (hown : OwnK KK w b c f) (hK : wpList P ops Q rest (a.put o.dst (.int .i64 c)) w) : wpList P ops Q (o :: rest) a w := by
  obtain ⟨D, n, h, _, h1, h2, h3⟩ := hown
  refine wpList_len_own w hg m t hop k e ht RV b n D hm h ?_
  rw [h2]
  exact hK
end
end Go.Proofs.YtkpmcakppiinlaaDoor

/- Keys that are two strings. -/
namespace Go.Proofs.YtkpmcakppiinlaaDoor
open Go.RowKit

abbrev Pr := ByteArray × ByteArray
def prV (x : Pr) : Value := .agg #[.string x.1, .string x.2]
def prL (x : Pr) : Lit := .string (keyBytes [.string x.1.data.toList, .string x.2.data.toList])
def prOk (x : Pr) : Prop := x.1.size ≤ maxLen ∧ x.2.size ≤ maxLen
theorem prV_inj (x y : Pr) (h : prV x = prV y) : x = y := by
  obtain ⟨a, b⟩ := x
  obtain ⟨c, d⟩ := y
  simp [prV] at h
  rw [h.1, h.2]
theorem track_of (x : Pr) (h : prOk x) : keyOf Tryd.prog 92 (prV x) = some (prL x) := by
  obtain ⟨a, b⟩ := x
  have h1 : a.size ≤ maxLen := h.1
  have h2 : b.size ≤ maxLen := h.2
  have k1 : Tryd.prog.keyType 92 = true := by kernel_rfl
  have k2 : (prV (a, b)).formed Tryd.prog 92 = true := by kernel_rfl
  have k3 : Tryd.prog.keyLits (Tryd.prog.types.size + 1) 92 [.string a, .string b] = (((if a.size ≤ maxLen then some [Lit.string a.data.toList] else none) : Option (List Lit)).bind fun x => ((if b.size ≤ maxLen then some [Lit.string b.data.toList] else none) : Option (List Lit)).bind fun y => some [x, y]).map List.flatten := by kernel_rfl
  unfold keyOf
  rw [Tryd.underlying92]
  simp only [k1, k2, Bool.and_true, if_true]
  rw [show (prV (a, b)).cells.toList = [.string a, .string b] from rfl, k3, if_pos h1, if_pos h2]
  rfl
theorem track_keyed : Maps.Keyed Tryd.prog 92 := Maps.Keyed.of_law (deep_law_laid (by kernel_rfl) (m := 2) (by omega) (of_decide_eq_true (by kernel_rfl)) (by kernel_rfl) (by rw [Tryd.underlying92]))
/-- The program's keys. -/
def KT : KeyK Tryd.prog 92 Pr := ⟨prOk, prV, prL, track_keyed, track_of, prV_inj⟩
end Go.Proofs.YtkpmcakppiinlaaDoor

/- Doubles: toll.areDoubles, toll.Doubles, the reference's DoublesOf. Written by gendbl.py. -/
namespace Go.Proofs.YtkpmcakppiinlaaDoor
open Go.RowKit

theorem OwnX.apt {α : Type} {T T' : TypeId} {z g base : Nat} {c : α → Array Value} {w : World} {v : Value} {l : List α} {cs : Array Value} (h : OwnX T z c w base v l) (hB : Bk w g T' cs) (hT : T ≠ T') : some g ≠ v.ownBlock := by
  rcases h.2 with ⟨rfl, _⟩ | ⟨g', cap, cur, rfl, _, hg, _⟩
  · simp [Value.ownBlock]
  · intro e
    simp only [Value.ownBlock, Option.map_some, Option.some.injEq] at e
    subst e
    have h2 := hB.symm.trans hg
    simp only [Option.some.injEq, Obj.cells.injEq] at h2
    exact hT h2.2.1.symm
abbrev FI := Pr → Option Int
def isD (d : Int) (f : FI) (p : Pa) : Bool := match f (p.2.1, p.2.2.1) with | some t => decide (p.1 - t < d) | none => false
def putI (f : FI) (k : Pr) (n : Int) : FI := fun t => if t = k then some n else f t
def stp (d : Int) (s : FI × List Bool) (p : Pa) : FI × List Bool := if isD d s.1 p = true then (s.1, s.2 ++ [true]) else (putI s.1 (p.2.1, p.2.2.1) p.1, s.2 ++ [false])
def st (d : Int) (l : List Pa) : FI × List Bool := l.foldl (stp d) (fun _ => none, [])
def dbB (d : Int) (l : List Pa) : List Bool := (st d l).2
def sv2 (f : FI) : FnK Pr := fun k => (f k).map (fun n => .int .i64 n)
theorem st_take (d : Int) {l : List Pa} {k : Nat} {p : Pa} (h : l[k]? = some p) : st d (l.take (k + 1)) = stp d (st d (l.take k)) p := by
  unfold st
  rw [List.take_add_one, h, List.foldl_append]
  rfl
theorem st_len (d : Int) (l : List Pa) : (st d l).2.length = l.length := by
  have key : ∀ (r : List Pa) (s : FI × List Bool), (r.foldl (stp d) s).2.length = s.2.length + r.length := by
    intro r
    induction r with
    | nil => intro s; rfl
    | cons p r ih =>
      intro s
      rw [List.foldl_cons, ih, stp]
      split <;> simp <;> omega
  simpa [st] using key l (fun _ => none, [])
def BI (f : FI) : Prop := ∀ k t, f k = some t → 0 ≤ t ∧ t < 5761440
theorem st_bnd (d : Int) {l : List Pa} (h : ∀ p ∈ l, 0 ≤ p.1 ∧ p.1 < 5761440) : BI (st d l).1 := by
  have key : ∀ (r : List Pa) (s : FI × List Bool), (∀ p ∈ r, 0 ≤ p.1 ∧ p.1 < 5761440) → BI s.1 → BI (r.foldl (stp d) s).1 := by
    intro r
    induction r with
    | nil => intro s _ hs; exact hs
    | cons p r ih =>
      intro s hp hs
      rw [List.foldl_cons]
      refine ih _ (fun x hx => hp x (List.mem_cons_of_mem _ hx)) ?_
      unfold stp
      split
      · exact hs
      · intro k t ht
        simp only [putI] at ht
        split at ht
        · cases ht
          exact hp p (List.mem_cons_self ..)
        · exact hs k t ht
  exact key l _ h (fun k t ht => by cases ht)
theorem sv2_put (f : FI) (k : Pr) (n : Int) : fputK (sv2 f) k (.int .i64 n) = sv2 (putI f k n) := by
  funext t
  unfold fputK sv2 putI
  split <;> rfl
def dbK (d : Int) (l : List Pa) (k : Nat) : List Bool := (st d (l.take k)).2 ++ List.replicate (l.length - k) false
theorem dbK_0 (d : Int) (l : List Pa) : dbK d l 0 = List.replicate l.length false := by simp [dbK, st]
theorem dbK_all (d : Int) (l : List Pa) : dbK d l l.length = dbB d l := by simp [dbK, dbB]
theorem dbK_len (d : Int) {l : List Pa} {k : Nat} (hk : k ≤ l.length) : (dbK d l k).length = l.length := by
  rw [dbK, List.length_append, st_len, List.length_take, List.length_replicate]; omega
theorem dbK_t (d : Int) {l : List Pa} {k : Nat} {p : Pa} (h : l[k]? = some p) (hd : isD d (st d (l.take k)).1 p = true) : (dbK d l k).set k true = dbK d l (k + 1) := by
  have hk := (List.getElem?_eq_some_iff.1 h).1
  have hl : (st d (l.take k)).2.length = k := by rw [st_len, List.length_take]; omega
  unfold dbK
  rw [st_take d h, stp, if_pos hd, List.set_append_right _ _ (by omega), hl, Nat.sub_self, show l.length - k = (l.length - (k + 1)) + 1 by omega, List.replicate_succ, List.set_cons_zero, List.append_assoc]
  rfl
theorem dbK_f (d : Int) {l : List Pa} {k : Nat} {p : Pa} (h : l[k]? = some p) (hd : isD d (st d (l.take k)).1 p = false) : dbK d l k = dbK d l (k + 1) := by
  have hk := (List.getElem?_eq_some_iff.1 h).1
  unfold dbK
  rw [st_take d h, stp, if_neg (by simp [hd]), show l.length - k = (l.length - (k + 1)) + 1 by omega, List.replicate_succ, List.append_assoc]
  rfl
def bc (l : List Bool) : Array Value := (l.map Value.bool).toArray
theorem bc_set (l : List Bool) (k : Nat) (b : Bool) : (bc l).setIfInBounds k (.bool b) = bc (l.set k b) := by
  unfold bc
  apply Array.ext'
  simp [List.map_set]
theorem bc_at {l : List Bool} {k : Nat} {b : Bool} (h : l[k]? = some b) : (bc l)[k]? = some (.bool b) := by simp [bc, h]
theorem bkCells (n : Nat) : madeCells (Value.cells (.bool false)) n = bc (List.replicate n false) := by
  apply Array.ext
  · simp [madeCells, bc]
  · intro k h1 h2
    simp [madeCells, bc, Value.cells, Nat.mod_one]
theorem mkBools (n : Nat) (hn : n ≤ 1000) (w : World) : (Instr.makeSlice 84 (.int .i64 (n : Int)) (.int .i64 (n : Int))).run Tryd.prog w = .ok (.slice (some ⟨w.heap.size, 0, none⟩) n n) (w.alloc (.cells (bc (List.replicate n false)) 4)) := by
  obtain ⟨i0, hi, hz0, hz1, hz2⟩ := info_parts (show (Tryd.prog.info? 4).map (fun i => (i.zero, i.size, i.bytes)) = some (some (.bool false), 1, 1) by kernel_rfl)
  have h := run_make (P := Tryd.prog) w 84 4 i0 (.bool false) Tryd.underlying84 hi hz0 .i64 .i64 n n (by omega) (by omega) (by rw [hz2]; omega) (by omega)
  rw [h, hz1, Int.toNat_natCast, Nat.mul_one, bkCells]
theorem tk_info (x : Pr) : (Tryd.prog.info? 92).map (·.size) = some (#[.string x.1, .string x.2] : Array Value).size := (by kernel_rfl : (Tryd.prog.info? 92).map (·.size) = some 2)
theorem zi_run2 (w : World) : (zeroValue 3).run Tryd.prog w = .ok (.int .i64 0) w := by kernel_rfl
def numL (k : Nat) : List Bool → List Int
  | [] => []
  | b :: r => if b = true then (k : Int) :: numL (k + 1) r else numL (k + 1) r
theorem numL_snoc (k : Nat) (l : List Bool) (b : Bool) : numL k (l ++ [b]) = if b = true then numL k l ++ [((k + l.length : Nat) : Int)] else numL k l := by
  induction l generalizing k with
  | nil => cases b <;> simp [numL]
  | cons a r ih =>
    rw [List.cons_append, numL, ih, numL]
    have e : k + 1 + r.length = k + (a :: r).length := by simp; omega
    rw [e]
    cases a <;> cases b <;> simp
theorem numL_len (k : Nat) (l : List Bool) : (numL k l).length ≤ l.length := by
  induction l generalizing k with
  | nil => simp [numL]
  | cons a r ih =>
    rw [numL]
    have := ih (k + 1)
    split <;> simp <;> omega
def DbRel (w : World) (d : Int) (rc : Array Value) (l : List Pa) (gR gM gD : Nat) (i : Value) (wr : World) : Prop :=
  ∃ k c : Nat, k ≤ l.length ∧ i = .int .i64 k ∧ c ≤ k ∧ OwnK KT wr gM c (sv2 (st d (l.take k)).1) ∧ Bk wr gD 4 (bc (dbK d l k)) ∧ Bk wr gR 73 rc ∧ G w wr none
set_option maxRecDepth 100000 in
set_option maxHeartbeats 8000000 in
theorem areDoubles_c (x : Tr) (v : Value) (l : List Pa) (w : World) (hr : RdR w 4 paC v l) (hl : PaOk l) (hb : ∀ p ∈ l, 0 ≤ p.1 ∧ p.1 < 5761440) (hn : l.length ≤ 1000) :
    Calls Tryd.prog 61 #[.agg (trC x), v] w fun e w' => ∃ g : Nat, e = .returned (.slice (some ⟨g, 0, none⟩) l.length l.length) ∧ Bk w' g 4 (bc (dbB x.1 l)) ∧ G w w' none := by
  have HR := Lib.hid hr
  obtain ⟨a, cap, rfl, hcap, hm⟩ := RdR.form hr
  clear hr
  obtain ⟨d, q, f⟩ := x
  dsimp only
  have HPB := Lib.hid hb
  clear hb
  show Calls Tryd.prog 61 #[.agg #[.int .i64 d, .int .i64 q, .int .i64 f], .slice a l.length cap] w _
  have hB : Bk (w.alloc (.cells #[.int .i64 d, .int .i64 q, .int .i64 f] 73)) w.heap.size 73 #[.int .i64 d, .int .i64 q, .int .i64 f] := Bk.new _ _ _
  have hG := (G.refl w none).alloc (.cells #[.int .i64 d, .int .i64 q, .int .i64 f] 73)
  go_enter Tryd.func61, Tryd.ntmps61
  go_upto_region 1 with fail
  generalize w.alloc (.cells #[.int .i64 d, .int .i64 q, .int .i64 f] 73) = w1 at hB hG ⊢
  have hmm : ∀ (w : World), (Instr.makeMap 90 none).run Tryd.prog w = .ok (.map (some w.heap.size)) (w.alloc (.map #[] 0)) := fun _ => rfl
  have hM : OwnK KT (w1.alloc (.map #[] 0)) w1.heap.size 0 (fun _ => none) := OwnK.made w1 KT rfl
  have hB2 := hB.alloc (.map #[] 0)
  have hG2 := hG.alloc (.map #[] 0)
  have hgM := hG.size
  have hne0 : w.heap.size < w1.heap.size := hB.lt
  clear hB hG
  go_upto_region 2 with fail
  generalize w1.alloc (.map #[] 0) = w2 at hM hB2 hG2 ⊢
  generalize w1.heap.size = gM at hM hgM hne0 ⊢
  clear hmm
  have hmk := fun w => mkBools l.length hn w
  have hD : Bk (w2.alloc (.cells (bc (List.replicate l.length false)) 4)) w2.heap.size 4 (bc (List.replicate l.length false)) := Bk.new _ _ _
  have hM3 := hM.alloc (.cells (bc (List.replicate l.length false)) 4)
  have hB3 := hB2.alloc (.cells (bc (List.replicate l.length false)) 4)
  have hG3 := hG2.alloc (.cells (bc (List.replicate l.length false)) 4)
  have hgD := hG2.size
  have hne1 : gM < w2.heap.size := hM.lt
  have hne2 : w.heap.size < w2.heap.size := hB2.lt
  clear hM hB2 hG2
  go_upto_region 3 with fail
  generalize w2.alloc (.cells (bc (List.replicate l.length false)) 4) = w3 at hD hM3 hB3 hG3 ⊢
  generalize w2.heap.size = gD at hD hgD hne1 hne2 ⊢
  clear hmk
  rw [← dbK_0 d l] at hD
  go_wp2_with fail
  go_loopw [18] (DbRel w d #[.int .i64 d, .int .i64 q, .int .i64 f] l w.heap.size gM gD) (fun i _ => l.length - (intOf i).toNat)
  case atStart => exact ⟨0, 0, by omega, rfl, by omega, hM3, hD, hB3, hG3⟩
  case round =>
    clear hD hM3 hB3 hG3
    obtain ⟨k, cn, hkl, rfl, hcn, hM, hD, hB, hG⟩ := hrel
    by_cases hk : k < l.length
    · obtain ⟨⟨t, gk, y, c⟩, hp⟩ : ∃ p, l[k]? = some p := ⟨_, List.getElem?_eq_getElem hk⟩
      have hpm := List.mem_of_getElem? hp
      obtain ⟨t0b, t1b⟩ := HPB.out _ hpm
      obtain ⟨hs1, hs2⟩ := hl _ hpm
      dsimp only at hs1 hs2 t0b t1b
      unfold Small at hs1 hs2
      have HOK : Hid (KT.ok (gk, y)) := Lib.hid ⟨hs1, hs2⟩
      obtain ⟨bb, bo, rfl, hbb, _⟩ := RdR.elem paC_sz HR.out hG hp
      have HW := Lib.hid (paRow HR.out hG hp)
      have HST := Lib.hid (st_take d hp)
      have HBI := Lib.hid (st_bnd d (l := l.take k) (fun x hx => HPB.out x (List.mem_of_mem_take hx)))
      have hlk : (st d (l.take k)).2.length = k := by rw [st_len, List.length_take]; omega
      have HLK := Lib.hid hlk
      have HDT := Lib.hid (fun e => dbK_t d hp e)
      have HDF := Lib.hid (fun e => dbK_f d hp e)
      have hdl : (dbK d l k).length = l.length := dbK_len d (by omega)
      obtain ⟨bq, hbq⟩ : ∃ bq, (dbK d l k)[k]? = some bq := ⟨_, List.getElem?_eq_getElem (by omega)⟩
      have HDQ := Lib.hid (bc_at hbq)
      clear hbq hdl
      have HK := Lib.hid hk
      clear hlk
      have hB5 : Bk (wr.alloc (.cells #[.int .i64 t, .string gk, .string y, .int .i64 c] 34)) wr.heap.size 34 #[.int .i64 t, .string gk, .string y, .int .i64 c] := Bk.new wr 34 _
      have hG5 : G w (wr.alloc (.cells #[.int .i64 t, .string gk, .string y, .int .i64 c] 34)) none := hG.alloc (.cells (paC (t, gk, y, c)) 34)
      have hM5 := hM.alloc (.cells #[.int .i64 t, .string gk, .string y, .int .i64 c] 34)
      have hBR5 := hB.alloc (.cells #[.int .i64 t, .string gk, .string y, .int .i64 c] 34)
      have hD5 := hD.alloc (.cells #[.int .i64 t, .string gk, .string y, .int .i64 c] 34)
      have hgl := hM.lt
      have hwl := hB.lt
      have hdl := hD.lt
      clear hp hG hM hpm hB hD
      go_upto_region 6 with (refine wpList_load_at rfl 34 _ rfl ⟨bb, bo + k * 4, none⟩ rfl #[.int .i64 t, .string gk, .string y, .int .i64 c] _ HW.out Tryd.underlying34 rfl (pa_info (t, gk, y, c)) ?_)
      clear HW
      generalize wr.alloc (.cells #[.int .i64 t, .string gk, .string y, .int .i64 c] 34) = w5 at hB5 hG5 hM5 hBR5 hD5 ⊢
      generalize wr.heap.size = g5 at hB5 hgl hwl hdl ⊢
      have c1 : w5.cell? ⟨g5, 1, none⟩ = some (.string gk) := hB5.cell 1
      have c2 : w5.cell? ⟨g5, 2, none⟩ = some (.string y) := hB5.cell 2
      have hK6 : Bk (w5.alloc (.cells #[.string gk, .string y] 92)) w5.heap.size 92 #[.string gk, .string y] := Bk.new _ _ _
      have hB6 := hB5.alloc (.cells #[.string gk, .string y] 92)
      have hG6 := hG5.alloc (.cells #[.string gk, .string y] 92)
      have hM6 := hM5.alloc (.cells #[.string gk, .string y] 92)
      have hBR6 := hBR5.alloc (.cells #[.string gk, .string y] 92)
      have hD6 := hD5.alloc (.cells #[.string gk, .string y] 92)
      have hgl6 : gM < w5.heap.size := hM5.lt
      have hdl6 : gD < w5.heap.size := hD5.lt
      go_upto_region 7 with fail
      clear c1 c2 hB5 hG5 hM5 hBR5 hD5
      generalize w5.alloc (.cells #[.string gk, .string y] 92) = w6 at hK6 hB6 hG6 hM6 hBR6 hD6 ⊢
      generalize w5.heap.size = g6 at hK6 hgl6 hdl6 ⊢
      have c0 : w6.cell? ⟨g5, 0, none⟩ = some (.int .i64 t) := hB6.cell 0
      have r0 : w6.cell? ⟨w.heap.size, 0, none⟩ = some (.int .i64 d) := hBR6.cell 0
      have b0 : w6.cell? ⟨gD, k, none⟩ = some (.bool bq) := (hD6.cell k).trans HDQ.out
      have b1 : w6.frozen? ⟨gD, k, none⟩ = false := hD6.free k
      have hclt : cn < maxLen := by unfold maxLen; omega
      obtain ⟨S, hS⟩ : ∃ S, st d (l.take k) = S := ⟨_, rfl⟩
      rw [hS] at HST HBI HLK hM6 HDT HDF
      clear hS
      obtain ⟨F, acc⟩ := S
      dsimp only at HST HBI HLK hM6 HDT HDF
      have HPUT := Lib.hid (fun n : Int => sv2_put F (gk, y) n)
      have hFk : sv2 F (gk, y) = (F (gk, y)).map (fun n => .int .i64 n) := rfl
      cases hf : F (gk, y) with
      | none =>
        have hfs : sv2 F (gk, y) = none := by rw [hFk, hf]; rfl
        have HD0 : Hid (isD d F (t, gk, y, c) = false) := Lib.hid (by unfold isD; dsimp only; rw [hf])
        clear hFk hf
        go_wp2_with (first | (refine wpList_load_row rfl 92 _ rfl g6 rfl 92 #[.string gk, .string y] (0, 0) _ hK6 Tryd.underlying92 rfl (tk_info (gk, y)) ?_) | (at_lookup; refine wpK_look_ok (KK := KT) rfl _ _ 90 rfl 3 Tryd.underlying90 (.int .i64 0) (zi_run2 _) gM cn (sv2 F) rfl hM6 (gk, y) rfl HOK.out ?_; rw [hfs]) | (at_mapUpdate; refine wpK_store (KK := KT) rfl _ _ _ 90 rfl 3 Tryd.underlying90 gM cn (sv2 F) rfl hM6 hclt (gk, y) rfl HOK.out (.int .i64 t) rfl ?_; intro w7 hM7 hG7))
        rw [HPUT.out] at hM7
        have hcp : cputK cn (sv2 F) (gk, y) ≤ k + 1 := by unfold cputK; split <;> omega
        refine ⟨⟨k + 1, _, by have := HK.out; omega, by go_num, hcp, ?_, ?_, hBR6.grown hG7 (by intro e; have := Option.some.inj e; omega), ?_⟩, by have := HK.out; simp only [intOf]; omega⟩
        · rw [HST.out, stp, if_neg (by simp [HD0.out])]; exact hM7
        · rw [← HDF.out HD0.out]; exact hD6.grown hG7 (by intro e; have := Option.some.inj e; omega)
        · exact hG6.other hG7 (fun j e => .inl (by obtain rfl := Option.some.inj e; omega))
      | some t2 =>
        have hfs : sv2 F (gk, y) = some (.int .i64 t2) := by rw [hFk, hf]; rfl
        have htb := HBI.out _ _ hf
        obtain ⟨u0, u1⟩ := htb
        have hw : IntKind.i64.wrap (t - t2) = t - t2 := by rw [IntKind.wrap_i64]; omega
        by_cases hdd : t - t2 < d
        · have HD1 : Hid (isD d F (t, gk, y, c) = true) := Lib.hid (by unfold isD; dsimp only; rw [hf]; exact decide_eq_true hdd)
          clear hFk hf
          go_wp2_with (first | (refine wpList_load_row rfl 92 _ rfl g6 rfl 92 #[.string gk, .string y] (0, 0) _ hK6 Tryd.underlying92 rfl (tk_info (gk, y)) ?_) | (at_lookup; refine wpK_look_ok (KK := KT) rfl _ _ 90 rfl 3 Tryd.underlying90 (.int .i64 0) (zi_run2 _) gM cn (sv2 F) rfl hM6 (gk, y) rfl HOK.out ?_; rw [hfs]))
          go_roundw
          case rel => exact ⟨k + 1, cn, (by have := HK.out; omega), by go_num, by omega, (by rw [HST.out, stp, if_pos HD1.out]; exact hM6.setCell (by show gM ≠ gD; omega) _), (by rw [← HDT.out HD1.out, ← bc_set]; exact hD6.set k _), hBR6.far (by show w.heap.size ≠ gD; omega) _, hG6.setCell (.inl (by show w.heap.size ≤ gD; omega)) _⟩
          case measure => have := HK.out; simp [intOf]; omega
        · have HD0 : Hid (isD d F (t, gk, y, c) = false) := Lib.hid (by unfold isD; dsimp only; rw [hf]; exact decide_eq_false hdd)
          clear hFk hf
          go_wp2_with (first | (refine wpList_load_row rfl 92 _ rfl g6 rfl 92 #[.string gk, .string y] (0, 0) _ hK6 Tryd.underlying92 rfl (tk_info (gk, y)) ?_) | (at_lookup; refine wpK_look_ok (KK := KT) rfl _ _ 90 rfl 3 Tryd.underlying90 (.int .i64 0) (zi_run2 _) gM cn (sv2 F) rfl hM6 (gk, y) rfl HOK.out ?_; rw [hfs]) | (at_mapUpdate; refine wpK_store (KK := KT) rfl _ _ _ 90 rfl 3 Tryd.underlying90 gM cn (sv2 F) rfl hM6 hclt (gk, y) rfl HOK.out (.int .i64 t) rfl ?_; intro w7 hM7 hG7))
          rw [HPUT.out] at hM7
          have hcp : cputK cn (sv2 F) (gk, y) ≤ k + 1 := by unfold cputK; split <;> omega
          refine ⟨⟨k + 1, _, by have := HK.out; omega, by go_num, hcp, ?_, ?_, hBR6.grown hG7 (by intro e; have := Option.some.inj e; omega), ?_⟩, by have := HK.out; simp only [intOf]; omega⟩
          · rw [HST.out, stp, if_neg (by simp [HD0.out])]; exact hM7
          · rw [← HDF.out HD0.out]; exact hD6.grown hG7 (by intro e; have := Option.some.inj e; omega)
          · exact hG6.other hG7 (fun j e => .inl (by obtain rfl := Option.some.inj e; omega))
    · obtain rfl : k = l.length := by omega
      rw [dbK_all] at hD
      go_wp2_with fail
      go_ret
      exact ⟨gD, rfl, hD, hG⟩
end Go.Proofs.YtkpmcakppiinlaaDoor

/- toll.Doubles; the guard of stage 6 (tolled). Written by gendob.py. -/
namespace Go.Proofs.YtkpmcakppiinlaaDoor
open Go.RowKit

def dnR (x : Tr) (gs : List Ga) (l : List Pa) : List Int := if rdE x gs l = 0 then numL 0 (dbB x.1 l) else []
theorem rdE_pa {x : Tr} {gs : List Ga} {l : List Pa} (h : rdE x gs l = 0) : paE l = 0 := by
  unfold rdE at h
  split at h
  · unfold tcE at h
    split at h
    · split at h
      · assumption
      · exact h
    · rename_i h1
      exact absurd h h1
  · rename_i h1
    exact absurd h h1
theorem numL_take (l : List Bool) {k : Nat} {b : Bool} (h : l[k]? = some b) : numL 0 (l.take (k + 1)) = if b = true then numL 0 (l.take k) ++ [(k : Int)] else numL 0 (l.take k) := by
  have hk := (List.getElem?_eq_some_iff.1 h).1
  rw [List.take_add_one, h]
  show numL 0 (l.take k ++ [b]) = _
  rw [numL_snoc, List.length_take, Nat.min_eq_left (by omega), Nat.zero_add]
def DoRel (w : World) (bs : List Bool) (base g : Nat) (s9 i : Value) (wr : World) : Prop :=
  ∃ k : Nat, k ≤ bs.length ∧ i = .int .i64 k ∧ OwnIn wr base s9 (numL 0 (bs.take k)) ∧ Bk wr g 4 (bc bs) ∧ G w wr none
set_option maxRecDepth 100000 in
set_option maxHeartbeats 4000000 in
theorem doubles_c (x : Tr) (v v2 : Value) (gs : List Ga) (l : List Pa) (w : World) (hr : RdR w 3 gaC v gs) (hr2 : RdR w 4 paC v2 l) (hl : GaOk gs) (hl2 : PaOk l) (hn : gs.length ≤ 1000) (hn2 : l.length ≤ 1000000) :
    Calls Tryd.prog 44 #[v, .agg (trC x), v2] w fun e w' => ∃ v', e = .returned (.tuple #[v', .int .i64 (rdE x gs l)]) ∧ RdI w' v' (dnR x gs l) ∧ G w w' none := by
  obtain ⟨a, cap, rfl, hcap, hm⟩ := RdR.form hr
  obtain ⟨a2, cap2, rfl, hcap2, hm2⟩ := RdR.form hr2
  obtain ⟨E, hE⟩ : ∃ E, rdE x gs l = E := ⟨_, rfl⟩
  obtain ⟨XL, hXL⟩ : ∃ XL, dnR x gs l = XL := ⟨_, rfl⟩
  have HE := Lib.hid hE
  have HX : Hid (XL = if E = 0 then numL 0 (dbB x.1 l) else []) := Lib.hid (by rw [← hXL, ← hE]; rfl)
  rw [hE, hXL]
  clear hE hXL
  have CR := Lib.hid (fun w' (p : RdR w' 3 gaC (.slice a gs.length cap) gs) (p2 : RdR w' 4 paC (.slice a2 l.length cap2) l) => checkRuled_c x _ _ gs l w' p p2 hl hl2 hn hn2)
  have CA := Lib.hid (fun w' (p2 : RdR w' 4 paC (.slice a2 l.length cap2) l) hb hn => areDoubles_c x _ l w' p2 hl2 hb hn)
  obtain ⟨d, q, f⟩ := x
  show Calls Tryd.prog 44 #[.slice a gs.length cap, .agg #[.int .i64 d, .int .i64 q, .int .i64 f], .slice a2 l.length cap2] w _
  have hB : Bk (w.alloc (.cells #[.int .i64 d, .int .i64 q, .int .i64 f] 73)) w.heap.size 73 #[.int .i64 d, .int .i64 q, .int .i64 f] := Bk.new _ _ _
  have hG := (G.refl w none).alloc (.cells #[.int .i64 d, .int .i64 q, .int .i64 f] 73)
  go_enter Tryd.func44, Tryd.ntmps44
  go_upto_region 1 with fail
  generalize w.alloc (.cells #[.int .i64 d, .int .i64 q, .int .i64 f] 73) = w1 at hB hG ⊢
  generalize w.heap.size = g at hB ⊢
  go_wp2_with (refine wpList_load_row rfl 73 _ rfl g rfl 73 #[.int .i64 d, .int .i64 q, .int .i64 f] (0, 0) _ hB Tryd.underlying73 rfl (tr_info (d, q, f)) ?_)
  refine (CR.out _ (hr.quiet hG) (hr2.quiet hG)).mono ?_; rintro e w2 ⟨rfl, hh⟩
  rw [HE.out]
  replace hr2 := (hr2.quiet hG).quiet hh
  replace hB := hB.quiet hh
  replace hG := hG.trans hh
  clear hh hr CR
  by_cases e1 : E = 0
  · subst e1
    obtain ⟨hpb, hpl⟩ := paE_ok (rdE_pa HE.out)
    have HPB := Lib.hid hpb
    have HX1 : Hid (XL = numL 0 (dbB d l)) := Lib.hid (by rw [HX.out, if_pos rfl])
    clear hpb HX
    go_wp2_with (refine wpList_load_row rfl 73 _ rfl g rfl 73 #[.int .i64 d, .int .i64 q, .int .i64 f] (0, 0) _ hB Tryd.underlying73 rfl (tr_info (d, q, f)) ?_)
    refine (CA.out _ hr2 HPB.out hpl).mono ?_; rintro e w3 ⟨gB, rfl, hBB, hh⟩
    replace hG := hG.trans hh
    clear hh hB hr2 CA
    obtain ⟨bs, hbs⟩ : ∃ bs, dbB d l = bs := ⟨_, rfl⟩
    have hbl : bs.length = l.length := by rw [← hbs]; exact st_len d l
    rw [hbs] at hBB HX1
    clear hbs
    rw [← hbl]
    have hbl2 : bs.length ≤ 1000 := by omega
    clear hbl
    have hsz := hG.size
    go_wp2_with fail
    go_loopw [9, 23] (DoRel w3 bs w3.heap.size gB) (fun _ i _ => bs.length - (intOf i).toNat)
    case atStart => exact ⟨0, by omega, rfl, World.ownsRow_nil _ _ _ _, hBB, G.refl _ _⟩
    case round =>
      clear hBB
      obtain ⟨k, hk, rfl, hown, hBB, hGr⟩ := hrel
      by_cases hlt : k < bs.length
      · obtain ⟨b, hb⟩ : ∃ b, bs[k]? = some b := ⟨_, List.getElem?_eq_getElem hlt⟩
        have HT := Lib.hid (numL_take bs hb)
        have c0 : wr.cell? ⟨gB, k, none⟩ = some (.bool b) := (hBB.cell k).trans (bc_at hb)
        have HK := Lib.hid hlt
        have hkl : (k : Int) < (bs.length : Int) := by omega
        have hnl := numL_len 0 (bs.take k)
        have htk : (bs.take k).length ≤ 1000 := by rw [List.length_take]; omega
        clear hb
        cases b with
        | false =>
          have HN : Hid (numL 0 (bs.take (k + 1)) = numL 0 (bs.take k)) := Lib.hid (by rw [HT.out, if_neg (by simp)])
          go_wp2_with fail
          go_roundw
          case rel => exact ⟨k + 1, (by have := HK.out; omega), by go_num, (by rw [HN.out]; exact hown), hBB, hGr⟩
          case measure => have := HK.out; simp [intOf]; omega
        | true =>
          have HN : Hid (numL 0 (bs.take (k + 1)) = numL 0 (bs.take k) ++ [(k : Int)]) := Lib.hid (by rw [HT.out, if_pos rfl])
          have hownA := OwnX.alloc hown (.cells #[.int .i64 (k : Int)] 3)
          have hob := OwnX.low hown
          have hsr := hGr.size
          obtain ⟨NL, hNL⟩ : ∃ NL, numL 0 (bs.take k) = NL := ⟨_, rfl⟩
          rw [hNL] at hownA HN hnl
          clear hNL hown
          go_wp2_with (at_builtin; refine wpList_plain rfl fun K' hK' => wp_append_x in_rowOk _ _ rfl w3.heap.size u9 NL rfl hownA wr.heap.size (k : Int) rfl (Bk.new wr _ _) (by omega) (by simp; omega) ?_; intro v8 w8 hown8 hgrow; refine hK' _ _ ?_)
          go_roundw
          case rel => exact ⟨k + 1, (by have := HK.out; omega), by go_num, (by rw [HN.out]; exact hown8), (hBB.alloc _).grown hgrow (OwnX.apt hownA (hBB.alloc _) (by decide)), (hGr.alloc _).other hgrow (fun r e => .inl (hob r e))⟩
          case measure => have := HK.out; simp [intOf]; omega
      · obtain rfl : k = bs.length := by omega
        rw [List.take_length] at hown
        obtain rfl : XL = numL 0 bs := HX1.out
        go_wp2_with fail
        go_ret2
        exact ⟨_, rfl, Rd.of_owns hown, hG.trans hGr⟩
  · obtain rfl : XL = [] := by rw [HX.out, if_neg e1]
    have hb : (E != 0) = true := bne_iff_ne.2 e1
    clear e1 HX
    go_wp2_with fail
    go_ret2
    exact ⟨_, rfl, RdR.nil _ _ _, hG⟩
/-! ### tolled -/
def tG : List Ga := [(⟨#[103]⟩, ⟨#[97]⟩, 0)]
def tP : List Pa := [(1, ⟨#[103]⟩, ⟨#[65, 65]⟩, 0), (2, ⟨#[103]⟩, ⟨#[65, 65]⟩, 0)]
theorem tolled_at : rdE (5, 0, 0) tG tP = 0 ∧ numL 0 (dbB 5 tP) = [1] := by decide +kernel
theorem tG_ok : GaOk tG := fun x hx => by
  simp only [tG, List.mem_cons, List.mem_nil_iff, or_false] at hx
  subst hx
  exact ⟨small_of (s := ⟨#[103]⟩) (by decide), small_of (s := ⟨#[97]⟩) (by decide)⟩
theorem tP_ok : PaOk tP := fun x hx => by
  simp only [tP, List.mem_cons, List.mem_nil_iff, or_false] at hx
  rcases hx with rfl | rfl <;> exact ⟨small_of (s := ⟨#[103]⟩) (by decide), small_of (s := ⟨#[65, 65]⟩) (by decide)⟩
set_option maxRecDepth 100000 in
set_option maxHeartbeats 4000000 in
theorem tolled_c (w : World) : Calls Tryd.prog 20 #[] w fun e w' => e = .returned (.bool true) ∧ G w w' none := by
  have hP : RdR (w.alloc (.cells #[.int .i64 1, .string ⟨#[103]⟩, .string ⟨#[65, 65]⟩, .int .i64 0, .int .i64 2, .string ⟨#[103]⟩, .string ⟨#[65, 65]⟩, .int .i64 0] 34)) 4 paC (.slice (some ⟨w.heap.size, 0, none⟩) 2 2) tP := (Bk.new w 34 #[.int .i64 1, .string ⟨#[103]⟩, .string ⟨#[65, 65]⟩, .int .i64 0, .int .i64 2, .string ⟨#[103]⟩, .string ⟨#[65, 65]⟩, .int .i64 0]).rd 4 2 rfl (by omega)
  have hG1 := (G.refl w none).alloc (.cells #[.int .i64 1, .string ⟨#[103]⟩, .string ⟨#[65, 65]⟩, .int .i64 0, .int .i64 2, .string ⟨#[103]⟩, .string ⟨#[65, 65]⟩, .int .i64 0] 34)
  go_enter Tryd.func20, Tryd.ntmps20
  go_upto_region 2 with fail
  generalize w.alloc (.cells #[.int .i64 1, .string ⟨#[103]⟩, .string ⟨#[65, 65]⟩, .int .i64 0, .int .i64 2, .string ⟨#[103]⟩, .string ⟨#[65, 65]⟩, .int .i64 0] 34) = w1 at hP hG1 ⊢
  generalize w.heap.size = g at hP ⊢
  have hGt : RdR (w1.alloc (.cells #[.string ⟨#[103]⟩, .string ⟨#[97]⟩, .int .i64 0] 51)) 3 gaC (.slice (some ⟨w1.heap.size, 0, none⟩) 1 1) tG := (Bk.new w1 51 #[.string ⟨#[103]⟩, .string ⟨#[97]⟩, .int .i64 0]).rd 3 1 rfl (by omega)
  have hh := (G.refl w1 none).alloc (.cells #[.string ⟨#[103]⟩, .string ⟨#[97]⟩, .int .i64 0] 51)
  have hP2 := hP.quiet hh
  have hG2 := hG1.trans hh
  clear hP hG1 hh
  go_wp2_with fail
  generalize w1.alloc (.cells #[.string ⟨#[103]⟩, .string ⟨#[97]⟩, .int .i64 0] 51) = w2 at hGt hP2 hG2 ⊢
  refine (doubles_c (5, 0, 0) _ _ tG tP _ hGt hP2 tG_ok tP_ok (by decide) (by decide)).mono ?_; rintro e w3 ⟨v, rfl, hR, hh⟩
  have hG3 := hG2.trans hh
  unfold dnR at hR
  rw [if_pos tolled_at.1, tolled_at.2] at hR
  rw [tolled_at.1]
  clear hGt hP2 hG2 hh
  obtain ⟨a, c, rfl, -, -⟩ := RdR.form (c := inC) hR
  have hR2 := Rd.quiet hR ((G.refl w3 none).alloc (.cells #[.int .i64 1] 3))
  go_wp2_with fail
  refine (inEqual_c _ _ [1] _ hR2 (Rd.new (T := 3) #[.int .i64 1] rfl (by show 1 ≤ maxLen; decide)) (by simp)).mono ?_; rintro e w4 ⟨rfl, hh⟩
  go_wp2_with fail
  go_ret
  exact ⟨rfl, (hG3.alloc _).trans hh⟩
end Go.Proofs.YtkpmcakppiinlaaDoor

/- rentlaw2's own errs, when. -/
namespace Go.Proofs.YtkpmcakppiinlaaDoor
open Go.RowKit

def Errs2Rel (es : List Int) (i : Value) : Prop := ∃ k : Nat, k ≤ es.length ∧ i = .int .i64 k ∧ errsOf es = errsOf (es.drop k)
set_option maxRecDepth 100000 in
set_option maxHeartbeats 1000000 in
theorem errs2_c (es : List Int) (v : Value) (w : World) (hr : Rd w 1 v es.length (es.map (Value.int .i64))) (hn : es.length ≤ 1000) :
    Calls Tryd.prog 15 #[v] w fun e w' => e = .returned (.int .i64 (errsOf es)) ∧ w = w' := by
  obtain ⟨a, cap, rfl, hcap, hm, hlen, hnil, hcell⟩ := hr
  go_enter Tryd.func15, Tryd.ntmps15
  go_wp2_with fail
  go_loop [7] (Errs2Rel es) (fun i => es.length - (intOf i).toNat)
  case atStart => exact ⟨0, by omega, rfl, rfl⟩
  case round =>
    obtain ⟨k, hk, rfl, heq⟩ := hrel
    have HE := Lib.hid heq
    clear heq
    by_cases hlt : k < es.length
    · obtain ⟨x, hx⟩ : ∃ x, es[k]? = some x := ⟨_, List.getElem?_eq_getElem hlt⟩
      have HD : Hid (errsOf es = if x = 0 then errsOf (es.drop (k + 1)) else x) := Lib.hid (by
        rw [HE.out, List.drop_eq_getElem_cons hlt, (List.getElem?_eq_some_iff.1 hx).2]; rfl)
      cases a with
      | none => have := (hnil rfl).1; omega
      | some ad =>
        obtain ⟨bb, bo, bs⟩ := ad
        obtain ⟨e1, e2, e3⟩ := hcell _ rfl
        dsimp only at e1 e2 e3
        subst e1
        have hc := e3 k (.int .i64 x) (by rw [List.getElem?_map, hx]; rfl)
        clear hcell e3 hnil hx
        by_cases h0 : x = 0
        · subst h0
          have HF : Hid (errsOf es = errsOf (es.drop (k + 1))) := Lib.hid (by rw [HD.out, if_pos rfl])
          go_wp2_with fail
          go_round
          case rel => exact ⟨k + 1, by omega, by go_num, HF.out⟩
          case measure => simp [intOf]; omega
        · have HF : Hid (errsOf es = x) := Lib.hid (by rw [HD.out, if_neg h0])
          have h1 : (x != 0) = true := by rw [bne_iff_ne]; exact h0
          clear h0
          go_wp2_with fail
          go_ret
          exact ⟨ret_int HF.out.symm, rfl⟩
    · obtain rfl : k = es.length := by omega
      have HF : Hid (errsOf es = 0) := Lib.hid (by rw [HE.out, List.drop_length]; rfl)
      go_wp2_with fail
      go_ret
      exact ⟨ret_int HF.out.symm, rfl⟩
end Go.Proofs.YtkpmcakppiinlaaDoor

/- The law PassagesMerge. -/
namespace Go.Proofs.YtkpmcakppiinlaaDoor
open Go.RowKit

theorem pml_len {A : List Pa} {q : Pa} {k : Nat} (h : A.length ≤ 6) : ((A.drop k).set 0 q).length ≤ 6 := by rw [List.length_set, List.length_drop]; omega
theorem PaG.drop {l : List Pa} (h : PaG l) (k : Nat) : PaG (l.drop k) := h.sub fun _ hz => List.mem_of_mem_drop hz
theorem PaG.app {l m : List Pa} (h : PaG l) (h' : PaG m) : PaG (l ++ m) := ⟨fun x hx => (List.mem_append.1 hx).elim (h.1 x) (h'.1 x), fun x hx => (List.mem_append.1 hx).elim (h.2 x) (h'.2 x)⟩
/-- The reference's true moment, where there is no fault. -/
theorem pm_true (gs : List Ga) (x : Pa) (h : tcE gs [x] = 0) (v : Value) (w : World) (hr : RdR w 3 gaC v gs) (hn : gs.length ≤ 1000) :
    Calls Tryd.prog 19 #[v, .agg (paC x)] w fun e w' => e = .returned (.int .i64 (x.1 - clk gs x.2.1)) ∧ G w w' none := by
  unfold tcE at h
  by_cases h1 : gaE gs = 0
  · rw [if_pos h1] at h
    by_cases h2 : paE [x] = 0
    · have h3 := (paE_ok h2).1 _ List.mem_cons_self
      exact trueOf_c x v gs w hr (gaE_ok h1).1 (by omega) (by omega) (gaE_ok h1).2.1
    · rw [if_neg h2] at h; exact absurd h h2
  · rw [if_neg h1] at h; exact absurd h h1
/-- What the law knows of its three lists behind the drawing. -/
def PmCut (W : World) (v1 v2 : Value) (gs : List Ga) (A : List Pa) (s6 : Value) (w : World) : Prop :=
  ∃ B : List Pa, RdR w 3 gaC v1 gs ∧ RdR w 4 paC v2 A ∧ RdR w 4 paC s6 B ∧ PaG B ∧ B.length ≤ 6 ∧ G W w none
/-- Behind the guarded Flip. -/
def PmCut4 (W : World) (v1 v2 v3 : Value) (gs : List Ga) (A B : List Pa) (n1 n3 : Nat) (s35 : Value) (w : World) : Prop :=
  ∃ q : Bool, s35 = .bool q ∧ (q = true → 0 < A.length) ∧ SB w W.heap.size 1000 ∧ OwnX 51 3 gaC w n1 v1 gs ∧ OwnPa w n3 v2 A ∧ RdR w 4 paC v3 B ∧ G W w (some W.heap.size)
/-- Behind the reference's answer. -/
def PmCut9 (W : World) (v1 v2 v7 : Value) (gs : List Ga) (A : List Pa) (E : Int) (LT : List Pa) (s9 s10 : Value) (w : World) : Prop :=
  s9 = .int .i64 E ∧ RdR w 4 paC s10 LT ∧ RdR w 4 paC v7 LT ∧ RdR w 3 gaC v1 gs ∧ RdR w 4 paC v2 A ∧ G W w none
def PmRel (W wl : World) (A : List Pa) (i : Value) (wr : World) : Prop := ∃ k : Nat, k ≤ A.length ∧ i = .int .i64 k ∧ G W wr none ∧ G wl wr none
set_option maxRecDepth 100000 in
set_option maxHeartbeats 4000000 in
theorem passagesMerge_c (a : Option Addr) (n c : Nat) (zs : List Int) (W : World) (hr : Rd W 1 (.slice a n c) n (zs.map (Value.int .i64))) (hz : ∀ z ∈ zs, -9223372036854775808 ≤ z ∧ z ≤ 9223372036854775807) :
    Calls Tryd.prog 3 #[.slice a n c] W fun e W' => e = .returned (.bool true) ∧ G W W' none := by
  have hSB : SB (W.alloc (.cells #[.slice a n c, .int .i64 0] 25)) W.heap.size 0 := by
    have hB := Bk.new W 25 #[.slice a n c, .int .i64 0]
    refine ⟨0, a, n, c, zs, Nat.le_refl _, hr.quiet ((G.refl _ _).alloc _), fun b e => ?_, hz, hB.cell 0, hB.cell 1, hB.free 1, hB.lt⟩
    obtain ⟨a', c', e', r1, r2, r3, r4, r5⟩ := hr
    cases e'
    exact (r5 b e).2.1
  have hG0 : G W (W.alloc (.cells #[.slice a n c, .int .i64 0] 25)) (some W.heap.size) := (G.refl _ _).alloc _
  clear hr hz
  go_enter Tryd.func3, Tryd.ntmps3
  go_upto_region 2 with fail
  generalize W.alloc (.cells #[.slice a n c, .int .i64 0] 25) = w0 at hSB hG0 ⊢
  have hs0 : W.heap.size < w0.heap.size := hSB.lt
  go_wp2_with fail
  refine (gatesG_c _ _ _ hSB (by omega)).mono ?_; rintro e w1 ⟨v1, gs, rfl, hown1, hgok, hg3, hSB1, hh⟩
  have hgl : gs.length ≤ 1000 := by omega
  clear hg3
  have hG1 := hG0.trans hh
  clear hSB hG0 hh
  go_wp2_with fail
  refine (range_c 0 6 _ W.heap.size _ hSB1 (by omega) (by omega) (by omega) (by omega)).mono ?_; rintro e w2 ⟨nn, rfl, r0, r1, hSB2, hh⟩
  obtain ⟨m, rfl⟩ := Int.eq_ofNat_of_zero_le r0
  have hm12 : m ≤ 12 := by omega
  have hown2 := OwnX.kept hown1 hh hs0
  have hG2 := hG1.trans hh
  have hs2 : W.heap.size < w2.heap.size := hSB2.lt
  clear hSB1 hG1 hh hown1 r0
  go_wp2_with fail
  refine (passagesG_c m hm12 _ _ _ hSB2 (by omega)).mono ?_; rintro e w3 ⟨v2, A, rfl, hownA, hAok, hA12, hSB3, hh⟩
  have hown3 := OwnX.kept hown2 hh hs0
  have hG3 := hG2.trans hh
  have hs3 : W.heap.size < w3.heap.size := hSB3.lt
  have hA6 : A.length ≤ 6 := by omega
  clear hSB2 hG2 hh hown2 r1 hm12 hA12
  go_wp2_with fail
  refine (range_c 0 4 _ W.heap.size _ hSB3 (by omega) (by omega) (by omega) (by omega)).mono ?_; rintro e w4 ⟨nn, rfl, r0, r1, hSB4, hh⟩
  obtain ⟨m2, rfl⟩ := Int.eq_ofNat_of_zero_le r0
  have hm12 : m2 ≤ 12 := by omega
  have hm4 : m2 ≤ 4 := by omega
  have hown4 := OwnX.kept hown3 hh hs0
  have hownA4 := OwnX.kept hownA hh hs2
  have hG4 := hG3.trans hh
  have hs4 : W.heap.size < w4.heap.size := hSB4.lt
  clear hSB3 hG3 hh hown3 hownA r0 r1
  go_wp2_with fail
  refine (passagesG_c m2 hm12 _ _ _ hSB4 (by omega)).mono ?_; rintro e w5 ⟨v3, B0, rfl, hownB, hBok, hB4, hSB5, hh⟩
  have hown5 := OwnX.kept hown4 hh hs0
  have hownA5 := OwnX.kept hownA4 hh hs2
  have hG5 := hG4.trans hh
  have hB6 : B0.length ≤ 6 := by omega
  clear hSB4 hG4 hh hown4 hownA4 hm12 hm4 hB4
  obtain ⟨a1, c1, rfl, -, -⟩ := RdR.form (c := gaC) (Rd.of_owns hown5)
  obtain ⟨a2, c2, rfl, hc2, -⟩ := RdR.form (c := paC) (Rd.of_owns hownA5)
  have HC2 := Lib.hid hc2
  clear hc2
  have HA := Lib.hid hAok
  have HA6 := Lib.hid hA6
  have HB := Lib.hid hBok
  have HB6 := Lib.hid hB6
  have HGL := Lib.hid hgl
  have HGO := Lib.hid hgok
  clear hAok hA6 hBok hB6 hgl hgok
  go_upto_region 4 with fail
  go_cut [35] from 16 (fun s35 w' => PmCut4 W (.slice a1 gs.length c1) (.slice a2 A.length c2) v3 gs A B0 w0.heap.size w2.heap.size s35 w')
  case first =>
    by_cases hA0 : A.length = 0
    · have h0i : ¬ ((0 : Int) < (A.length : Int)) := by omega
      clear hA0
      go_wp2_with fail
      go_meet
      case rel => exact ⟨false, rfl, (fun e => by cases e), hSB5.le (by omega), hown5, hownA5, Rd.of_owns hownB, hG5⟩
    · have h0i : (0 : Int) < (A.length : Int) := by omega
      have h0 : 0 < A.length := by omega
      clear hA0
      go_wp2_with fail
      refine (flip_c _ _ _ _ hSB5 (by omega) (by omega)).mono ?_; rintro e w6 ⟨q, rfl, hSB6, hh⟩
      have hown6 := OwnX.kept hown5 hh hs0
      have hownA6 := OwnX.kept hownA5 hh hs2
      have hownB6 := OwnX.kept hownB hh hs4
      have hG6 := hG5.trans hh
      clear hSB5 hG5 hh hown5 hownA5 hownB
      go_wp2_with fail
      go_meet
      case rel => exact ⟨q, rfl, (fun _ => h0), hSB6.le (by omega), hown6, hownA6, Rd.of_owns hownB6, hG6⟩
  case rest =>
  obtain ⟨q, rfl, hq0, hSB6, hown6, hownA6, hRB6, hG6⟩ := hcut
  clear hSB5 hown5 hownA5 hownB hG5
  go_upto_if 35 with fail
  go_cut [6] from 16 (fun s6 w' => PmCut W (.slice a1 gs.length c1) (.slice a2 A.length c2) gs A s6 w')
  case first =>
    cases q with
    | false =>
      go_wp2_with fail
      go_meet
      case rel => exact ⟨B0, Rd.of_owns hown6, Rd.of_owns hownA6, hRB6, HB.out, HB6.out, hG6.own (Nat.le_refl _)⟩
    | true =>
      have h0 := hq0 rfl
      clear hRB6 hq0
      have hs6 := hSB6.lt
      obtain ⟨x0, hx0⟩ : ∃ x, A[0]? = some x := ⟨_, List.getElem?_eq_getElem h0⟩
      obtain ⟨bb, bo, rfl, hbb, -⟩ := RdR.elem paC_sz (Rd.of_owns hownA6) (G.refl _ none) hx0
      clear hx0
      go_wp2_with fail
      refine (next_c _ _ _ _ hSB6 (by omega) (by have := HA6.out; omega)).mono ?_; rintro e w7 ⟨j, rfl, hj, hSB7, hh⟩
      obtain ⟨j0, j1⟩ := hj
      obtain ⟨j, rfl⟩ := Int.eq_ofNat_of_zero_le j0
      have jl : j < A.length := by omega
      have jli : (j : Int) < (A.length : Int) := by omega
      clear j1 j0
      have hown7 := OwnX.kept hown6 hh hs0
      have hownA7 := OwnX.kept hownA6 hh hs2
      have hG7 := hG6.trans hh
      clear hSB6 hG6 hh hown6 hownA6
      have hcj : ¬ c2 = j := by have := HC2.out; omega
      have hRD := RdR.dropP paC_sz (Rd.of_owns hownA7) j (by omega)
      rw [if_neg hcj] at hRD
      have HD : Hid (PaG (A.drop j) ∧ (A.drop j).length ≤ 6 ∧ 0 < (A.drop j).length) := Lib.hid ⟨HA.out.drop j, by rw [List.length_drop]; have := HA6.out; omega, by rw [List.length_drop]; omega⟩
      have CL := Lib.hid (clonePa_c _ _ _ hRD (by have := HD.out.2.1; omega))
      generalize A.drop j = D at CL HD
      clear hRD
      go_wp2_with fail
      refine CL.out.mono ?_; rintro e w8 ⟨v8, rfl, hownC, hh⟩
      have hs7 := hSB7.lt
      have hown8 := OwnX.quiet hown7 hh
      have hownA8 := OwnX.quiet hownA7 hh
      have hSB8 := hSB7.quiet hh
      have hG8 := hG7.trans0 hh
      have hAb := Lib.hid (fun (k : Nat) (e : (Value.slice (some ⟨bb, bo, none⟩) A.length c2).ownBlock = some k) => (World.ownsRow.lt hownA7 k e).2)
      clear hSB7 hG7 hown7 hownA7 hh CL hcj jl jli
      go_wp2_with fail
      refine (flip_c _ _ _ _ hSB8 (by omega) (by omega)).mono ?_; rintro e w9 ⟨q2, rfl, hSB9, hh⟩
      have hown9 := OwnX.kept hown8 hh hs0
      have hownA9 := OwnX.kept hownA8 hh hs2
      have hownC9 := OwnX.kept hownC hh hs7
      have hG9 := hG8.trans hh
      clear hSB8 hG8 hh hown8 hownA8 hownC
      cases q2 with
      | false =>
        go_wp2_with fail
        go_meet
        case rel => exact ⟨D, Rd.of_owns hown9, Rd.of_owns hownA9, Rd.of_owns hownC9, HD.out.1, HD.out.2.1, hG9.own (Nat.le_refl _)⟩
      | true =>
        obtain ⟨g, cap, cur, e, hgB⟩ := OwnX.form0 hownC9 HD.out.2.2
        subst e
        have hgs := OwnX.low hownC9 g rfl
        obtain ⟨⟨z1, z2, z3, z4⟩, hp0⟩ : ∃ p, D[0]? = some p := ⟨_, List.getElem?_eq_getElem HD.out.2.2⟩
        have HP0 := Lib.hid hp0
        have c3 := RdR.cell paC_sz (Rd.of_owns hownC9) (G.refl _ none) hp0 3 (.int .i64 z4) rfl
        have f3 := ownsRow_free hownC9 (0 * 4 + 3)
        simp only [Nat.zero_mul, Nat.zero_add] at c3 f3
        have h0D : (0 : Int) < (D.length : Int) := by have := HD.out.2.2; omega
        have o3 := OwnX.set paC_sz hownC9 hp0 (q := (z1, z2, z3, wrap64 (z4 + 1))) 3 (.int .i64 (wrap64 (z4 + 1))) (by omega) rfl
        simp only [Nat.zero_mul, Nat.zero_add] at o3
        have HO := Lib.hid (show RdR (w9.setCell ⟨g, 3, none⟩ (.int .i64 (wrap64 (z4 + 1)))) 4 paC (.slice (some ⟨g, 0, none⟩) D.length cap) (D.set 0 (z1, z2, z3, wrap64 (z4 + 1))) from by have h := Rd.of_owns o3; unfold RdR; rw [List.length_set]; exact h)
        have HK := Lib.hid (Rd.of_owns (hown9.far (p := ⟨g, 3, none⟩) (OwnX.apt hown9 hgB (by decide)) (.int .i64 (wrap64 (z4 + 1)))))
        have HK2 := Lib.hid (Rd.of_owns (hownA9.far (p := ⟨g, 3, none⟩) (fun e => by have h := hAb.out g e.symm; omega) (.int .i64 (wrap64 (z4 + 1)))))
        have HPG : Hid (PaG (D.set 0 (z1, z2, z3, wrap64 (z4 + 1))) ∧ (D.set 0 (z1, z2, z3, wrap64 (z4 + 1))).length ≤ 6) := Lib.hid ⟨HD.out.1.set (r := (z1, z2, z3, wrap64 (z4 + 1))) ⟨HD.out.1.1 (z1, z2, z3, z4) (List.mem_of_getElem? hp0), HD.out.1.2 (z1, z2, z3, z4) (List.mem_of_getElem? hp0)⟩ 0, by rw [List.length_set]; exact HD.out.2.1⟩
        have HG := Lib.hid ((hG9.setCell (p := ⟨g, 3, none⟩) (.inl (show W.heap.size ≤ g by omega)) (.int .i64 (wrap64 (z4 + 1)))).own (Nat.le_refl _))
        clear hp0 o3 hown9 hownA9 hownC9 hG9 hSB9 hgB hAb
        go_wp2_with fail
        try simp only [Act.put]
        go_meet
        case rel => exact ⟨D.set 0 (z1, z2, z3, wrap64 (z4 + 1)), HK.out, HK2.out, HO.out, HPG.out.1, HPG.out.2, HG.out⟩
  case rest =>
  obtain ⟨B, hR1, hRA, hRB, hBok, hB6, hG⟩ := hcut
  clear hSB6 hown6 hownA6 hRB6 hG6 HC2 HB HB6 hq0
  obtain ⟨a6, c6, rfl, -, -⟩ := RdR.form (c := paC) hRB
  have hbo := PaG.app HA.out hBok
  have CM := Lib.hid (fun w' (p : RdR w' 3 gaC (.slice a1 gs.length c1) gs) (p2 : RdR w' 4 paC (.slice a2 A.length c2) A) (p3 : RdR w' 4 paC (.slice a6 B.length c6) B) => show Calls Tryd.prog 10 #[.slice a1 gs.length c1, .slice a2 A.length c2, .slice a6 B.length c6] w' (fun e w'' => G w' w'' none ∧ ∃ v', e = .returned (.tuple #[v', .int .i64 (tmE gs A B)]) ∧ RdR w'' 4 paC v' (tmL gs A B)) from tollMerge_c _ _ _ gs A B w' p p2 p3 HGO.out HA.out.1 hBok.1 HGL.out (by have := HA6.out; omega))
  have CFA := Lib.hid (fun w' (p : RdR w' 3 gaC (.slice a1 gs.length c1) gs) (p2 : RdR w' 4 paC (.slice a2 A.length c2) A) => passagesFault_c _ _ gs A w' p p2 HGO.out HA.out.1 HGL.out (by have := HA6.out; omega) HA.out.2)
  have CFB := Lib.hid (fun w' (p : RdR w' 3 gaC (.slice a1 gs.length c1) gs) (p2 : RdR w' 4 paC (.slice a6 B.length c6) B) => passagesFault_c _ _ gs B w' p p2 HGO.out hBok.1 HGL.out (by omega) hBok.2)
  have CTA := Lib.hid (fun w' (p : RdR w' 3 gaC (.slice a1 gs.length c1) gs) (p2 : RdR w' 4 paC (.slice a2 A.length c2) A) => tollCheck_c _ _ gs A w' p p2 HGO.out HA.out.1 HGL.out (by have := HA6.out; omega))
  have CPO := Lib.hid (fun w' (p2 : RdR w' 4 paC (.slice a2 A.length c2) A) (p3 : RdR w' 4 paC (.slice a6 B.length c6) B) => show Calls Tryd.prog 16 #[.slice a2 A.length c2, .slice a6 B.length c6] w' (fun e w'' => G w' w'' none ∧ ∃ v', e = .returned (.tuple #[v', .int .i64 (if tieL cmpP (pofL A B) = true then 13 else 0)]) ∧ RdR w'' 4 paC v' (if tieL cmpP (pofL A B) = true then [] else pofL A B)) from passagesOf_c _ _ A B w' p2 p3 hbo (by have := HA6.out; omega))
  have CG1 := Lib.hid (fun w' (p : RdR w' 3 gaC (.slice a1 gs.length c1) gs) => checkGates_c _ gs w' p HGO.out (by have := HGL.out; omega))
  have CG2 := Lib.hid (fun w' (p : RdR w' 3 gaC (.slice a1 gs.length c1) gs) => gatesFault_c _ gs w' p HGO.out (by have := HGL.out; omega))
  have HT1 := Lib.hid (fun (e1 : tcE gs A = 0) (e2 : tcE gs B = 0) => tm_right e1 e2)
  have HT0 := Lib.hid (fun (e : ¬ (tcE gs A = 0 ∧ tcE gs B = 0)) => tm_wrong e)
  have HLT : Hid ((tmL gs A B).length ≤ 1000000) := Lib.hid (by
    have h1 : (pofL A B).length ≤ 12 := by
      have h2 := cpL_len (ef := eqP) (isrt (fun x y => decide (cmpP x y < 0)) (A ++ B))
      rw [isrtP_len, List.length_append] at h2
      have := HA6.out
      unfold pofL
      omega
    by_cases hf : tcE gs A = 0 ∧ tcE gs B = 0
    · rw [(tm_right hf.1 hf.2).2]; split <;> simp; omega
    · rw [(tm_wrong hf).2]; simp)
  clear hBok hB6 hbo
  generalize (if tieL cmpP (pofL A B) = true then (13 : Int) else 0) = E9 at CPO HT1
  generalize (if tieL cmpP (pofL A B) = true then [] else pofL A B) = L9 at CPO HT1
  generalize tmE gs A B = E at CM HT1 HT0
  generalize tmL gs A B = LT at CM HT1 HT0 HLT
  generalize tcE gs A = F1 at CFA CTA HT1 HT0
  generalize tcE gs B = F2 at CFB HT1 HT0
  generalize gaE gs = GE at CG1 CG2
  go_wp2_with fail
  refine (CM.out _ hR1 hRA hRB).mono ?_; rintro e w6 ⟨hh, v7, rfl, hRX⟩
  replace hR1 := hR1.quiet hh
  replace hRA := hRA.quiet hh
  replace hRB := hRB.quiet hh
  replace hG := hG.trans hh
  clear hh CM
  obtain ⟨a7, c7, rfl, -, -⟩ := RdR.form (c := paC) hRX
  go_wp2_with fail
  refine (CFA.out _ hR1 hRA).mono ?_; rintro e w7 ⟨rfl, hh⟩
  replace hR1 := hR1.quiet hh
  replace hRA := hRA.quiet hh
  replace hRB := hRB.quiet hh
  replace hRX := hRX.quiet hh
  replace hG := hG.trans hh
  clear hh CFA
  have hgg : (GE != GE) = false := by simp
  have hff : (F1 != F1) = false := by simp
  go_wp2_with fail
  refine (CG1.out _ hR1).mono ?_; rintro e w8 ⟨rfl, hh⟩
  replace hR1 := hR1.quiet hh
  replace hRA := hRA.quiet hh
  replace hRB := hRB.quiet hh
  replace hRX := hRX.quiet hh
  replace hG := hG.trans hh
  clear hh CG1
  go_wp2_with fail
  refine (CG2.out _ hR1).mono ?_; rintro e w9 ⟨rfl, hh⟩
  replace hR1 := hR1.quiet hh
  replace hRA := hRA.quiet hh
  replace hRB := hRB.quiet hh
  replace hRX := hRX.quiet hh
  replace hG := hG.trans hh
  clear hh CG2
  go_wp2_with fail
  refine (CTA.out _ hR1 hRA).mono ?_; rintro e wa ⟨rfl, hh⟩
  replace hR1 := hR1.quiet hh
  replace hRA := hRA.quiet hh
  replace hRB := hRB.quiet hh
  replace hRX := hRX.quiet hh
  replace hG := hG.trans hh
  clear hh CTA
  go_wp2_with fail
  refine (CFB.out _ hR1 hRB).mono ?_; rintro e wb ⟨rfl, hh⟩
  replace hR1 := hR1.quiet hh
  replace hRA := hRA.quiet hh
  replace hRB := hRB.quiet hh
  replace hRX := hRX.quiet hh
  replace hG := hG.trans hh
  clear hh CFB
  go_wp2_with fail
  refine (errs2_c [F1, F2] _ _ (Rd.new #[.int .i64 F1, .int .i64 F2] rfl (by show 2 ≤ maxLen; decide)) (by simp)).mono ?_; rintro e w' ⟨rfl, rfl⟩
  have hh := (G.refl wb none).alloc (.cells #[.int .i64 F1, .int .i64 F2] 36)
  replace hR1 := hR1.quiet hh
  replace hRA := hRA.quiet hh
  replace hRB := hRB.quiet hh
  replace hRX := hRX.quiet hh
  replace hG := hG.trans hh
  clear hh
  generalize wb.alloc (.cells #[.int .i64 F1, .int .i64 F2] 36) = wd at hR1 hRA hRB hRX hG ⊢
  have HE1 : Hid (F1 = 0 ∧ F2 = 0 → errsOf [F1, F2] = 0) := Lib.hid (by rintro ⟨rfl, rfl⟩; rfl)
  have HE0 : Hid (¬ (F1 = 0 ∧ F2 = 0) → errsOf [F1, F2] ≠ 0) := Lib.hid (by
    intro h e
    by_cases h1 : F1 = 0
    · by_cases h2 : F2 = 0
      · exact h ⟨h1, h2⟩
      · rw [errsOf, if_pos h1, errsOf, if_neg h2] at e; exact h2 e
    · rw [errsOf, if_neg h1] at e; exact h1 e)
  generalize errsOf [F1, F2] = EE at HE1 HE0 HT0 ⊢
  clear hgg hff
  go_upto_if 81 with fail
  go_cut [9, 10] from 16 (fun s9 s10 w' => PmCut9 W (.slice a1 gs.length c1) (.slice a2 A.length c2) (.slice a7 LT.length c7) gs A E LT s9 s10 w')
  case first =>
    by_cases hf : F1 = 0 ∧ F2 = 0
    · obtain rfl := HE1.out hf
      obtain ⟨rfl, rfl⟩ := HT1.out hf.1 hf.2
      clear hf HE1 HE0 HT0 HT1
      go_wp2_with fail
      refine (CPO.out _ hRA hRB).mono ?_; rintro e we ⟨hh, v10, rfl, hRW⟩
      replace hR1 := hR1.quiet hh
      replace hRA := hRA.quiet hh
      replace hRX := hRX.quiet hh
      replace hG := hG.trans hh
      clear hh
      go_wp2_with fail
      go_meet
      case rel => exact ⟨rfl, hRW, hRX, hR1, hRA, hG⟩
    · have he := HE0.out hf
      have he1 : (EE == 0) = false := beq_eq_false_iff_ne.2 he
      obtain ⟨rfl, rfl⟩ := HT0.out hf
      clear hf HE1 HE0 HT0 HT1 he
      go_wp2_with fail
      go_meet
      case rel => exact ⟨rfl, RdR.nil _ _ _, hRX, hR1, hRA, hG⟩
  case rest =>
  clear hRX hR1 hRA hG hRB HE1 HE0 HT0 HT1
  obtain ⟨rfl, hRW, hRX, hR1, hRA, hG⟩ := hcut
  obtain ⟨aw, cw, rfl, -, -⟩ := RdR.form (c := paC) hRW
  have hee : (E != E) = false := by simp
  go_wp2_with fail
  refine (paEqual_c _ _ LT LT _ hRX hRW HLT.out).mono ?_; rintro e wf ⟨rfl, hh⟩
  replace hR1 := hR1.quiet hh
  replace hRA := hRA.quiet hh
  replace hG := hG.trans hh
  rw [show decide (LT = LT) = true by simp]
  clear hh hRX hRW hee
  go_wp2_with fail
  have HR1 := Lib.hid hR1
  have HRA := Lib.hid hRA
  clear hR1 hRA CPO HLT
  go_loopw [99] (PmRel W wf A) (fun i _ => A.length - (intOf i).toNat)
  case atStart => exact ⟨0, by omega, rfl, hG, G.refl _ _⟩
  case round =>
    obtain ⟨k, hk, rfl, hGW, hGl⟩ := hrel
    by_cases hlt : k < A.length
    · obtain ⟨⟨t, gk, y, z⟩, hp⟩ : ∃ p, A[k]? = some p := ⟨_, List.getElem?_eq_getElem hlt⟩
      have hpm := List.mem_of_getElem? hp
      have h1ok : PaOk [(t, gk, y, z)] := fun x hx => by obtain rfl := List.mem_singleton.1 hx; exact HA.out.1 _ hpm
      have h1b : ∀ x ∈ [(t, gk, y, z)], paB x := fun x hx => by obtain rfl := List.mem_singleton.1 hx; exact HA.out.2 _ hpm
      have CT := Lib.hid (fun w' (p : RdR w' 3 gaC (.slice a1 gs.length c1) gs) => tollTrue_c _ gs (t, gk, y, z) w' p HGO.out h1ok HGL.out)
      have CF := Lib.hid (fun w' (p : RdR w' 3 gaC (.slice a1 gs.length c1) gs) (u : Value) (q : RdR w' 4 paC u [(t, gk, y, z)]) => passagesFault_c _ u gs [(t, gk, y, z)] w' p q HGO.out h1ok HGL.out (by simp) h1b)
      have CO := Lib.hid (fun (e : tcE gs [(t, gk, y, z)] = 0) w' (p : RdR w' 3 gaC (.slice a1 gs.length c1) gs) => pm_true gs (t, gk, y, z) e _ w' p HGL.out)
      have HV1 : Hid (tcE gs [(t, gk, y, z)] = 0 → tuV gs (t, gk, y, z) = t - clk gs gk) := Lib.hid (fun e => by unfold tuV; rw [if_pos e])
      have HV0 : Hid (tcE gs [(t, gk, y, z)] ≠ 0 → tuV gs (t, gk, y, z) = 0) := Lib.hid (fun e => by unfold tuV; rw [if_neg e])
      obtain ⟨bb, bo, rfl, hbb, -⟩ := RdR.elem paC_sz HRA.out hGl hp
      have HW := Lib.hid (paRow HRA.out hGl hp)
      have HK := Lib.hid hlt
      have hr1 := HR1.out.quiet (hGl.alloc (.cells #[.int .i64 t, .string gk, .string y, .int .i64 z] 34))
      have hB5 : Bk (wr.alloc (.cells #[.int .i64 t, .string gk, .string y, .int .i64 z] 34)) wr.heap.size 34 #[.int .i64 t, .string gk, .string y, .int .i64 z] := Bk.new wr 34 _
      have hS5 := (G.refl wr none).alloc (.cells #[.int .i64 t, .string gk, .string y, .int .i64 z] 34)
      have HGW := Lib.hid hGW
      have HGl := Lib.hid hGl
      clear hp hpm h1ok h1b hGW hGl
      generalize tuV gs (t, gk, y, z) = TV at CT HV1 HV0
      generalize tcE gs [(t, gk, y, z)] = F at CT CF CO HV1 HV0
      go_upto_region 21 with (refine wpList_load_at rfl 34 _ rfl ⟨bb, bo + k * 4, none⟩ rfl #[.int .i64 t, .string gk, .string y, .int .i64 z] _ HW.out Tryd.underlying34 rfl (pa_info (t, gk, y, z)) ?_)
      clear HW
      generalize wr.alloc (.cells #[.int .i64 t, .string gk, .string y, .int .i64 z] 34) = w5 at hB5 hS5 hr1 ⊢
      generalize wr.heap.size = g at hB5 ⊢
      go_wp2_with (refine wpList_load_row rfl 34 _ rfl g rfl 34 #[.int .i64 t, .string gk, .string y, .int .i64 z] (0, 0) _ hB5 Tryd.underlying34 rfl (pa_info (t, gk, y, z)) ?_)
      refine (CT.out _ hr1).mono ?_; rintro e w6 ⟨rfl, hh⟩
      replace hr1 := hr1.quiet hh
      replace hB5 := hB5.quiet hh
      replace hS5 := hS5.trans hh
      clear hh CT
      have hR2 : RdR (w6.alloc (.cells #[.int .i64 t, .string gk, .string y, .int .i64 z] 34)) 4 paC (.slice (some ⟨w6.heap.size, 0, none⟩) 1 1) [(t, gk, y, z)] := (Bk.new w6 34 (paC (t, gk, y, z))).rd 4 1 rfl (by omega)
      have hr1b := hr1.quiet ((G.refl w6 none).alloc (.cells #[.int .i64 t, .string gk, .string y, .int .i64 z] 34))
      have hB5b := hB5.alloc (.cells #[.int .i64 t, .string gk, .string y, .int .i64 z] 34)
      have hS5b := hS5.alloc (.cells #[.int .i64 t, .string gk, .string y, .int .i64 z] 34)
      go_wp2_with (refine wpList_load_row rfl 34 _ rfl g rfl 34 #[.int .i64 t, .string gk, .string y, .int .i64 z] (0, 0) _ hB5 Tryd.underlying34 rfl (pa_info (t, gk, y, z)) ?_)
      refine (CF.out _ hr1b _ hR2).mono ?_; rintro e w7 ⟨rfl, hh⟩
      replace hr1 := hr1b.quiet hh
      replace hB5 := hB5b.quiet hh
      replace hS5 := hS5b.trans hh
      clear hh CF hR2 hr1b hB5b hS5b
      have hff : (F != F) = false := by simp
      have hk6 : A.length ≤ 6 := HA6.out
      by_cases hF : F = 0
      · subst hF
        obtain rfl := HV1.out rfl
        have htt : (t - clk gs gk != t - clk gs gk) = false := by simp
        have COO := Lib.hid (CO.out rfl)
        clear HV1 HV0 CO
        generalize t - clk gs gk = TV at COO htt ⊢
        have q0 : w7.cell? ⟨g, 0, none⟩ = some (.int .i64 t) := hB5.cell 0
        have q1 : w7.cell? ⟨g, 1, none⟩ = some (.string gk) := hB5.cell 1
        have q2 : w7.cell? ⟨g, 2, none⟩ = some (.string y) := hB5.cell 2
        have q3 : w7.cell? ⟨g, 3, none⟩ = some (.int .i64 z) := hB5.cell 3
        go_wp2_with fail
        refine (COO.out _ hr1).mono ?_; rintro e w8 ⟨rfl, hh⟩
        replace hS5 := hS5.trans hh
        clear hh
        go_wp2_with fail
        go_roundw
        case rel => exact ⟨k + 1, by have := HK.out; omega, by go_num, HGW.out.trans hS5, HGl.out.trans hS5⟩
        case measure => have := HK.out; simp [intOf]; omega
      · obtain rfl := HV0.out hF
        have hf0 : (F != 0) = true := bne_iff_ne.2 hF
        have hf1 : (F == 0) = false := beq_eq_false_iff_ne.2 hF
        clear HV1 HV0 CO hF
        go_wp2_with fail
        go_roundw
        case rel => exact ⟨k + 1, by have := HK.out; omega, by go_num, HGW.out.trans hS5, HGl.out.trans hS5⟩
        case measure => have := HK.out; simp [intOf]; omega
    · clear HR1 HRA
      obtain rfl : k = A.length := by omega
      go_wp2_with fail
      refine (tolled_c _).mono ?_; rintro e wx ⟨rfl, hh⟩
      have hGx := hGW.trans hh
      go_wp2_with fail
      go_ret
      exact ⟨rfl, hGx⟩
end Go.Proofs.YtkpmcakppiinlaaDoor

/- What the row's list of variables gives; a start that meets it. -/
namespace Go.Proofs.YtkpmcakppiinlaaDoor
open Go.ChangeShapes Go.WideShapes Go.ChangeAt Go.RowKit

theorem own : ownKnob Tryd.prog.godebug = none := by kernel_rfl
theorem c1 : Tryd.prog.cellsOf 3 = 1 := by kernel_rfl
def laidL : List (String × DataW Unit) := [("unicode/utf8.acceptRanges", Rows.laid_unicode_utf8_acceptRanges), ("unicode/utf8.first", Rows.laid_unicode_utf8_first)]
/-- A start that meets the list: what the door's run leaves, Go's own table laid by hand. -/
noncomputable def laidWorld (os : Os) : World :=
  { World.doorLaid Tryd.prog 200 os with heap := (World.doorLaid Tryd.prog 200 os).heap.modify 1 fun
      | .cells _ t fr => .cells (Lib.firstTab.map (Value.int .u8)).toArray t fr
      | o => o }
set_option maxRecDepth 100000 in
theorem laid_met (os : Os) : laidMetH Tryd.prog laidL ((laidWorld os).forCall (fun _ _ => 0) ⟨#[], #[.slice none 0 0], []⟩).memory :=
  laidMetH_of_parts3 (fuel := 8) (laidMet_of_run' 8 (by kernel_rfl) (by kernel_rfl)) (by kernel_rfl) (by kernel_rfl)

/-! ### The row's last step -/
section
variable {H : Type} {enc : TypeId × Value → H} {P : Program}
theorem post_quiet {f : Func} {s : ChangeSpec} {apart fresh handsOn again : Bool} {W W' : World} {args : Array Value} {v : Value} {ds gs : List (DataW H)} {before pa pv : List MemPlace}
    (hW : DataW.Whole enc P f.params.toList s.vars apart W args.toList ds gs before) (hg : G W W' none)
    (hres : ∀ (b : Nat) (sp : Nat → Bool) (hd : Bool), DataW.TrodAll enc P W' b sp hd f.resultTypes.toList (v.resultList f.resultTypes.size) (s.fn H (ds ++ gs)).results [])
    (hargs : ∀ sp : Nat → Bool, (∀ p ∈ before, sp p.block = true) → DataW.TrodAll enc P W' 0 sp true f.params.toList args.toList (s.fn H (ds ++ gs)).args pa)
    (hvars : ∀ sp : Nat → Bool, (∀ p ∈ before, sp p.block = true) → DataW.TrodVars enc P W' sp s.vars (s.fn H (ds ++ gs)).vars pv)
    (hps : before = pa ++ pv)
    (hok : ∀ (j : Nat) (t : TypeId) (r : Value), f.resultTypes[j]? = some t → (v.resultList f.resultTypes.size)[j]? = some r → Value.okWide P W' .any 0 t r) :
    s.post enc P f apart fresh handsOn again W args v W' := by
  have hb := hg.below
  have lt : ∀ p ∈ before, p.block < W.heap.size := fun p hp => hW.lt p hp
  have old : ∀ p ∈ before, (fun b => decide (b < W.heap.size)) p.block = true := fun p hp => decide_eq_true (lt p hp)
  have sub : ∀ p, p ∈ ([] ++ pa) ++ pv → p ∈ before := fun p hp => by rw [hps]; simpa using hp
  refine ⟨ds, gs, before, [], pa, pv, hW, hres _ _ _, hargs _ old, hvars _ old, World.keptBut_mono (fun p hp => ⟨hp, .inr (by rw [← List.mem_append, ← hps]; exact hp)⟩) (hb.frame (· ∈ before)), fun _ => ⟨hok, ?_⟩⟩
  obtain ⟨_, _, _, _, _, hz, hn⟩ := hW
  refine ⟨_, _, ([] ++ pa) ++ pv, ⟨[] ++ pa, pv, trodAll_append (hargs _ fun _ _ => rfl) (hres _ _ _), hvars _ fun _ _ => rfl, rfl, fun b off hp => ?_, fun ha => ?_⟩, fun p hp _ => sub p hp⟩
  · rw [hb.frozen (lt _ (sub _ hp))]
    exact hz b off (sub _ hp)
  · have h := hn ha
    rw [hps] at h
    simpa using h
end
theorem laidOut : laidOutB Tryd.prog = true := by kernel_rfl
theorem wf64 {n : Int} (h : (Lit.int .i64 n).wf = true) : -9223372036854775808 ≤ n ∧ n ≤ 9223372036854775807 := by
  have h1 : IntKind.i64.min = -9223372036854775808 := rfl
  have h2 : IntKind.i64.max = 9223372036854775807 := rfl
  simp only [Lit.wf, Bool.and_eq_true, decide_eq_true_eq] at h
  omega
set_option maxRecDepth 100000 in
theorem has_of_ok {W : World} {base : Nat} {a : Addr} {n c : Nat} (hok : Value.okWide Tryd.prog W .any base 22 (.slice (some a) n c)) : a.spot = none ∧ a.block < W.heap.size := by
  simp only [Value.okWide, Tryd.underlying22, Cell.okWide, Cell.ok] at hok
  obtain ⟨_, _, _, h2, row, cells, h3, _⟩ := hok
  refine ⟨h2, ?_⟩
  unfold World.shape? at h3
  cases hh : W.heap[a.block]? with
  | none => simp [hh] at h3
  | some o => exact (Array.getElem?_eq_some_iff.1 hh).1
set_option maxRecDepth 100000 in
/-- The list of numbers that came in, as the walk wants it. -/
theorem rd_of_trod {H : Type} {enc : TypeId × Value → H} {W : World} {base : Nat} {v : Value} {d : DataW H} {p : List MemPlace} (hok : Value.okWide Tryd.prog W .any base 22 v) (h : DataW.Trod enc Tryd.prog W 0 (fun _ => true) true 22 v d p) :
    ∃ (a : Option Addr) (n c : Nat) (zs : List Int), v = .slice a n c ∧ Rd W 1 (.slice a n c) n (zs.map (Value.int .i64)) ∧ ∀ z ∈ zs, -9223372036854775808 ≤ z ∧ z ≤ 9223372036854775807 := by
  obtain ⟨a0, len, cap, rfl⟩ := okWide_slice Tryd.underlying22 hok
  obtain ⟨fuel, hf⟩ := h
  rcases open_ints Tryd.underlying22 Tryd.underlying3 c1 hf with ⟨hcs, _⟩ | ⟨a, len', cap', zs, hcs, _, hl, hm, hz, _, hcell, hw⟩
  · have hcs' : [Value.slice a0 len cap] = [Value.slice none 0 0] := hcs
    injection hcs' with e _
    injection e with e1 e2 e3
    subst e1; subst e2; subst e3
    exact ⟨none, 0, 0, [], rfl, ⟨none, 0, rfl, Nat.le_refl _, Nat.zero_le _, rfl, fun _ => ⟨rfl, rfl⟩, fun b hb => by cases hb⟩, fun z hz => by cases hz⟩
  · have hcs' : [Value.slice a0 len cap] = [Value.slice (some a) len' cap'] := hcs
    injection hcs' with e _
    injection e with e1 e2 e3
    subst e1; subst e2; subst e3
    simp only [if_true] at hz
    obtain ⟨s1, s2⟩ := has_of_ok hok
    refine ⟨some a, len, cap, zs.take len, rfl, ⟨some a, cap, rfl, hl, hm, by simp; omega, (fun e => by cases e), fun b hb => ?_⟩, fun z hz' => wf64 (hw z (List.mem_of_mem_take hz'))⟩
    obtain rfl := Option.some.inj hb
    refine ⟨s1, s2, fun j u hj => ?_⟩
    rw [List.getElem?_map] at hj
    obtain ⟨z, hz1, rfl⟩ := Option.map_eq_some_iff.1 hj
    have hjl := (List.getElem?_eq_some_iff.1 hz1).1
    simp at hjl
    have hc := hcell j (by omega)
    have hz2 : zs[j]? = some z := by rw [← hz1, List.getElem?_take, if_pos (by omega)]
    rw [List.getD, hz2] at hc
    have ha : a.add j = ⟨a.block, a.off + j, none⟩ := by
      obtain ⟨ab, ao, asp⟩ := a
      dsimp only at s1
      subst s1
      exact add_at ab ao j
    rw [ha] at hc
    exact hc
end Go.Proofs.YtkpmcakppiinlaaDoor
