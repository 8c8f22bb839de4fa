/- Plg, Mpk, Dsl, Dsm, Spd, Tlr, Rat, Pas, Dea, Due, Ntc, Odm, Spe, Mrk, Rd2. -/
import Derived.Test.YtkpmcakppiinlaaZn2
import Derived.Test.YtkpmcakppiinlaaZn1
import Derived.DeepKeys4
import Derived.LoopN
import Derived.Laws.ResultCell
import Derived.Deep.MidRow
import Derived.Deep.CutRange
import Derived.Laws.EntriesVeiled
import Derived.BigQuiet
/- shift.Plan at one road. Written by genplg.py. -/
namespace Go.Proofs.Ytkpmcakppiinlaa
open Go.RowKit

/-- A move: from, to, how many. -/
abbrev Mv := ByteArray × ByteArray × Int
def mvC (x : Mv) : Array Value := #[.string x.1, .string x.2.1, .int .i64 x.2.2]
theorem mvC_sz (x : Mv) : (mvC x).size = 3 := rfl
theorem mv_rowOk : RowOk Try.prog 73 46 3 40 (.agg #[.string ⟨#[]⟩, .string ⟨#[]⟩, .int .i64 0]) mvC := ⟨by kernel_rfl, Try.underlying46, fun r u hu => by simp [mvC] at hu; rcases hu with rfl | rfl | rfl <;> rfl, mvC_sz, rfl, by omega, by omega⟩
theorem OwnX.apx {α : Type} {T T' : TypeId} {z g base : Nat} {c : α → Array Value} {w : World} {v : Value} {l : List α} {cs : Array Value} (h : OwnX T z c w base v l) (hB : Bk w g T' cs) (hT : T ≠ T') : some g ≠ v.ownBlock := by
  rcases h.2 with ⟨rfl, _⟩ | ⟨g', cap, cur, rfl, _, hg, _⟩
  · simp [Value.ownBlock]
  · intro e
    simp only [Value.ownBlock, Option.map_some, Option.some.injEq] at e
    subst e
    have h2 := hB.symm.trans hg
    simp only [Option.some.injEq, Obj.cells.injEq] at h2
    exact hT h2.2.1.symm
set_option maxRecDepth 100000 in
set_option maxHeartbeats 4000000 in
theorem plan_c (v u : Value) (w : World) (hr : RdR w 2 neC v [(sA, 1), (sB, -1)]) (hs : RdR w 4 roC u [(sA, sB, 4, 0)]) :
    Calls Try.prog 19 #[v, u] w fun e w' => ∃ v', e = .returned (.tuple #[v', .int .i64 0]) ∧ RdR w' 3 mvC v' [(sA, sB, 1)] ∧ G w w' none := by
  have hG := G.refl w none
  obtain ⟨al, cl, rfl, -, -⟩ := RdR.form hr
  obtain ⟨bb, bo, rfl, -, -⟩ := RdR.elem neC_sz hr hG (k := 0) (p := (sA, 1)) rfl
  have hcell : Hid (∀ w', G w w' none → w'.cell? ⟨bb, bo, none⟩ = some (.string sA) ∧ w'.cell? ⟨bb, bo + 2, none⟩ = some (.string sB)) := Lib.hid (fun w' h => by
    have e0 := RdR.cell neC_sz hr h (k := 0) (p := (sA, 1)) rfl 0 (.string sA) rfl
    have e2 := RdR.cell neC_sz hr h (k := 1) (p := (sB, -1)) rfl 0 (.string sB) rfl
    simp only [Nat.zero_mul, Nat.one_mul, Nat.add_zero] at e0 e2
    exact ⟨e0, e2⟩)
  have CO := Lib.hid (checkOffice_c _ u w hr hs)
  have CM := Lib.hid (fun w' (h : G w w' none) => manyOf_c _ sA sB w' (hr.quiet h))
  have CL := Lib.hid (fun w' (h : G w w' none) => lanes_c _ u w' (hr.quiet h) (hs.quiet h))
  clear hr hs
  generalize sA = a at hcell CO CM CL ⊢
  generalize sB = b at hcell CO CM CL ⊢
  go_enter Try.func19, Try.ntmps19
  go_wp2_with fail
  refine CO.out.mono ?_; rintro e w1 ⟨rfl, hh⟩
  replace hG := hG.trans hh
  clear hh CO
  go_wp2_with fail
  refine (CM.out _ hG).mono ?_; rintro e w1b ⟨gl, rfl, hgl, hL, hh⟩
  have hgs := Nat.le_trans hG.size hgl
  replace hG := hG.trans hh
  clear hh CM hgl
  go_wp2_with fail
  refine (CL.out _ hG).mono ?_; rintro e w1c ⟨vn, rfl, hn, hh⟩
  replace hL := hL.quiet hh
  replace hG := hG.trans hh
  clear hh CL
  obtain ⟨an, cn, rfl, hcn, -⟩ := RdR.form hn
  obtain ⟨bn, on, rfl, -, -⟩ := RdR.elem lnC_sz hn (G.refl _ none) (k := 0) (p := (0, 1, 4)) rfl
  have hcn0 : ¬ cn = 0 := by simp at hcn; omega
  clear hcn
  go_wp2_with fail
  refine (costA_c _ _ _ (hL.rd 1 2 rfl (by omega)) hn).mono ?_; rintro e w1d ⟨rfl, hh⟩
  replace hL := hL.quiet hh
  replace hn := hn.quiet hh
  replace hG := hG.trans hh
  clear hh
  go_wp2_with fail
  refine wp_loop_rounds 2 ?_
  rw [rounds_succ]
  have e0 := RdR.cell lnC_sz hn (G.refl _ none) (k := 0) (p := (0, 1, 4)) rfl 0 (.int .i64 0) rfl
  have e1 := RdR.cell lnC_sz hn (G.refl _ none) (k := 0) (p := (0, 1, 4)) rfl 1 (.int .i64 1) rfl
  have e2 := RdR.cell lnC_sz hn (G.refl _ none) (k := 0) (p := (0, 1, 4)) rfl 2 (.int .i64 4) rfl
  simp only [Nat.zero_mul, Nat.add_zero] at e0 e1 e2
  go_upto_region 12 with fail
  have hN := Bk.new w1d 70 #[.int .i64 0, .int .i64 1, .int .i64 4]
  have hlt := hL.lt
  have hh := (G.refl w1d none).alloc (.cells #[.int .i64 0, .int .i64 1, .int .i64 4] 70)
  replace hL := hL.quiet hh
  replace hn := hn.quiet hh
  replace hG := hG.trans hh
  clear hh e0 e1 e2
  generalize w1d.alloc (.cells #[.int .i64 0, .int .i64 1, .int .i64 4] 70) = w1e at hN hL hn hG ⊢
  generalize w1d.heap.size = n at hN hlt ⊢
  go_wp2_with fail
  refine (first_c _ _ _ (hL.rd 1 2 rfl (by omega)) hn).mono ?_; rintro e w2 ⟨rfl, hh⟩
  replace hL := hL.quiet hh
  replace hN := hN.quiet hh
  replace hG := hG.trans hh
  clear hh hn
  go_upto_region 14 with fail
  refine wp_region_held_drew (S := (fun w' : World => w'.cell? ⟨n, 0, none⟩ = some (.int .i64 0) ∧ w'.cell? ⟨n, 1, none⟩ = some (.int .i64 1) ∧ w'.cell? ⟨bb, bo, none⟩ = some (.string a) ∧ w'.cell? ⟨bb, bo + 2, none⟩ = some (.string b))) (by kernel_rfl) ?_ (fun hHeld => ?_)
  · exact ⟨(hN.drewN 1).cell 0, (hN.drewN 1).cell 1, (hcell.out _ hG.drew).1, (hcell.out _ hG.drew).2⟩
  replace hN : Bk _ _ _ _ := hN.drewN 1
  replace hL : Bk _ _ _ _ := hL.drewN 1
  replace hG := hG.drew
  change Bk w2.drew _ _ _ at hN hL
  generalize w2.drew = wd at hHeld hN hL hG ⊢
  refine wpAnyH_take (i := 0) (oi := { dst := some 49, op := Op.move (Operand.tmp 11), type := 46, pos := _, after := #[], guard := none }) (v := ?_) rfl (by kernel_rfl) (by kernel_rfl) (by kernel_rfl) (fun _ _ _ h => h) (Or.inl ⟨by rfl, ?_⟩) (by assumption) ?_
  rotate_left
  · (intro w hSw; obtain ⟨q0, q1, q2, q3⟩ := hSw; (go_simp <;> with_reducible rfl))
  try simp only [Act.put, List.setIfInBounds_toArray, List.set_cons_zero, List.set_cons_succ]
  refine wpAnyH_take (i := 1) (oi := { dst := some 50, op := Op.move (Operand.tmp 0), type := 51, pos := _, after := #[], guard := none }) (v := ?_) rfl (by kernel_rfl) (by kernel_rfl) (by kernel_rfl) (fun _ _ _ h => h) (Or.inl ⟨by rfl, ?_⟩) (by assumption) ?_
  rotate_left
  · (intro w hSw; obtain ⟨q0, q1, q2, q3⟩ := hSw; (go_simp <;> with_reducible rfl))
  try simp only [Act.put, List.setIfInBounds_toArray, List.set_cons_zero, List.set_cons_succ]
  refine wpAnyH_take (i := 2) (oi := { dst := some 51, op := Op.fieldAddr 70 (Operand.tmp 13) 0, type := 0, pos := _, after := #[], guard := none }) (v := ?_) rfl (by kernel_rfl) (by kernel_rfl) (by kernel_rfl) (fun _ _ _ h => h) (Or.inl ⟨by rfl, ?_⟩) (by assumption) ?_
  rotate_left
  · (intro w hSw; obtain ⟨q0, q1, q2, q3⟩ := hSw; (go_simp <;> with_reducible rfl))
  try simp only [Act.put, List.setIfInBounds_toArray, List.set_cons_zero, List.set_cons_succ]
  refine wpAnyH_take (i := 3) (oi := { dst := some 52, op := Op.load 3 (Operand.tmp 51), type := 3, pos := _, after := #[{ on := 2, ground := Ground.data }], guard := none }) (v := ?_) rfl (by kernel_rfl) (by kernel_rfl) (by kernel_rfl) (fun _ _ _ h => h) (Or.inl ⟨by rfl, ?_⟩) (by assumption) ?_
  rotate_left
  · (intro w hSw; obtain ⟨q0, q1, q2, q3⟩ := hSw; (go_simp <;> with_reducible rfl))
  try simp only [Act.put, List.setIfInBounds_toArray, List.set_cons_zero, List.set_cons_succ]
  refine wpAnyH_take (i := 4) (oi := { dst := some 53, op := Op.indexAddr 51 (Operand.tmp 50) (Operand.tmp 52), type := 0, pos := _, after := #[{ on := 1, ground := Ground.data }, { on := 3, ground := Ground.data }], guard := none }) (v := ?_) rfl (by kernel_rfl) (by kernel_rfl) (by kernel_rfl) (fun _ _ _ h => h) (Or.inl ⟨by rfl, ?_⟩) (by assumption) ?_
  rotate_left
  · (intro w hSw; obtain ⟨q0, q1, q2, q3⟩ := hSw; (go_simp <;> with_reducible rfl))
  try simp only [Act.put, List.setIfInBounds_toArray, List.set_cons_zero, List.set_cons_succ]
  refine wpAnyH_take (i := 5) (oi := { dst := some 54, op := Op.fieldAddr 50 (Operand.tmp 53) 0, type := 0, pos := _, after := #[{ on := 4, ground := Ground.data }], guard := none }) (v := ?_) rfl (by kernel_rfl) (by kernel_rfl) (by kernel_rfl) (fun _ _ _ h => h) (Or.inl ⟨by rfl, ?_⟩) (by assumption) ?_
  rotate_left
  · (intro w hSw; obtain ⟨q0, q1, q2, q3⟩ := hSw; (go_simp <;> with_reducible rfl))
  try simp only [Act.put, List.setIfInBounds_toArray, List.set_cons_zero, List.set_cons_succ]
  refine wpAnyH_take (i := 6) (oi := { dst := some 55, op := Op.load 9 (Operand.tmp 54), type := 9, pos := _, after := #[{ on := 5, ground := Ground.data }], guard := none }) (v := ?_) rfl (by kernel_rfl) (by kernel_rfl) (by kernel_rfl) (fun _ _ _ h => h) (Or.inl ⟨by rfl, ?_⟩) (by assumption) ?_
  rotate_left
  · (intro w hSw; obtain ⟨q0, q1, q2, q3⟩ := hSw; (go_simp <;> with_reducible rfl))
  try simp only [Act.put, List.setIfInBounds_toArray, List.set_cons_zero, List.set_cons_succ]
  refine wpAnyH_take (i := 7) (oi := { dst := some 56, op := Op.move (Operand.tmp 0), type := 51, pos := _, after := #[], guard := none }) (v := ?_) rfl (by kernel_rfl) (by kernel_rfl) (by kernel_rfl) (fun _ _ _ h => h) (Or.inl ⟨by rfl, ?_⟩) (by assumption) ?_
  rotate_left
  · (intro w hSw; obtain ⟨q0, q1, q2, q3⟩ := hSw; (go_simp <;> with_reducible rfl))
  try simp only [Act.put, List.setIfInBounds_toArray, List.set_cons_zero, List.set_cons_succ]
  refine wpAnyH_take (i := 8) (oi := { dst := some 57, op := Op.fieldAddr 70 (Operand.tmp 13) 1, type := 0, pos := _, after := #[], guard := none }) (v := ?_) rfl (by kernel_rfl) (by kernel_rfl) (by kernel_rfl) (fun _ _ _ h => h) (Or.inl ⟨by rfl, ?_⟩) (by assumption) ?_
  rotate_left
  · (intro w hSw; obtain ⟨q0, q1, q2, q3⟩ := hSw; (go_simp <;> with_reducible rfl))
  try simp only [Act.put, List.setIfInBounds_toArray, List.set_cons_zero, List.set_cons_succ]
  refine wpAnyH_take (i := 9) (oi := { dst := some 58, op := Op.load 3 (Operand.tmp 57), type := 3, pos := _, after := #[{ on := 8, ground := Ground.data }], guard := none }) (v := ?_) rfl (by kernel_rfl) (by kernel_rfl) (by kernel_rfl) (fun _ _ _ h => h) (Or.inl ⟨by rfl, ?_⟩) (by assumption) ?_
  rotate_left
  · (intro w hSw; obtain ⟨q0, q1, q2, q3⟩ := hSw; (go_simp <;> with_reducible rfl))
  try simp only [Act.put, List.setIfInBounds_toArray, List.set_cons_zero, List.set_cons_succ]
  refine wpAnyH_take (i := 10) (oi := { dst := some 59, op := Op.indexAddr 51 (Operand.tmp 56) (Operand.tmp 58), type := 0, pos := _, after := #[{ on := 7, ground := Ground.data }, { on := 9, ground := Ground.data }], guard := none }) (v := ?_) rfl (by kernel_rfl) (by kernel_rfl) (by kernel_rfl) (fun _ _ _ h => h) (Or.inl ⟨by rfl, ?_⟩) (by assumption) ?_
  rotate_left
  · (intro w hSw; obtain ⟨q0, q1, q2, q3⟩ := hSw; (go_simp <;> with_reducible rfl))
  try simp only [Act.put, List.setIfInBounds_toArray, List.set_cons_zero, List.set_cons_succ]
  refine wpAnyH_take (i := 11) (oi := { dst := some 60, op := Op.fieldAddr 50 (Operand.tmp 59) 0, type := 0, pos := _, after := #[{ on := 10, ground := Ground.data }], guard := none }) (v := ?_) rfl (by kernel_rfl) (by kernel_rfl) (by kernel_rfl) (fun _ _ _ h => h) (Or.inl ⟨by rfl, ?_⟩) (by assumption) ?_
  rotate_left
  · (intro w hSw; obtain ⟨q0, q1, q2, q3⟩ := hSw; (go_simp <;> with_reducible rfl))
  try simp only [Act.put, List.setIfInBounds_toArray, List.set_cons_zero, List.set_cons_succ]
  refine wpAnyH_take (i := 12) (oi := { dst := some 61, op := Op.load 9 (Operand.tmp 60), type := 9, pos := _, after := #[{ on := 11, ground := Ground.data }], guard := none }) (v := ?_) rfl (by kernel_rfl) (by kernel_rfl) (by kernel_rfl) (fun _ _ _ h => h) (Or.inl ⟨by rfl, ?_⟩) (by assumption) ?_
  rotate_left
  · (intro w hSw; obtain ⟨q0, q1, q2, q3⟩ := hSw; (go_simp <;> with_reducible rfl))
  try simp only [Act.put, List.setIfInBounds_toArray, List.set_cons_zero, List.set_cons_succ]
  refine wpAnyH_take (i := 13) (oi := { dst := some 62, op := Op.move (Operand.tmp 14), type := 3, pos := _, after := #[], guard := none }) (v := ?_) rfl (by kernel_rfl) (by kernel_rfl) (by kernel_rfl) (fun _ _ _ h => h) (Or.inl ⟨by rfl, ?_⟩) (by assumption) ?_
  rotate_left
  · (intro w hSw; obtain ⟨q0, q1, q2, q3⟩ := hSw; (go_simp <;> with_reducible rfl))
  try simp only [Act.put, List.setIfInBounds_toArray, List.set_cons_zero, List.set_cons_succ]
  refine wpAnyH_take (i := 14) (oi := { dst := some 63, op := Op.build 73 #[(0, Operand.tmp 55), (1, Operand.tmp 61), (2, Operand.tmp 62)], type := 73, pos := _, after := #[{ on := 6, ground := Ground.data }, { on := 12, ground := Ground.data }, { on := 13, ground := Ground.data }], guard := none }) (v := ?_) rfl (by kernel_rfl) (by kernel_rfl) (by kernel_rfl) (fun _ _ _ h => h) (Or.inl ⟨by rfl, ?_⟩) (by assumption) ?_
  rotate_left
  · (intro w hSw; obtain ⟨q0, q1, q2, q3⟩ := hSw; (go_simp <;> with_reducible rfl))
  try simp only [Act.put, List.setIfInBounds_toArray, List.set_cons_zero, List.set_cons_succ]
  refine wpAnyH_ready (rs := [15]) (by kernel_rfl) (by simp) ?_
  refine (AllReadyH.cons (o := { dst := some 64, op := Op.buildSlice 46 1 #[(0, Operand.tmp 63)], type := 46, pos := _, after := #[{ on := 14, ground := Ground.data }], guard := none }) rfl (fun K hK => ?_) AllReadyH.nil)
  go_simp
  have hT := Bk.new wd 73 #[.string a, .string b, .int .i64 1]
  have hh := (G.refl wd none).alloc (.cells #[.string a, .string b, .int .i64 1] 73)
  replace hN := hN.quiet hh
  replace hL := hL.quiet hh
  replace hG := hG.trans hh
  clear hh
  generalize wd.alloc (.cells #[.string a, .string b, .int .i64 1] 73) = we at hT hN hL hG ⊢
  generalize wd.heap.size = gm at hT ⊢
  refine hK.out _ _ ?_ (fun hHeld => ?_)
  · exact ⟨hN.cell 0, hN.cell 1, (hcell.out _ hG).1, (hcell.out _ hG).2⟩
  clear hK K
  try simp only [Act.put, List.setIfInBounds_toArray, List.set_cons_zero, List.set_cons_succ]
  refine wpAnyH_ready (rs := [16]) (by kernel_rfl) (by simp) ?_
  refine (AllReadyH.cons (o := { dst := some 65, op := Op.call { callee := Callee.builtin Builtin.append, args := #[Operand.tmp 49, Operand.tmp 64], argTypes := #[46, 46] }, type := 46, pos := _, after := #[{ on := 0, ground := Ground.data }, { on := 15, ground := Ground.data }], guard := none }) rfl (fun K hK => ?_) AllReadyH.nil)
  have hsz := hG.size
  refine st_wp rfl (wp_append_x mv_rowOk _ _ rfl w.heap.size (.slice none 0 0) [] rfl (World.ownsRow_nil _ _ _ _) gm (a, b, 1) rfl hT (by simp) hsz ?_)
  intro v8 wf hown8 hgrow
  have hh : G we wf none := hgrow
  replace hN := hN.quiet hh
  replace hL := hL.quiet hh
  replace hG := hG.trans hh
  clear hh hgrow
  refine hK.out _ _ ?_ (fun hHeld => ?_)
  · exact ⟨hN.cell 0, hN.cell 1, (hcell.out _ hG).1, (hcell.out _ hG).2⟩
  clear hK K
  try simp only [Act.put, List.setIfInBounds_toArray, List.set_cons_zero, List.set_cons_succ]
  refine wpAnyH_take (i := 17) (oi := { dst := some 11, op := Op.assign (Operand.tmp 65), type := 46, pos := _, after := #[{ on := 16, ground := Ground.data }, { on := 16, ground := Ground.chain }, { on := 0, ground := Ground.phase }, { on := 1, ground := Ground.phase }, { on := 2, ground := Ground.phase }, { on := 3, ground := Ground.phase }, { on := 4, ground := Ground.phase }, { on := 5, ground := Ground.phase }, { on := 6, ground := Ground.phase }, { on := 7, ground := Ground.phase }, { on := 8, ground := Ground.phase }, { on := 9, ground := Ground.phase }, { on := 10, ground := Ground.phase }, { on := 11, ground := Ground.phase }, { on := 12, ground := Ground.phase }, { on := 13, ground := Ground.phase }, { on := 14, ground := Ground.phase }, { on := 15, ground := Ground.phase }, { on := 16, ground := Ground.phase }], guard := none }) (v := ?_) rfl (by kernel_rfl) (by kernel_rfl) (by kernel_rfl) (fun _ _ _ h => h) (Or.inl ⟨by rfl, ?_⟩) (by assumption) ?_
  rotate_left
  · (intro w hSw; obtain ⟨q0, q1, q2, q3⟩ := hSw; (go_simp <;> with_reducible rfl))
  try simp only [Act.put, List.setIfInBounds_toArray, List.set_cons_zero, List.set_cons_succ]
  refine wpAnyH_done (by kernel_rfl) ?_ _
  clear hHeld
  have n0 : wf.cell? ⟨n, 0, none⟩ = some (.int .i64 0) := hN.cell 0
  have n1 : wf.cell? ⟨n, 1, none⟩ = some (.int .i64 1) := hN.cell 1
  have n2 : wf.cell? ⟨n, 2, none⟩ = some (.int .i64 4) := hN.cell 2
  have l0 : wf.cell? ⟨gl, 0, none⟩ = some (.int .i64 1) := hL.cell 0
  have l1 : wf.cell? ⟨gl, 1, none⟩ = some (.int .i64 (-1)) := hL.cell 1
  have f0 : wf.frozen? ⟨gl, 0, none⟩ = false := hL.free 0
  have f1 : wf.frozen? ⟨gl, 1, none⟩ = false := hL.free 1
  have hng : n ≠ gl := by omega
  go_wp2_with fail
  rw [rounds_succ]
  go_wp2_with fail
  go_ret2
  have hne := OwnX.apx hown8 hL (by decide)
  exact ⟨v8, rfl, Rd.of_owns (OwnX.far (OwnX.far hown8 (p := ⟨gl, 0, none⟩) hne _) (p := ⟨gl, 1, none⟩) hne _), (hG.setCell (p := ⟨gl, 0, none⟩) (.inl hgs) _).setCell (p := ⟨gl, 1, none⟩) (.inl hgs) _⟩
end Go.Proofs.Ytkpmcakppiinlaa

/- A map whose keys are of any kind, told by a function from the keys to the values that stand at them, and by how many there are. No program. -/
namespace Go.Proofs.Ytkpmcakppiinlaa
open Go.RowKit Go.ChangeMaps Go.MapKept
open Go.Maps (Keyed IsMap Tidy has size)

/-- A kind of keys: which are good, their values, how they are told. -/
structure KeyK (P : Program) (k : TypeId) (κ : Type) where
  ok : κ → Prop
  v : κ → Value
  l : κ → Lit
  keyed : Maps.Keyed P k
  of : ∀ x, ok x → keyOf P k (v x) = some (l x)
  inj : ∀ x y, v x = v y → x = y
theorem KeyK.isk {P : Program} {k : TypeId} {κ : Type} (KK : KeyK P k κ) {x : κ} (h : KK.ok x) : WideAt.IsKeyLit (KK.l x) := KK.keyed.key (KK.of x h)
theorem KeyK.linj {P : Program} {k : TypeId} {κ : Type} (KK : KeyK P k κ) {x y : κ} (hx : KK.ok x) (hy : KK.ok y) (h : x ≠ y) : KK.l x ≠ KK.l y := fun e => h (KK.inj x y (KK.keyed.inj (KK.of x hx) (by rw [e]; exact KK.of y hy)))
abbrev FnK (κ : Type) := κ → Option Value
/-- What a map holds, as a datum. -/
def MapIsK {P : Program} {k : TypeId} {κ : Type} (KK : KeyK P k κ) (D : DataW Value) (c : Nat) (f : FnK κ) : Prop := Tidy D ∧ size D = c ∧ ∀ s, KK.ok s → has D (KK.l s) = (f s).isSome ∧ ∀ v, f s = some v → ∀ z, D.atKey (KK.l s) z = .held v
/-- Block 'b' is a map of 'c' keys that holds what 'f' says. -/
def OwnK {P : Program} {k : TypeId} {κ : Type} (KK : KeyK P k κ) (w : World) (b c : Nat) (f : FnK κ) : Prop := ∃ D n, w.ownsMap P k RV b n D ∧ n ≤ c ∧ MapIsK KK D c f
def fputK {κ : Type} [DecidableEq κ] (f : FnK κ) (s : κ) (v : Value) : FnK κ := fun t => if t = s then some v else f t
def fdelK {κ : Type} [DecidableEq κ] (f : FnK κ) (s : κ) : FnK κ := fun t => if t = s then none else f t
def cputK {κ : Type} (c : Nat) (f : FnK κ) (s : κ) : Nat := if (f s).isSome = true then c else c + 1
section
variable {P : Program} {k : TypeId} {κ : Type} (KK : KeyK P k κ)
theorem MapIsK.empty : MapIsK KK (.map []) 0 (fun _ => none) := ⟨Maps.tidy_empty, rfl, fun _ _ => ⟨rfl, fun _ h => by cases h⟩⟩
variable {KK}
theorem MapIsK.put [DecidableEq κ] {D : DataW Value} {c : Nat} {f : FnK κ} (h : MapIsK KK D c f) {s : κ} (hs : KK.ok s) (v : Value) : MapIsK KK (D.put (KK.l s) (.held v)) (cputK c f s) (fputK f s v) := by
  obtain ⟨h1, h2, h3⟩ := h
  refine ⟨h1.put (KK.isk hs) _, ?_, fun t ht => ?_⟩
  · rw [Maps.size_put h1, (h3 s hs).1, h2]
    rfl
  · by_cases e : t = s
    · subst e
      simp only [fputK, if_pos]
      exact ⟨by rw [Maps.has_put_same h1.isMap (KK.isk ht)]; rfl, fun u hu z => by cases hu; exact Maps.atKey_put_same h1.isMap (KK.isk ht) _ _⟩
    · simp only [fputK, if_neg e]
      exact ⟨by rw [Maps.has_put_other (KK.linj ht hs e)]; exact (h3 t ht).1, fun u hu z => by rw [Maps.atKey_put_other (KK.linj ht hs e)]; exact (h3 t ht).2 u hu z⟩
theorem MapIsK.del [DecidableEq κ] {D : DataW Value} {c : Nat} {f : FnK κ} (h : MapIsK KK D c f) {s : κ} (hs : KK.ok s) : MapIsK KK (D.del (KK.l s)) (if (f s).isSome = true then c - 1 else c) (fdelK f s) := by
  obtain ⟨h1, h2, h3⟩ := h
  refine ⟨h1.del _, ?_, fun t ht => ?_⟩
  · have := Maps.size_del h1 (k := KK.l s)
    rw [(h3 s hs).1, h2] at this
    split at this <;> simp_all <;> omega
  · by_cases e : t = s
    · subst e
      simp only [fdelK, if_pos]
      exact ⟨by rw [Maps.has_del_same]; rfl, fun u hu => by cases hu⟩
    · simp only [fdelK, if_neg e]
      exact ⟨by rw [Maps.has_del_other (KK.linj ht hs e)]; exact (h3 t ht).1, fun u hu z => by rw [Maps.atKey_del_other (KK.linj ht hs e)]; exact (h3 t ht).2 u hu z⟩
end
section
variable {P : Program} {k : TypeId} {κ : Type} {KK : KeyK P k κ} {w : World} {b c : Nat} {f : FnK κ}
theorem OwnK.made (w : World) (KK : KeyK P k κ) {b : Nat} (hb : w.heap.size = b) : OwnK KK (w.alloc (.map #[] 0)) b 0 (fun _ => none) := by
  subst hb
  exact ⟨_, 0, World.ownsMap_made w P k RV, Nat.le_refl _, MapIsK.empty KK⟩
theorem OwnK.lt (h : OwnK KK w b c f) : b < w.heap.size := by obtain ⟨D, n, h, _⟩ := h; exact h.lt
theorem OwnK.grown {w' : World} {s : Option Nat} (h : OwnK KK w b c f) (hg : G w w' s) (hs : some b ≠ s) : OwnK KK w' b c f := by obtain ⟨D, n, h, r⟩ := h; exact ⟨D, n, h.kept hg hs, r⟩
theorem OwnK.quiet {w' : World} (h : OwnK KK w b c f) (hg : G w w' none) : OwnK KK w' b c f := h.grown hg (by simp)
theorem OwnK.alloc (h : OwnK KK w b c f) (o : Obj) : OwnK KK (w.alloc o) b c f := h.quiet ((G.refl _ _).alloc o)
theorem OwnK.drewN (h : OwnK KK w b c f) (n : Nat) : OwnK KK (w.drewN n) b c f := h.quiet ((G.refl _ _).drewN n)
theorem OwnK.setCell (h : OwnK KK w b c f) {p : Addr} (hp : b ≠ p.block) (u : Value) : OwnK KK (w.setCell p u) b c f := h.grown (grownBy_setCell_row w p u) (by simpa using hp)
theorem OwnK.setRow (h : OwnK KK w b c f) {g : Nat} (hp : b ≠ g) (cs : Array Value) : OwnK KK (w.setRow g cs) b c f := h.grown (grownBy_setRow w g cs) (by simpa using hp)
theorem OwnK.look {t e : TypeId} (h : OwnK KK w b c f) (ht : P.underlying t = some (.map k e)) {z : Value} (hz : (zeroValue e).run P w = .ok z w) {s : κ} (hs : KK.ok s) :
    (Instr.lookup t (.map (some b)) (KK.v s) false).run P w = .ok ((f s).getD z) w := by
  obtain ⟨D, n, h, _, h1, h2, h3⟩ := h
  obtain ⟨v, ps, hrun, hv⟩ := h.lookup KK.keyed ht hz (zd := .held z) (zp := []) rfl (KK.of s hs)
  rw [hrun]
  have e : DataW.held v = D.atKey (KK.l s) (.held z) := by have := congrArg (fun o => o.map Prod.fst) hv; simpa [RV] using this
  cases hf : f s with
  | none =>
    have hn := (h3 s hs).1
    rw [hf] at hn
    rw [Maps.atKey_of_not_has hn] at e
    injection e with e
    rw [e]; rfl
  | some u =>
    rw [(h3 s hs).2 u hf] at e
    injection e with e
    rw [e]; rfl
theorem OwnK.look_ok {t e : TypeId} (h : OwnK KK w b c f) (ht : P.underlying t = some (.map k e)) {z : Value} (hz : (zeroValue e).run P w = .ok z w) {s : κ} (hs : KK.ok s) :
    (Instr.lookup t (.map (some b)) (KK.v s) true).run P w = .ok (.tuple #[(f s).getD z, .bool (f s).isSome]) w := by
  obtain ⟨D, n, h, _, h1, h2, h3⟩ := h
  obtain ⟨v, ps, hrun, hv⟩ := h.look_ok KK.keyed ht hz (zd := .held z) (zp := []) rfl (KK.of s hs)
  rw [hrun]
  have e : DataW.held v = D.atKey (KK.l s) (.held z) := by have := congrArg (fun o => o.map Prod.fst) hv; simpa [RV] using this
  have hb : has D (KK.l s) = (f s).isSome := (h3 s hs).1
  rw [show Maps.has D (KK.l s) = (f s).isSome from hb]
  cases hf : f s with
  | none =>
    have hn := (h3 s hs).1
    rw [hf] at hn
    rw [Maps.atKey_of_not_has hn] at e
    injection e with e
    rw [e]; rfl
  | some u =>
    rw [(h3 s hs).2 u hf] at e
    injection e with e
    rw [e]; rfl
theorem OwnK.store [DecidableEq κ] {t e : TypeId} (h : OwnK KK w b c f) (ht : P.underlying t = some (.map k e)) (hc : c < maxLen) {s : κ} (hs : KK.ok s) (v : Value) :
    ∃ w', (Instr.mapUpdate t (.map (some b)) (KK.v s) v).run P w = .ok () w' ∧ OwnK KK w' b (cputK c f s) (fputK f s v) ∧ w.grownBy w' (some b) := by
  obtain ⟨D, n, h, hn, hM⟩ := h
  obtain ⟨w', hrun, h1, h2⟩ := h.update KK.keyed ht (Nat.lt_of_le_of_lt hn hc) (KK.of s hs) (val := v) (d := .held v) (ps := []) rfl
  have hM' := hM.put hs v
  refine ⟨w', hrun, ⟨_, size (D.put (KK.l s) (.held v)), ?_, Nat.le_of_eq hM'.2.1, hM'⟩, h2⟩
  obtain ⟨es, clock, hb, F, _, hD⟩ := h1
  have hD' : D.put (KK.l s) (.held v) = .map ((es.toList.map (Go.WideElems.rg P k RV)).foldr DataW.insert []) := hD
  refine ⟨es, clock, hb, F, ?_, hD⟩
  rw [hD']
  simp [size, length_sorted]
theorem OwnK.drop [DecidableEq κ] {t e : TypeId} (h : OwnK KK w b c f) (ht : P.underlying t = some (.map k e)) {s : κ} (hs : KK.ok s) (ty : TypeId) :
    ∃ w', (Builtin.delete_ #[t, k] ty #[.map (some b), KK.v s]).run P w = .ok (.tuple #[]) w' ∧ OwnK KK w' b (if (f s).isSome = true then c - 1 else c) (fdelK f s) ∧ w.grownBy w' (some b) := by
  obtain ⟨D, n, h, hn, hM⟩ := h
  obtain ⟨w', hrun, h1, h2⟩ := h.drop KK.keyed ht (KK.of s hs) ty
  have hM' := hM.del hs
  refine ⟨w', hrun, ⟨_, size (D.del (KK.l s)), ?_, Nat.le_of_eq hM'.2.1, hM'⟩, h2.grown⟩
  obtain ⟨es, clock, hb, F, _, hD⟩ := h1
  have hD' : D.del (KK.l s) = .map ((es.toList.map (Go.WideElems.rg P k RV)).foldr DataW.insert []) := hD
  refine ⟨es, clock, hb, F, ?_, hD⟩
  rw [hD']
  simp [size, length_sorted]
end

/-! ### At the operation, for the walk -/
section
variable {P : Program} {k : TypeId} {κ : Type} {KK : KeyK P k κ} {w : World} {ops : Array Oper} {rest : List Oper} {o : Oper} {a : Act} {Q : Exit → Act → World → Prop}
theorem wpK_look (hg : o.guard = none) (m x : Operand) (t : TypeId) (hop : o.op = Op.lookup t m x false) (e : TypeId) (ht : P.underlying t = some (.map k e)) (z : Value) (hz : (zeroValue e).run P w = .ok z w)
    (b c : Nat) (f : FnK κ) (hm : a.eval m = .map (some b)) (hown : OwnK KK w b c f) (s : κ) (hx : a.eval x = KK.v s) (hs : KK.ok s) (hK : wpList P ops Q rest (a.put o.dst ((f s).getD z)) w) : wpList P ops Q (o :: rest) a w := by
  refine wpList_plain hg fun K' hK' => ?_
  unfold Oper.wp
  simp [execOp, hop, hm, hx, hown.look ht hz hs, Result.andThen]
  exact hK' _ _ hK
theorem wpK_look_ok (hg : o.guard = none) (m x : Operand) (t : TypeId) (hop : o.op = Op.lookup t m x true) (e : TypeId) (ht : P.underlying t = some (.map k e)) (z : Value) (hz : (zeroValue e).run P w = .ok z w)
    (b c : Nat) (f : FnK κ) (hm : a.eval m = .map (some b)) (hown : OwnK KK w b c f) (s : κ) (hx : a.eval x = KK.v s) (hs : KK.ok s) (hK : wpList P ops Q rest (a.put o.dst (.tuple #[(f s).getD z, .bool (f s).isSome])) w) : wpList P ops Q (o :: rest) a w := by
  refine wpList_plain hg fun K' hK' => ?_
  unfold Oper.wp
  simp [execOp, hop, hm, hx, hown.look_ok ht hz hs, Result.andThen]
  exact hK' _ _ hK
theorem wpK_store [DecidableEq κ] (hg : o.guard = none) (m x v : Operand) (t : TypeId) (hop : o.op = Op.mapUpdate t m x v) (e : TypeId) (ht : P.underlying t = some (.map k e))
    (b c : Nat) (f : FnK κ) (hm : a.eval m = .map (some b)) (hown : OwnK KK w b c f) (hc : c < maxLen) (s : κ) (hx : a.eval x = KK.v s) (hs : KK.ok s) (u : Value) (hv : a.eval v = u)
    (hK : ∀ w', OwnK KK w' b (cputK c f s) (fputK f s u) → w.grownBy w' (some b) → wpList P ops Q rest (a.put o.dst undef) w') : wpList P ops Q (o :: rest) a w := by
  refine wpList_plain hg fun K' hK' => ?_
  obtain ⟨w', hrun, r1, r2⟩ := hown.store ht hc hs u
  unfold Oper.wp
  simp [execOp, hop, hm, hx, hv, hrun, Result.andThen]
  exact hK' _ _ (hK w' r1 r2)
theorem wpK_delete [DecidableEq κ] (hg : o.guard = none) (m x : Operand) (t : TypeId) (hop : o.op = Op.call { callee := Callee.builtin Builtin.delete, args := #[m, x], argTypes := #[t, k] }) (e : TypeId) (ht : P.underlying t = some (.map k e))
    (b c : Nat) (f : FnK κ) (hm : a.eval m = .map (some b)) (hown : OwnK KK w b c f) (s : κ) (hx : a.eval x = KK.v s) (hs : KK.ok s)
    (hK : ∀ w', OwnK KK w' b (if (f s).isSome = true then c - 1 else c) (fdelK f s) → w.grownBy w' (some b) → wpList P ops Q rest (a.put o.dst (.tuple #[])) w') : wpList P ops Q (o :: rest) a w := by
  refine wpList_plain hg fun K' hK' => ?_
  obtain ⟨w', hrun, r1, r2⟩ := hown.drop ht hs o.type
  unfold Oper.wp
  simp [execOp, hop, resolve, invoke, builtin, hm, hx, hrun, Result.andThen]
  exact hK' _ _ (hK w' r1 r2)
theorem wpK_len (hg : o.guard = none) (m : Operand) (t : TypeId) (hop : o.op = Op.call { callee := Callee.builtin Builtin.len, args := #[m], argTypes := #[t] }) (e : TypeId) (ht : P.underlying t = some (.map k e))
    (b c : Nat) (f : FnK κ) (hm : a.eval m = .map (some b)) (hown : OwnK KK w b c f) (hK : wpList P ops Q rest (a.put o.dst (.int .i64 c)) w) : wpList P ops Q (o :: rest) a w := by
  obtain ⟨D, n, h, _, h1, h2, h3⟩ := hown
  refine wpList_len_own w hg m t hop k e ht RV b n D hm h ?_
  rw [h2]
  exact hK
end
end Go.Proofs.Ytkpmcakppiinlaa

/- desk.Merge at one entry and none. Written by gendsl.py. -/
namespace Go.Proofs.Ytkpmcakppiinlaa
open Go.RowKit

/-- An entry: at, desk, number, words. -/
abbrev En := Int × ByteArray × Int × ByteArray
def enC (x : En) : Array Value := #[.int .i64 x.1, .string x.2.1, .int .i64 x.2.2.1, .string x.2.2.2]
theorem enC_sz (x : En) : (enC x).size = 4 := rfl
theorem en_info (x : En) : (Try.prog.info? 59).map (·.size) = some (enC x).size := (by kernel_rfl : (Try.prog.info? 59).map (·.size) = some 4)
theorem en_rowOk : RowOk Try.prog 59 55 4 48 (.agg #[.int .i64 0, .string ⟨#[]⟩, .int .i64 0, .string ⟨#[]⟩]) enC := ⟨by kernel_rfl, Try.underlying55, fun r u hu => by simp [enC] at hu; rcases hu with rfl | rfl | rfl | rfl <;> rfl, enC_sz, rfl, by omega, by omega⟩
def sD : ByteArray := ⟨#[100]⟩
def sX : ByteArray := ⟨#[120]⟩
/-- The one name, as a key. -/
def nmV : Value := .agg #[.string sD, .int .i64 1]
theorem name_keyed : Maps.Keyed Try.prog 77 := Maps.Keyed.of_law (deep_law_laid (by kernel_rfl) (m := 2) (by omega) (of_decide_eq_true (by kernel_rfl)) (by kernel_rfl) (by rw [Try.underlying77]))
def KU : KeyK Try.prog 77 Unit := ⟨fun _ => True, fun _ => nmV, fun _ => .string (keyBytes [.string [100], .int .i64 1]), name_keyed, fun _ _ => by kernel_rfl, fun _ _ _ => rfl⟩
theorem nm_info (d : ByteArray) (n : Int) : (Try.prog.info? 77).map (·.size) = some (#[Value.string d, .int .i64 n] : Array Value).size := (by kernel_rfl : (Try.prog.info? 77).map (·.size) = some 2)
set_option maxRecDepth 100000 in
set_option maxHeartbeats 2000000 in
theorem nameOf_c (t : Int) (d : ByteArray) (n : Int) (x : ByteArray) (w : World) : Calls Try.prog 35 #[.agg #[.int .i64 t, .string d, .int .i64 n, .string x]] w fun e w' => e = .returned (.agg #[.string d, .int .i64 n]) ∧ G w w' none := by
  have hG := (G.refl w none).alloc (.cells #[.int .i64 t, .string d, .int .i64 n, .string x] 59)
  go_enter Try.func35, Try.ntmps35
  go_wp2_with fail
  refine bodyPost_ret (results_cell_row rfl _ _ (w.heap.size + 1) 77 #[.string d, .int .i64 n] (0, 0) _ rfl (Bk.newAt (by simp) _ _) Try.underlying77 rfl (nm_info d n)) rfl ?_
  exact ⟨rfl, hG.alloc _⟩
set_option maxRecDepth 100000 in
set_option maxHeartbeats 2000000 in
theorem areWords_c (w : World) : Calls Try.prog 49 #[.string ⟨#[120]⟩] w fun e w' => e = .returned (.bool true) ∧ w = w' := by
  go_enter Try.func49, Try.ntmps49
  go_wp2_with fail
  refine (within_c _ 1 200 _).mono ?_; rintro e w' ⟨rfl, rfl⟩
  rw [show inB 1 1 200 = true by decide]
  go_wp2_with fail
  refine wp_loop_rounds 2 ?_
  rw [rounds_succ]
  go_wp2_with fail
  rw [rounds_succ]
  go_wp2_with fail
  go_ret
  exact ⟨rfl, rfl⟩
set_option maxRecDepth 100000 in
set_option maxHeartbeats 2000000 in
theorem checkNone_c (w : World) : Calls Try.prog 34 #[.slice none 0 0] w fun e w' => e = .returned (.int .i64 0) ∧ G w w' none := by
  have hmm : ∀ w : World, (Instr.makeMap 92 (some (.int .i64 0))).run Try.prog w = .ok (.map (some w.heap.size)) (w.alloc (.map #[] 0)) := fun _ => rfl
  go_enter Try.func34, Try.ntmps34
  go_wp2_with fail
  refine wp_loop_rounds 1 ?_
  rw [rounds_succ]
  go_wp2_with fail
  go_ret
  exact ⟨rfl, (G.refl _ _).alloc _⟩
theorem zb_run (w : World) : (zeroValue 4).run Try.prog w = .ok (.bool false) w := by kernel_rfl
set_option maxRecDepth 100000 in
set_option maxHeartbeats 4000000 in
theorem checkOne_c (v : Value) (w : World) (hr : RdR w 4 enC v [(1, sD, 1, sX)]) : Calls Try.prog 34 #[v] w fun e w' => e = .returned (.int .i64 0) ∧ G w w' none := by
  have hmm : ∀ w : World, (Instr.makeMap 92 (some (.int .i64 1))).run Try.prog w = .ok (.map (some w.heap.size)) (w.alloc (.map #[] 0)) := fun _ => rfl
  have hG := G.refl w none
  obtain ⟨al, cl, rfl, -, -⟩ := RdR.form hr
  obtain ⟨bb, bo, rfl, -, -⟩ := RdR.elem enC_sz hr hG (k := 0) (p := (1, sD, 1, sX)) rfl
  have hcell : Hid (∀ w', G w w' none → w'.cell? ⟨bb, bo, none⟩ = some (.int .i64 1) ∧ w'.cell? ⟨bb, bo + 1, none⟩ = some (.string sD) ∧ w'.cell? ⟨bb, bo + 2, none⟩ = some (.int .i64 1) ∧ w'.cell? ⟨bb, bo + 3, none⟩ = some (.string sX)) := Lib.hid (fun w' h => by
    have e0 := RdR.cell enC_sz hr h (k := 0) (p := (1, sD, 1, sX)) rfl 0 (.int .i64 1) rfl
    have e1 := RdR.cell enC_sz hr h (k := 0) (p := (1, sD, 1, sX)) rfl 1 (.string sD) rfl
    have e2 := RdR.cell enC_sz hr h (k := 0) (p := (1, sD, 1, sX)) rfl 2 (.int .i64 1) rfl
    have e3 := RdR.cell enC_sz hr h (k := 0) (p := (1, sD, 1, sX)) rfl 3 (.string sX) rfl
    simp only [Nat.zero_mul, Nat.add_zero] at e0 e1 e2 e3
    exact ⟨e0, e1, e2, e3⟩)
  have HkD : Hid (keyB sD = true) := Lib.hid (by decide)
  have HM : Hid (momB 1 = true) := Lib.hid (by decide)
  have HI : Hid (inB 1 1 1000000 = true) := Lib.hid (by decide)
  have CK := Lib.hid (fun w => isKey_c sD w (by decide))
  have CA : Hid (∀ w, Calls Try.prog 49 #[.string sX] w fun e w' => e = .returned (.bool true) ∧ w = w') := Lib.hid areWords_c
  have HV : Hid (KU.v () = .agg #[.string sD, .int .i64 1]) := Lib.hid rfl
  clear hr
  generalize sD = d at hcell HkD CK HV
  generalize sX = x at hcell CA
  go_enter Try.func34, Try.ntmps34
  go_upto_region 4 with fail
  have hM : OwnK KU (w.alloc (.map #[] 0)) w.heap.size 0 (fun _ => none) := OwnK.made _ _ rfl
  replace hG := hG.alloc (.map #[] 0)
  generalize w.alloc (.map #[] 0) = w1 at hM hG ⊢
  obtain ⟨g, hg⟩ : ∃ g, w.heap.size = g := ⟨_, rfl⟩
  have hgs : w.heap.size ≤ g := by omega
  rw [hg] at hM ⊢
  clear hg
  go_wp2_with fail
  refine wp_loop_rounds 2 ?_
  rw [rounds_succ]
  obtain ⟨e0, e1, e2, e3⟩ := hcell.out _ hG
  go_upto_region 7 with fail
  have hN := Bk.new w1 59 #[.int .i64 1, .string d, .int .i64 1, .string x]
  replace hM := hM.alloc (.cells #[.int .i64 1, .string d, .int .i64 1, .string x] 59)
  replace hG := hG.alloc (.cells #[.int .i64 1, .string d, .int .i64 1, .string x] 59)
  clear e0 e1 e2 e3
  generalize w1.alloc (.cells #[.int .i64 1, .string d, .int .i64 1, .string x] 59) = w2 at hN hM hG ⊢
  generalize w1.heap.size = n at hN ⊢
  have n0 : w2.cell? ⟨n, 0, none⟩ = some (.int .i64 1) := hN.cell 0
  have n1 : w2.cell? ⟨n, 1, none⟩ = some (.string d) := hN.cell 1
  have n2 : w2.cell? ⟨n, 2, none⟩ = some (.int .i64 1) := hN.cell 2
  have n3 : w2.cell? ⟨n, 3, none⟩ = some (.string x) := hN.cell 3
  go_wp2_with fail
  refine (isMoment_c _ _).mono ?_; rintro e w' ⟨rfl, rfl⟩
  rw [HM.out]
  go_wp2_with fail
  refine (CK.out _).mono ?_; rintro e w' ⟨rfl, rfl⟩
  rw [HkD.out]
  go_wp2_with fail
  refine (within_c _ _ _ _).mono ?_; rintro e w' ⟨rfl, rfl⟩
  rw [HI.out]
  go_wp2_with fail
  refine (CA.out _).mono ?_; rintro e w' ⟨rfl, rfl⟩
  go_wp2_with fail
  go_quiet (fail)
  replace hN : Bk (w2.drewN nq) _ _ _ := hN.drewN nq
  replace hM := hM.drewN nq
  replace hG := hG.drewN nq
  clear n0 n1 n2 n3
  generalize w2.drewN nq = w3 at hN hM hG ⊢
  have n0 : w3.cell? ⟨n, 0, none⟩ = some (.int .i64 1) := hN.cell 0
  have n1 : w3.cell? ⟨n, 1, none⟩ = some (.string d) := hN.cell 1
  have n2 : w3.cell? ⟨n, 2, none⟩ = some (.int .i64 1) := hN.cell 2
  have n3 : w3.cell? ⟨n, 3, none⟩ = some (.string x) := hN.cell 3
  go_wp2_with fail
  refine (nameOf_c _ _ _ _ _).mono ?_; rintro e w4 ⟨rfl, hh⟩
  replace hN := hN.quiet hh
  replace hM := hM.quiet hh
  replace hG := hG.trans hh
  clear hh n0 n1 n2 n3
  have n0 : w4.cell? ⟨n, 0, none⟩ = some (.int .i64 1) := hN.cell 0
  have n1 : w4.cell? ⟨n, 1, none⟩ = some (.string d) := hN.cell 1
  have n2 : w4.cell? ⟨n, 2, none⟩ = some (.int .i64 1) := hN.cell 2
  have n3 : w4.cell? ⟨n, 3, none⟩ = some (.string x) := hN.cell 3
  go_wp2_with (at_lookup; refine wpK_look (KK := KU) rfl _ _ 92 rfl 4 Try.underlying92 (.bool false) (zb_run _) g 0 (fun _ => none) rfl hM () (by rw [HV.out]; rfl) trivial ?_)
  refine (nameOf_c _ _ _ _ _).mono ?_; rintro e w5 ⟨rfl, hh⟩
  replace hM := hM.quiet hh
  replace hG := hG.trans hh
  clear hh n0 n1 n2 n3 hN
  go_wp2_with (at_mapUpdate; refine wpK_store (KK := KU) rfl _ _ _ 92 rfl 4 Try.underlying92 g 0 (fun _ => none) rfl hM (by decide) () (by rw [HV.out]; rfl) trivial (.bool true) rfl ?_; intro w6 hM6 hh)
  have hG6 := hG.other hh (fun j e => .inl (by obtain rfl := Option.some.inj e; exact hgs))
  rw [rounds_succ]
  go_wp2_with fail
  go_ret
  exact ⟨rfl, hG6⟩
end Go.Proofs.Ytkpmcakppiinlaa

/- desk.Merge at one entry and none. Written by gendsm.py. -/
namespace Go.Proofs.Ytkpmcakppiinlaa
open Go.RowKit

theorem wpK1_store {P : Program} {k : TypeId} {κ : Type} [DecidableEq κ] {KK : KeyK P k κ} {w : World} {o : Oper} {a : Act} {K : Act → World → Prop} {Q : Exit → Act → World → Prop} (m x v : Operand) (t : TypeId) (hop : o.op = Op.mapUpdate t m x v) (e : TypeId) (ht : P.underlying t = some (.map k e))
    (b c : Nat) (f : FnK κ) (hm : a.eval m = .map (some b)) (hown : OwnK KK w b c f) (hc : c < maxLen) (s : κ) (hx : a.eval x = KK.v s) (hs : KK.ok s) (u : Value) (hv : a.eval v = u)
    (hK : ∀ w', OwnK KK w' b (cputK c f s) (fputK f s u) → w.grownBy w' (some b) → K (a.put o.dst undef) w') : o.wp P a w K Q := by
  obtain ⟨w', hrun, r1, r2⟩ := hown.store ht hc hs u
  unfold Oper.wp
  simp [execOp, hop, hm, hx, hv, hrun, Result.andThen]
  exact hK w' r1 r2
set_option maxRecDepth 100000 in
set_option maxHeartbeats 4000000 in
theorem mergeE_c (v : Value) (w : World) (hr : RdR w 4 enC v [(1, sD, 1, sX)]) : Calls Try.prog 38 #[v, .slice none 0 0, .func (.func 39) #[] #[], .int .i64 1000] w fun e w' => ∃ v', e = .returned (.tuple #[v', .int .i64 0]) ∧ RdR w' 4 enC v' [(1, sD, 1, sX)] ∧ G w w' none := by
  have hmk : ∀ w : World, (Instr.makeSlice 55 (.int .i64 0) (.int .i64 1)).run Try.prog w = .ok (.slice (some ⟨w.heap.size, 0, none⟩) 0 1) (w.alloc (.cells #[.int .i64 0, .string ⟨#[]⟩, .int .i64 0, .string ⟨#[]⟩] 59)) := fun w => by kernel_rfl
  have hG := (G.refl w none).alloc (.cells #[.int .i64 0, .string ⟨#[]⟩, .int .i64 0, .string ⟨#[]⟩] 59)
  have hown : OwnX 59 4 enC (w.alloc (.cells #[.int .i64 0, .string ⟨#[]⟩, .int .i64 0, .string ⟨#[]⟩] 59)) w.heap.size (.slice (some ⟨w.heap.size, 0, none⟩) 0 1) [] := World.ownsRow_made w #[.int .i64 0, .string ⟨#[]⟩, .int .i64 0, .string ⟨#[]⟩] 1 (Nat.le_refl _) (by decide) rfl
  replace hr := hr.quiet hG
  obtain ⟨al, cl, rfl, -, -⟩ := RdR.form hr
  have hsz := hG.size
  go_enter Try.func38, Try.ntmps38
  go_wp2_with fail
  generalize w.alloc (.cells #[.int .i64 0, .string ⟨#[]⟩, .int .i64 0, .string ⟨#[]⟩] 59) = w1 at hG hown hr hsz ⊢
  generalize (Value.slice (some ⟨w.heap.size, 0, none⟩) 0 1) = vm at hown ⊢
  have hob := OwnX.low hown
  refine wp_loop_rounds 1 ?_
  rw [rounds_succ]
  go_upto_region 13 with (at_builtin; refine wpList_append_xs en_rowOk rfl _ _ rfl w.heap.size vm [] rfl hown _ [(1, sD, 1, sX)] rfl hr (by simp) hsz ?_; intro v8 w8 hown8 hgrow)
  have hG8 := hG.other hgrow (fun r e => .inl (hob r e))
  have hob8 := OwnX.low hown8
  have hsz8 := hG8.size
  clear hown hG hgrow hob hsz hr
  go_upto_region 14 with (at_builtin; refine wpList_append_xs en_rowOk rfl _ _ rfl w.heap.size v8 [(1, sD, 1, sX)] rfl hown8 _ [] rfl (RdR.nil _ _ _) (by simp) hsz8 ?_; intro v9 w9 hown9 hgrow9)
  have hG9 := hG8.other hgrow9 (fun r e => .inl (hob8 r e))
  obtain ⟨a9, c9, rfl, -, -⟩ := RdR.form (c := enC) (Rd.of_owns hown9)
  go_wp2_with fail
  go_ret2
  exact ⟨_, rfl, Rd.of_owns hown9, hG9⟩
set_option maxRecDepth 100000 in
set_option maxHeartbeats 2000000 in
theorem containsNone_c (f : Value) (w : World) : Calls Try.prog 37 #[.slice none 0 0, f] w fun e w' => e = .returned (.bool false) ∧ w = w' := by
  have CI : Calls Try.prog 50 #[.slice none 0 0, f] w fun e w' => e = .returned (.int .i64 (-1)) ∧ w = w' := by
    go_enter Try.func50, Try.ntmps50
    go_wp2_with fail
    refine wp_loop_rounds 1 ?_
    rw [rounds_succ]
    go_wp2_with fail
    go_ret
    exact ⟨rfl, rfl⟩
  have CI := Lib.hid CI
  go_enter Try.func37, Try.ntmps37
  go_wp2_with fail
  refine CI.out.mono ?_; rintro e w' ⟨rfl, rfl⟩
  go_wp2_with fail
  go_ret
  exact ⟨rfl, rfl⟩
set_option maxRecDepth 100000 in
set_option maxHeartbeats 4000000 in
theorem mergeOne_c (v : Value) (w : World) (hr : RdR w 4 enC v [(1, sD, 1, sX)]) : Calls Try.prog 20 #[v, .slice none 0 0] w fun e w' => ∃ v', e = .returned (.tuple #[v', .int .i64 0]) ∧ RdR w' 4 enC v' [(1, sD, 1, sX)] ∧ G w w' none := by
  have hmm : ∀ w : World, (Instr.makeMap 75 (some (.int .i64 1))).run Try.prog w = .ok (.map (some w.heap.size)) (w.alloc (.map #[] 0)) := fun _ => rfl
  have hG := G.refl w none
  obtain ⟨al, cl, rfl, -, -⟩ := RdR.form hr
  obtain ⟨bb, bo, rfl, -, -⟩ := RdR.elem enC_sz hr hG (k := 0) (p := (1, sD, 1, sX)) rfl
  have hcell : Hid (∀ w', G w w' none → w'.cell? ⟨bb, bo, none⟩ = some (.int .i64 1) ∧ w'.cell? ⟨bb, bo + 1, none⟩ = some (.string sD) ∧ w'.cell? ⟨bb, bo + 2, none⟩ = some (.int .i64 1) ∧ w'.cell? ⟨bb, bo + 3, none⟩ = some (.string sX)) := Lib.hid (fun w' h => by
    have e0 := RdR.cell enC_sz hr h (k := 0) (p := (1, sD, 1, sX)) rfl 0 (.int .i64 1) rfl
    have e1 := RdR.cell enC_sz hr h (k := 0) (p := (1, sD, 1, sX)) rfl 1 (.string sD) rfl
    have e2 := RdR.cell enC_sz hr h (k := 0) (p := (1, sD, 1, sX)) rfl 2 (.int .i64 1) rfl
    have e3 := RdR.cell enC_sz hr h (k := 0) (p := (1, sD, 1, sX)) rfl 3 (.string sX) rfl
    simp only [Nat.zero_mul, Nat.add_zero] at e0 e1 e2 e3
    exact ⟨e0, e1, e2, e3⟩)
  have CC := Lib.hid (checkOne_c _ w hr)
  have CM := Lib.hid (fun w' (h : G w w' none) => mergeE_c _ w' (hr.quiet h))
  have HV : Hid (KU.v () = .agg #[.string sD, .int .i64 1]) := Lib.hid rfl
  clear hr
  generalize sD = d at hcell CC CM HV ⊢
  generalize sX = x at hcell CC CM ⊢
  go_enter Try.func20, Try.ntmps20
  go_wp2_with fail
  refine CC.out.mono ?_; rintro e w1 ⟨rfl, hh⟩
  replace hG := hG.trans hh
  clear hh CC
  go_wp2_with fail
  refine (checkNone_c _).mono ?_; rintro e w1b ⟨rfl, hh⟩
  replace hG := hG.trans hh
  clear hh
  go_upto_region 8 with fail
  have hM : OwnK KU ((w1b.alloc (.map #[] 0)).alloc (.cells #[.map (some w1b.heap.size)] 75)) w1b.heap.size 0 (fun _ => none) := (OwnK.made _ _ rfl).alloc _
  have hB : Bk ((w1b.alloc (.map #[] 0)).alloc (.cells #[.map (some w1b.heap.size)] 75)) (w1b.heap.size + 1) 75 #[.map (some w1b.heap.size)] := Bk.newAt (by simp) _ _
  have hgs := hG.size
  have hlb := hB.lt
  replace hG := (hG.alloc (.map #[] 0)).alloc (.cells #[.map (some w1b.heap.size)] 75)
  generalize (w1b.alloc (.map #[] 0)).alloc (.cells #[.map (some w1b.heap.size)] 75) = w1c at hM hB hG hlb ⊢
  generalize w1b.heap.size = g at hM hB hgs hlb ⊢
  have hbg : g + 1 ≠ g := by omega
  generalize hbe : g + 1 = b at hB hbg hlb ⊢
  have hgb : g < b := by omega
  clear hbe
  go_wp2_with fail
  refine wp_loop_rounds 2 ?_
  rw [rounds_succ]
  obtain ⟨e0, e1, e2, e3⟩ := hcell.out _ hG
  go_upto_region 11 with fail
  have hN := Bk.new w1c 59 #[.int .i64 1, .string d, .int .i64 1, .string x]
  have hng : w1c.heap.size ≠ g := by omega
  replace hM := hM.alloc (.cells #[.int .i64 1, .string d, .int .i64 1, .string x] 59)
  replace hB := hB.alloc (.cells #[.int .i64 1, .string d, .int .i64 1, .string x] 59)
  replace hG := hG.alloc (.cells #[.int .i64 1, .string d, .int .i64 1, .string x] 59)
  clear e0 e1 e2 e3 hlb
  generalize w1c.alloc (.cells #[.int .i64 1, .string d, .int .i64 1, .string x] 59) = w2 at hN hM hB hG ⊢
  generalize w1c.heap.size = n at hN hng ⊢
  refine wp_region_held_drew (S := (fun w' : World => w'.cell? ⟨b, 0, none⟩ = some (.map (some g)) ∧ w'.cell? ⟨n, 0, none⟩ = some (.int .i64 1) ∧ w'.cell? ⟨n, 1, none⟩ = some (.string d) ∧ w'.cell? ⟨n, 2, none⟩ = some (.int .i64 1) ∧ w'.cell? ⟨n, 3, none⟩ = some (.string x))) (by kernel_rfl) ?_ (fun hHeld => ?_)
  · exact ⟨(hB.drewN 1).cell 0, (hN.drewN 1).cell 0, (hN.drewN 1).cell 1, (hN.drewN 1).cell 2, (hN.drewN 1).cell 3⟩
  replace hN : Bk w2.drew _ _ _ := hN.drewN 1
  replace hB : Bk w2.drew _ _ _ := hB.drewN 1
  replace hM : OwnK KU w2.drew _ _ _ := hM.drewN 1
  replace hG := hG.drew
  generalize w2.drew = wd at hHeld hN hB hM hG ⊢
  refine wpAnyH_take (i := 0) (oi := { dst := some 31, op := Op.load 75 (Operand.tmp 8), type := 75, pos := _, after := #[], guard := none }) (v := ?_) rfl (by kernel_rfl) (by kernel_rfl) (by kernel_rfl) (fun _ _ _ h => h) (Or.inl ⟨by rfl, ?_⟩) (by assumption) ?_
  rotate_left
  · (intro w hSw; obtain ⟨q0, q1, q2, q3, q4⟩ := hSw; (go_simp <;> with_reducible rfl))
  try simp only [Act.put, List.setIfInBounds_toArray, List.set_cons_zero, List.set_cons_succ]
  refine wpAnyH_take (i := 1) (oi := { dst := some 32, op := Op.load 59 (Operand.tmp 10), type := 59, pos := _, after := #[], guard := none }) (v := ?_) rfl (by kernel_rfl) (by kernel_rfl) (by kernel_rfl) (fun _ _ _ h => h) (Or.inl ⟨by rfl, ?_⟩) (by assumption) ?_
  rotate_left
  · (intro w hSw; obtain ⟨q0, q1, q2, q3, q4⟩ := hSw; (go_simp <;> with_reducible rfl))
  try simp only [Act.put, List.setIfInBounds_toArray, List.set_cons_zero, List.set_cons_succ]
  refine wpAnyH_take (i := 3) (oi := { dst := some 34, op := Op.load 59 (Operand.tmp 10), type := 59, pos := _, after := #[], guard := none }) (v := ?_) rfl (by kernel_rfl) (by kernel_rfl) (by kernel_rfl) (fun _ _ _ h => h) (Or.inl ⟨by rfl, ?_⟩) (by assumption) ?_
  rotate_left
  · (intro w hSw; obtain ⟨q0, q1, q2, q3, q4⟩ := hSw; (go_simp <;> with_reducible rfl))
  try simp only [Act.put, List.setIfInBounds_toArray, List.set_cons_zero, List.set_cons_succ]
  refine wpAnyH_ready (rs := [2]) (by kernel_rfl) (by simp) ?_
  refine (AllReadyH.cons (o := { dst := some 33, op := Op.call { callee := Callee.value (Operand.func 35), args := #[Operand.tmp 32], argTypes := #[59] }, type := 77, pos := _, after := #[{ on := 1, ground := Ground.data }], guard := none }) rfl (fun K hK => ?_) AllReadyH.nil)
  go_simp
  refine (nameOf_c _ _ _ _ _).mono ?_
  rintro e we ⟨rfl, hh⟩
  replace hN := hN.quiet hh
  replace hB := hB.quiet hh
  replace hM := hM.quiet hh
  replace hG := hG.trans hh
  clear hh
  refine hK.out _ _ ?_ (fun hHeld => ?_)
  · exact ⟨hB.cell 0, hN.cell 0, hN.cell 1, hN.cell 2, hN.cell 3⟩
  clear hK K
  try simp only [Act.put, List.setIfInBounds_toArray, List.set_cons_zero, List.set_cons_succ]
  refine wpAnyH_ready (rs := [4]) (by kernel_rfl) (by simp) ?_
  refine (AllReadyH.cons (o := { dst := none, op := Op.mapUpdate 75 (Operand.tmp 31) (Operand.tmp 33) (Operand.tmp 34), type := 0, pos := _, after := #[{ on := 0, ground := Ground.data }, { on := 2, ground := Ground.data }, { on := 3, ground := Ground.data }, { on := 2, ground := Ground.chain }, { on := 0, ground := Ground.phase }, { on := 1, ground := Ground.phase }, { on := 2, ground := Ground.phase }, { on := 3, ground := Ground.phase }], guard := none }) rfl (fun K hK => ?_) AllReadyH.nil)
  refine st_wp rfl (wpK1_store (KK := KU) _ _ _ 75 rfl 59 Try.underlying75 g 0 (fun _ => none) rfl hM (by decide) () (by rw [HV.out]; rfl) trivial (.agg #[.int .i64 1, .string d, .int .i64 1, .string x]) rfl ?_)
  intro wf hM6 hh
  replace hB := hB.grown hh (fun e => hbg (Option.some.inj e))
  replace hN := hN.grown hh (fun e => hng (Option.some.inj e))
  replace hG := hG.other hh (fun j e => .inl (by obtain rfl := Option.some.inj e; exact hgs))
  clear hh hM
  refine hK.out _ _ ?_ (fun hHeld => ?_)
  · exact ⟨hB.cell 0, hN.cell 0, hN.cell 1, hN.cell 2, hN.cell 3⟩
  clear hK K
  try simp only [Act.put, List.setIfInBounds_toArray, List.set_cons_zero, List.set_cons_succ]
  refine wpAnyH_done (by kernel_rfl) ?_ _
  clear hHeld
  go_wp2_with fail
  rw [rounds_succ]
  go_wp2_with fail
  refine (containsNone_c _ _).mono ?_; rintro e w' ⟨rfl, rfl⟩
  go_wp2_with fail
  refine (CM.out _ hG).mono ?_; rintro e w9 ⟨v9, rfl, hR9, hh⟩
  have hG9 := hG.trans hh
  go_wp2_with fail
  go_ret2
  exact ⟨v9, rfl, hR9, hG9⟩
end Go.Proofs.Ytkpmcakppiinlaa

/- Cents that are divided: the reference's check; the functions that Split hands on. Written by genspd.py. -/
namespace Go.Proofs.Ytkpmcakppiinlaa
open Go.RowKit

theorem spE_ok {c : Int} {ws : List Int} (h : spE c ws = 0) : (0 ≤ c ∧ c ≤ 1000000000) ∧ ws.length ≤ 50 ∧ (∀ n ∈ ws, inB n 0 5761440 = true) ∧ ws.sum ≠ 0 := by
  unfold spE at h
  split at h
  · cases h
  · next h1 =>
    split at h
    · cases h
    · next h2 =>
      split at h
      · cases h
      · next h3 =>
        split at h
        · cases h
        · next h4 =>
          refine ⟨by have : inB c 0 1000000000 = true := by simpa using h1
                     unfold inB at this; simpa using this, by omega, ?_, h4⟩
          have h5 : spA ws = true := by simpa using h3
          exact List.all_eq_true.1 h5
/-- What is left over of a part. -/
def restI (c : Int) (ws : List Int) (i : Nat) : Int := c * (ws.getD i 0) % ws.sum
def ArgsI (w : World) (gC gW gS : Nat) (c s : Int) (v : Value) : Prop := Bk w gC 3 #[.int .i64 c] ∧ Bk w gW 22 #[v] ∧ Bk w gS 3 #[.int .i64 s]
set_option maxRecDepth 100000 in
set_option maxHeartbeats 4000000 in
theorem rest_c (c : Int) (ws : List Int) (v : Value) (i : Nat) (gC gW gS : Nat) (w : World) (he : spE c ws = 0) (hi : i < ws.length) (hC : Bk w gC 3 #[.int .i64 c]) (hW : Bk w gW 22 #[v]) (hS : Bk w gS 3 #[.int .i64 ws.sum]) (hr : RdI w v ws) :
    Calls Try.prog 25 #[.int .i64 i, .pointer (some ⟨gC, 0, none⟩), .pointer (some ⟨gW, 0, none⟩), .pointer (some ⟨gS, 0, none⟩)] w fun e w' => e = .returned (.int .i64 (restI c ws i)) ∧ G w w' none := by
  obtain ⟨p, hp⟩ : ∃ p, ws[i]? = some p := ⟨_, List.getElem?_eq_getElem hi⟩
  obtain ⟨h1, h2, h3, h4⟩ := spE_ok he
  have hpb : 0 ≤ p ∧ p ≤ 5761440 := by have := h3 p (List.mem_of_getElem? hp); unfold inB at this; simpa using this
  have hR : restI c ws i = c * p % ws.sum := by unfold restI; rw [List.getD_eq_getElem?_getD, hp]; rfl
  obtain ⟨a, cap, rfl, hcap, hm⟩ := RdR.form hr
  obtain ⟨bb, bo, rfl, -, -⟩ := RdR.elem inC_sz hr (G.refl w none) hp
  have hc := RdR.cell inC_sz hr (G.refl w none) hp 0 (.int .i64 p) rfl
  simp only [Nat.add_zero, Nat.mul_one] at hc
  have hsb := (spA_bnd h3)
  have hp1 : 0 ≤ c * p := Int.mul_nonneg h1.1 hpb.1
  have hp2 : c * p ≤ 1000000000 * 5761440 := Int.mul_le_mul h1.2 hpb.2 hpb.1 (by omega)
  have hin : (i : Int) < (ws.length : Int) := by omega
  rw [hR]
  clear hR hr hp h3 he
  generalize ws.sum = s at hS h4 hsb ⊢
  have hs0 : 0 < s := by omega
  obtain ⟨m, hm2⟩ : ∃ m, c * p = m := ⟨_, rfl⟩
  have hw1 : IntKind.i64.wrap (c * p) = m := by rw [hm2, IntKind.wrap_i64]; omega
  rw [hm2] at hp1 hp2
  rw [hm2]
  have htm : m.tmod s = m % s := Int.tmod_eq_emod_of_nonneg hp1
  have hmw : IntKind.i64.wrap (m % s) = m % s := by have q1 := Int.emod_nonneg m (show s ≠ 0 by omega); have q2 := Int.emod_lt_of_pos m hs0; rw [IntKind.wrap_i64]; omega
  have hsn : ¬ s = 0 := by omega
  have hG := (G.refl w none).drew
  clear hm2 h1 h2 h4 hsb hs0
  go_enter Try.func25, Try.ntmps25
  go_upto_region 1 with fail
  refine wp_region_held_drew (S := (fun w' : World => w'.cell? ⟨gC, 0, none⟩ = some (.int .i64 c) ∧ w'.cell? ⟨gW, 0, none⟩ = some (.slice (some ⟨bb, bo, none⟩) ws.length cap) ∧ w'.cell? ⟨gS, 0, none⟩ = some (.int .i64 s) ∧ w'.cell? ⟨bb, bo + i, none⟩ = some (.int .i64 p))) (by kernel_rfl) ?_ (fun hHeld => ?_)
  · exact ⟨hC.cell 0, hW.cell 0, hS.cell 0, hc⟩
  refine wpAnyH_take (i := 0) (oi := { dst := some 6, op := Op.load 3 (Operand.tmp 1), type := 3, pos := _, after := #[], guard := none }) (v := ?_) rfl (by kernel_rfl) (by kernel_rfl) (by kernel_rfl) (fun _ _ _ h => h) (Or.inl ⟨by rfl, ?_⟩) (by assumption) ?_
  rotate_left
  · (intro w hSw; obtain ⟨z0, z1, z2, z3⟩ := hSw; (go_simp <;> with_reducible rfl))
  try simp only [Act.put, List.setIfInBounds_toArray, List.set_cons_zero, List.set_cons_succ]
  refine wpAnyH_take (i := 1) (oi := { dst := some 7, op := Op.load 22 (Operand.tmp 2), type := 22, pos := _, after := #[], guard := none }) (v := ?_) rfl (by kernel_rfl) (by kernel_rfl) (by kernel_rfl) (fun _ _ _ h => h) (Or.inl ⟨by rfl, ?_⟩) (by assumption) ?_
  rotate_left
  · (intro w hSw; obtain ⟨z0, z1, z2, z3⟩ := hSw; (go_simp <;> with_reducible rfl))
  try simp only [Act.put, List.setIfInBounds_toArray, List.set_cons_zero, List.set_cons_succ]
  refine wpAnyH_take (i := 2) (oi := { dst := some 8, op := Op.move (Operand.tmp 0), type := 3, pos := _, after := #[], guard := none }) (v := ?_) rfl (by kernel_rfl) (by kernel_rfl) (by kernel_rfl) (fun _ _ _ h => h) (Or.inl ⟨by rfl, ?_⟩) (by assumption) ?_
  rotate_left
  · (intro w hSw; obtain ⟨z0, z1, z2, z3⟩ := hSw; (go_simp <;> with_reducible rfl))
  try simp only [Act.put, List.setIfInBounds_toArray, List.set_cons_zero, List.set_cons_succ]
  refine wpAnyH_take (i := 3) (oi := { dst := some 9, op := Op.indexAddr 22 (Operand.tmp 7) (Operand.tmp 8), type := 0, pos := _, after := #[{ on := 1, ground := Ground.data }, { on := 2, ground := Ground.data }], guard := none }) (v := ?_) rfl (by kernel_rfl) (by kernel_rfl) (by kernel_rfl) (fun _ _ _ h => h) (Or.inl ⟨by rfl, ?_⟩) (by assumption) ?_
  rotate_left
  · (intro w hSw; obtain ⟨z0, z1, z2, z3⟩ := hSw; (go_simp <;> with_reducible rfl))
  try simp only [Act.put, List.setIfInBounds_toArray, List.set_cons_zero, List.set_cons_succ]
  refine wpAnyH_take (i := 4) (oi := { dst := some 10, op := Op.load 3 (Operand.tmp 9), type := 3, pos := _, after := #[{ on := 3, ground := Ground.data }], guard := none }) (v := ?_) rfl (by kernel_rfl) (by kernel_rfl) (by kernel_rfl) (fun _ _ _ h => h) (Or.inl ⟨by rfl, ?_⟩) (by assumption) ?_
  rotate_left
  · (intro w hSw; obtain ⟨z0, z1, z2, z3⟩ := hSw; (go_simp <;> with_reducible rfl))
  try simp only [Act.put, List.setIfInBounds_toArray, List.set_cons_zero, List.set_cons_succ]
  refine wpAnyH_take (i := 5) (oi := { dst := some 11, op := Op.binOp BinOp.mul 3 (Operand.tmp 6) (Operand.tmp 10) 3, type := 3, pos := _, after := #[{ on := 0, ground := Ground.data }, { on := 4, ground := Ground.data }], guard := none }) (v := ?_) rfl (by kernel_rfl) (by kernel_rfl) (by kernel_rfl) (fun _ _ _ h => h) (Or.inl ⟨by rfl, ?_⟩) (by assumption) ?_
  rotate_left
  · (intro w hSw; obtain ⟨z0, z1, z2, z3⟩ := hSw; (go_simp <;> with_reducible rfl))
  try simp only [Act.put, List.setIfInBounds_toArray, List.set_cons_zero, List.set_cons_succ]
  refine wpAnyH_take (i := 6) (oi := { dst := some 12, op := Op.load 3 (Operand.tmp 3), type := 3, pos := _, after := #[], guard := none }) (v := ?_) rfl (by kernel_rfl) (by kernel_rfl) (by kernel_rfl) (fun _ _ _ h => h) (Or.inl ⟨by rfl, ?_⟩) (by assumption) ?_
  rotate_left
  · (intro w hSw; obtain ⟨z0, z1, z2, z3⟩ := hSw; (go_simp <;> with_reducible rfl))
  try simp only [Act.put, List.setIfInBounds_toArray, List.set_cons_zero, List.set_cons_succ]
  refine wpAnyH_take (i := 7) (oi := { dst := some 13, op := Op.binOp BinOp.rem 3 (Operand.tmp 11) (Operand.tmp 12) 3, type := 3, pos := _, after := #[{ on := 5, ground := Ground.data }, { on := 6, ground := Ground.data }], guard := none }) (v := ?_) rfl (by kernel_rfl) (by kernel_rfl) (by kernel_rfl) (fun _ _ _ h => h) (Or.inl ⟨by rfl, ?_⟩) (by assumption) ?_
  rotate_left
  · (intro w hSw; obtain ⟨z0, z1, z2, z3⟩ := hSw; (go_simp <;> with_reducible rfl))
  try simp only [Act.put, List.setIfInBounds_toArray, List.set_cons_zero, List.set_cons_succ]
  refine wpAnyH_take (i := 8) (oi := { dst := some 5, op := Op.assign (Operand.tmp 13), type := 3, pos := _, after := #[{ on := 7, ground := Ground.data }, { on := 0, ground := Ground.phase }, { on := 1, ground := Ground.phase }, { on := 2, ground := Ground.phase }, { on := 3, ground := Ground.phase }, { on := 4, ground := Ground.phase }, { on := 5, ground := Ground.phase }, { on := 6, ground := Ground.phase }, { on := 7, ground := Ground.phase }], guard := none }) (v := ?_) rfl (by kernel_rfl) (by kernel_rfl) (by kernel_rfl) (fun _ _ _ h => h) (Or.inl ⟨by rfl, ?_⟩) (by assumption) ?_
  rotate_left
  · (intro w hSw; obtain ⟨z0, z1, z2, z3⟩ := hSw; (go_simp <;> with_reducible rfl))
  try simp only [Act.put, List.setIfInBounds_toArray, List.set_cons_zero, List.set_cons_succ]
  refine wpAnyH_done (by kernel_rfl) ?_ _
  go_wp2_with fail
  go_ret
  exact ⟨rfl, hG⟩
end Go.Proofs.Ytkpmcakppiinlaa

/- The rules of tolls: their checks. Written by gentlr.py. -/
namespace Go.Proofs.Ytkpmcakppiinlaa
open Go.RowKit

/-- The rules of tolls: double, cap, fee. -/
abbrev Tr := Int × Int × Int
def trC (x : Tr) : Array Value := #[.int .i64 x.1, .int .i64 x.2.1, .int .i64 x.2.2]
def trE (x : Tr) : Int := if inB x.1 0 1440 = false then 1 else if inB x.2.1 (-1) 1000000 = false then 1 else if inB x.2.2 0 1000000 = false then 1 else 0
theorem isRate_c (n : Int) (w : World) : Calls Try.prog 17 #[.int .i64 n] w fun e w' => e = .returned (.bool (inB n 0 1000000)) ∧ w = w' := by
  go_enter Try.func17, Try.ntmps17
  go_wp2_with fail
  refine (within_c n 0 1000000 _).mono ?_; rintro e w' ⟨rfl, rfl⟩
  go_wp2_with fail
  go_ret
  exact ⟨rfl, rfl⟩
def kn (s : ByteArray) : Bool := decide (s = ⟨#[]⟩) || keyB s
end Go.Proofs.Ytkpmcakppiinlaa

/- Rates: compareRates, checkRate. -/
namespace Go.Proofs.Ytkpmcakppiinlaa
open Go.RowKit

/-- A rate: class, from, to, hour, day, weekend, week. -/
abbrev Ra := ByteArray × Int × Int × Int × Int × Int × Int
def raC (x : Ra) : Array Value := #[.string x.1, .int .i64 x.2.1, .int .i64 x.2.2.1, .int .i64 x.2.2.2.1, .int .i64 x.2.2.2.2.1, .int .i64 x.2.2.2.2.2.1, .int .i64 x.2.2.2.2.2.2]
theorem raC_sz (x : Ra) : (raC x).size = 7 := rfl
def raB (x : Ra) : Prop := Small x.1 ∧ bnd x.2.1 ∧ bnd x.2.2.1 ∧ bnd x.2.2.2.1 ∧ bnd x.2.2.2.2.1 ∧ bnd x.2.2.2.2.2.1 ∧ bnd x.2.2.2.2.2.2
def RaOk (l : List Ra) : Prop := ∀ x ∈ l, raB x
def cmpS (x y : Int) : Int := if x < y then -1 else if y < x then 1 else 0
def cmpR (x y : Ra) : Int := orI (cmpI x.1 y.1) (cmpS x.2.1 y.2.1)
set_option maxRecDepth 100000 in
theorem isNaN_c (x : Int) (w : World) : Calls Try.prog 44 #[.int .i64 x] w fun e w' => e = .returned (.bool false) ∧ w = w' := by
  go_enter Try.func44, Try.ntmps44
  go_wp2_with fail
  go_ret
  exact ⟨ret_bool (by simp), rfl⟩
set_option maxRecDepth 100000 in
theorem cmpInt_c (x y : Int) (w : World) : Calls Try.prog 28 #[.int .i64 x, .int .i64 y] w fun e w' => e = .returned (.int .i64 (cmpS x y)) ∧ w = w' := by
  rcases (show x < y ∨ y < x ∨ x = y by omega) with h | h | h
  · have HF : Hid (cmpS x y = -1) := Lib.hid (by simp [cmpS, h])
    go_enter Try.func28, Try.ntmps28
    go_wp2_with fail
    refine (isNaN_c _ _).mono ?_; rintro e w' ⟨rfl, rfl⟩
    go_wp2_with fail
    refine (isNaN_c _ _).mono ?_; rintro e w' ⟨rfl, rfl⟩
    go_wp2_with fail
    go_ret
    exact ⟨by rw [HF.out]; rfl, rfl⟩
  · have HF : Hid (cmpS x y = 1) := Lib.hid (by rw [cmpS, if_neg (by omega), if_pos h])
    go_enter Try.func28, Try.ntmps28
    go_wp2_with fail
    refine (isNaN_c _ _).mono ?_; rintro e w' ⟨rfl, rfl⟩
    go_wp2_with fail
    refine (isNaN_c _ _).mono ?_; rintro e w' ⟨rfl, rfl⟩
    go_wp2_with fail
    go_ret
    exact ⟨by rw [HF.out]; rfl, rfl⟩
  · have HF : Hid (cmpS x y = 0) := Lib.hid (by rw [cmpS, if_neg (by omega), if_neg (by omega)])
    go_enter Try.func28, Try.ntmps28
    go_wp2_with fail
    refine (isNaN_c _ _).mono ?_; rintro e w' ⟨rfl, rfl⟩
    go_wp2_with fail
    refine (isNaN_c _ _).mono ?_; rintro e w' ⟨rfl, rfl⟩
    go_wp2_with fail
    go_ret
    exact ⟨by rw [HF.out]; rfl, rfl⟩
def spanB (a z : Int) : Bool := decide (0 ≤ a) && (decide (a < z) && decide (z ≤ 4001))
def priceB (h d e v : Int) : Bool := inB h (-1) 1000000 && (inB d (-1) 1000000 && (inB e (-1) 1000000 && inB v (-1) 1000000))
def chE (x : Ra) : Int := if keyB x.1 = false then 5 else if spanB x.2.1 x.2.2.1 = false then 1 else if priceB x.2.2.2.1 x.2.2.2.2.1 x.2.2.2.2.2.1 x.2.2.2.2.2.2 = false then 1 else 0
end Go.Proofs.Ytkpmcakppiinlaa

/- Passages: basic.IsPlate, toll.comparePassages, toll.checkForm. Written by genpas.py. -/
namespace Go.Proofs.Ytkpmcakppiinlaa
open Go.RowKit

/-! ### Plates -/
def plC (c : Int) : Bool := dg c || (decide (65 ≤ c) && decide (c ≤ 90))
def plB (s : ByteArray) : Bool := decide (2 ≤ s.size) && (decide (s.size ≤ 10) && s.data.toList.all fun c => plC c.toNat)
theorem plB_of {s : ByteArray} (h : 2 ≤ s.size) (h2 : s.size ≤ 10) : plB s = s.data.toList.all fun c => plC c.toNat := by simp [plB, h, h2]
theorem plB_no {s : ByteArray} (h : s.size < 2 ∨ 10 < s.size) : plB s = false := by
  unfold plB
  rcases h with h | h
  · rw [decide_eq_false (by omega)]; rfl
  · rw [decide_eq_false (show ¬ s.size ≤ 10 by omega)]; simp
theorem pl_no (s : ByteArray) (k : Nat) (hk : k < s.size) (h : plC (s[k].toNat : Int) = false) : (s.data.toList.all fun c => plC c.toNat) = false := by
  rw [List.all_eq_false]
  refine ⟨s[k], ?_, by simp [h]⟩
  exact List.mem_of_getElem? (get_data s k hk)
set_option maxHeartbeats 2000000 in
theorem isPlate_c (s : ByteArray) (w : World) (hs : s.size ≤ 9223372036854775807) : Calls Try.prog 23 #[.string s] w fun e w' => e = .returned (.bool (plB s)) ∧ w = w' := by
  obtain ⟨B, hB⟩ : ∃ B, plB s = B := ⟨_, rfl⟩
  have H0 := Lib.hid hB
  rw [hB]
  clear hB
  by_cases h1 : s.size < 2
  · obtain rfl : B = false := by rw [← H0.out, plB_no (.inl h1)]
    go_enter Try.func23, Try.ntmps23
    go_wp2_with fail
    go_ret
    exact ⟨rfl, rfl⟩
  by_cases h2 : 10 < s.size
  · obtain rfl : B = false := by rw [← H0.out, plB_no (.inr h2)]
    go_enter Try.func23, Try.ntmps23
    go_wp2_with fail
    go_ret
    exact ⟨rfl, rfl⟩
  have H := Lib.hid (H0.out.symm.trans (plB_of (by omega) (by omega)))
  go_enter Try.func23, Try.ntmps23
  go_wp2_with fail
  go_loop [15] (fun i => ∃ k : Nat, k ≤ s.size ∧ i = .int .i64 k ∧ (s.data.toList.take k).all (fun c => plC c.toNat) = true) (fun i => s.size - (intOf i).toNat)
  case atStart => exact ⟨0, Nat.zero_le _, rfl, by simp⟩
  case round =>
    obtain ⟨k, hk, rfl, hall⟩ := hrel
    have HA := Lib.hid hall
    clear hall
    by_cases hlt : k < s.size
    · have HN : Hid (plC (s[k].toNat : Int) = true → (s.data.toList.take (k + 1)).all (fun c => plC c.toNat) = true) := Lib.hid (fun hkc => by rw [take_snoc s k hlt, List.all_append, HA.out, Bool.true_and, List.all_cons, hkc, List.all_nil]; rfl)
      have HF : Hid (plC (s[k].toNat : Int) = false → B = false) := Lib.hid (fun hkc => by rw [H.out, pl_no s k hlt hkc])
      have HD : Hid (plC (s[k].toNat : Int) = (dg (s[k].toNat : Int) || (decide (65 ≤ (s[k].toNat : Int)) && decide ((s[k].toNat : Int) ≤ 90)))) := Lib.hid rfl
      go_wp2_with fail
      refine (digit_c _ _).mono ?_; rintro e w' ⟨rfl, rfl⟩
      cases hdg : dg (s[k].toNat : Int) with
      | true =>
        have HP : Hid ((s.data.toList.take (k + 1)).all (fun c => plC c.toNat) = true) := Lib.hid (HN.out (by rw [HD.out, hdg]; rfl))
        clear hdg
        go_wp2_with fail
        go_round
        case rel => exact ⟨k + 1, by omega, by go_num, HP.out⟩
        case measure => simp [intOf]; omega
      | false =>
        by_cases h65 : 65 ≤ (s[k].toNat : Int)
        · by_cases h90 : (s[k].toNat : Int) ≤ 90
          · have HP : Hid ((s.data.toList.take (k + 1)).all (fun c => plC c.toNat) = true) := Lib.hid (HN.out (by rw [HD.out, hdg, decide_eq_true h65, decide_eq_true h90]; rfl))
            have h3 : ¬ (s[k].toNat : Int) < 65 := by omega
            have h4 : ¬ 90 < (s[k].toNat : Int) := by omega
            clear hdg
            go_wp2_with fail
            go_round
            case rel => exact ⟨k + 1, by omega, by go_num, HP.out⟩
            case measure => simp [intOf]; omega
          · obtain rfl : B = false := HF.out (by rw [HD.out, hdg, decide_eq_false h90]; simp)
            have h3 : ¬ (s[k].toNat : Int) < 65 := by omega
            have h4 : 90 < (s[k].toNat : Int) := by omega
            clear hdg
            go_wp2_with fail
            go_ret
            exact ⟨rfl, rfl⟩
        · obtain rfl : B = false := HF.out (by rw [HD.out, hdg, decide_eq_false h65]; simp)
          have h3 : (s[k].toNat : Int) < 65 := by omega
          clear hdg
          go_wp2_with fail
          go_ret
          exact ⟨rfl, rfl⟩
    · obtain rfl : B = true := by rw [H.out, ← HA.out, List.take_of_length_le (by rw [len_data]; omega)]
      go_wp2_with fail
      go_ret
      exact ⟨rfl, rfl⟩
/-! ### Passages -/
/-- A passage: at, gate, plate, cents. -/
abbrev Pa := Int × ByteArray × ByteArray × Int
def paC (x : Pa) : Array Value := #[.int .i64 x.1, .string x.2.1, .string x.2.2.1, .int .i64 x.2.2.2]
theorem paC_sz (x : Pa) : (paC x).size = 4 := rfl
def PaOk (l : List Pa) : Prop := ∀ x ∈ l, Small x.2.1 ∧ Small x.2.2.1
def cmpP (x y : Pa) : Int := orI (cmpS x.1 y.1) (orI (cmpI x.2.1 y.2.1) (cmpI x.2.2.1 y.2.2.1))
set_option maxRecDepth 100000 in
set_option maxHeartbeats 2000000 in
theorem or3_c (x y z : Int) (g : Nat) (w : World) (hB : Bk w g 3 #[.int .i64 x, .int .i64 y, .int .i64 z]) :
    Calls Try.prog 51 #[.slice (some ⟨g, 0, none⟩) 3 3] w fun e w' => e = .returned (.int .i64 (orI x (orI y z))) ∧ w = w' := by
  have hc0 : w.cell? ⟨g, 0, none⟩ = some (.int .i64 x) := hB.cell 0
  have hc1 : w.cell? ⟨g, 1, none⟩ = some (.int .i64 y) := hB.cell 1
  have hc2 : w.cell? ⟨g, 2, none⟩ = some (.int .i64 z) := hB.cell 2
  clear hB
  obtain ⟨R, hR⟩ : ∃ R, orI x (orI y z) = R := ⟨_, rfl⟩
  have HR := Lib.hid hR
  rw [hR]
  clear hR
  by_cases hx : x = 0
  · subst hx
    by_cases hy : y = 0
    · subst hy
      by_cases hz : z = 0
      · subst hz
        obtain rfl : R = 0 := by rw [← HR.out]; rfl
        go_enter Try.func51, Try.ntmps51
        go_wp2_with fail
        refine wp_loop_rounds 4 ?_
        rw [rounds_succ]
        go_wp2_with fail
        rw [rounds_succ]
        go_wp2_with fail
        rw [rounds_succ]
        go_wp2_with fail
        rw [rounds_succ]
        go_wp2_with fail
        go_ret
        exact ⟨rfl, rfl⟩
      · obtain rfl : R = z := by rw [← HR.out]; rfl
        have hz' : (R != 0) = true := by rw [bne_iff_ne]; exact hz
        clear hz HR
        go_enter Try.func51, Try.ntmps51
        go_wp2_with fail
        refine wp_loop_rounds 4 ?_
        rw [rounds_succ]
        go_wp2_with fail
        rw [rounds_succ]
        go_wp2_with fail
        rw [rounds_succ]
        go_wp2_with fail
        go_ret
        exact ⟨rfl, rfl⟩
    · obtain rfl : R = y := by rw [← HR.out]; simp [orI, hy]
      have hy' : (R != 0) = true := by rw [bne_iff_ne]; exact hy
      clear hy HR
      go_enter Try.func51, Try.ntmps51
      go_wp2_with fail
      refine wp_loop_rounds 4 ?_
      rw [rounds_succ]
      go_wp2_with fail
      rw [rounds_succ]
      go_wp2_with fail
      go_ret
      exact ⟨rfl, rfl⟩
  · obtain rfl : R = x := by rw [← HR.out]; simp [orI, hx]
    have hx' : (R != 0) = true := by rw [bne_iff_ne]; exact hx
    clear hx HR
    go_enter Try.func51, Try.ntmps51
    go_wp2_with fail
    refine wp_loop_rounds 4 ?_
    rw [rounds_succ]
    go_wp2_with fail
    go_ret
    exact ⟨rfl, rfl⟩
def paAfter (b : Option Pa) (x : Pa) : Bool := match b with | none => false | some y => decide (0 ≤ cmpP y x)
def paErr : Option Pa → List Pa → Int
  | _, [] => 0
  | b, x :: r => if momB x.1 = false then 1 else if keyB x.2.1 = false then 5 else if plB x.2.2.1 = false then 3 else if inB x.2.2.2 0 1000000 = false then 1 else if paAfter b x = true then 7 else paErr (some x) r
def paE (l : List Pa) : Int := if 1000 < l.length then 2 else paErr none l
theorem paRow {W w : World} {bb bo n cap : Nat} {l : List Pa} (h : RdR W 4 paC (.slice (some ⟨bb, bo, none⟩) n cap) l) (hG : G W w none) {k : Nat} {p : Pa} (hp : l[k]? = some p) :
    ∀ j v, (paC p).toList[j]? = some v → w.cell? ((⟨bb, bo + k * 4, none⟩ : Addr).add j) = some v := fun j v hv => by
  rw [add_at]
  exact RdR.cell paC_sz h hG hp j v hv
def PaRel (w : World) (l : List Pa) (i : Value) (wr : World) : Prop :=
  ∃ k : Nat, k ≤ l.length ∧ i = .int .i64 k ∧ paErr none l = paErr (prevAt l k) (l.drop k) ∧ G w wr none
end Go.Proofs.Ytkpmcakppiinlaa

/- Deals: CheckDeal, DealFault. Written by gendea.py. -/
namespace Go.Proofs.Ytkpmcakppiinlaa
open Go.RowKit

/-- A deal. -/
structure De where
  free : Int
  km : Int
  eighth : Int
  grace : Int
  hour : Int
  day : Int
  dep : Int
def deC (x : De) : Array Value := #[.int .i64 x.free, .int .i64 x.km, .int .i64 x.eighth, .int .i64 x.grace, .int .i64 x.hour, .int .i64 x.day, .int .i64 x.dep]
theorem deC_sz (x : De) : (deC x).size = 7 := rfl
def deE (x : De) : Int := if inB x.free 0 10000 = false then 1 else if inB x.km 0 100000 = false then 1 else if inB x.eighth 0 100000 = false then 1 else if inB x.grace 0 1440 = false then 1 else if inB x.hour 0 1000000 = false then 1 else if inB x.day 0 1000000 = false then 1 else if inB x.dep 0 1000000 = false then 1 else 0
theorem deE_or (x : De) : deE x = 0 ∨ deE x = 1 := by
  unfold deE
  repeat' split
  all_goals simp
theorem deE_ok {x : De} (h : deE x = 0) : (0 ≤ x.free ∧ x.free ≤ 10000) ∧ (0 ≤ x.km ∧ x.km ≤ 100000) ∧ (0 ≤ x.eighth ∧ x.eighth ≤ 100000) ∧ (0 ≤ x.grace ∧ x.grace ≤ 1440) ∧ (0 ≤ x.hour ∧ x.hour ≤ 1000000) ∧ (0 ≤ x.day ∧ x.day ≤ 1000000) ∧ (0 ≤ x.dep ∧ x.dep ≤ 1000000) := by
  unfold deE at h
  repeat' split at h
  all_goals simp_all [inB]
def deErr : List (Int × Int) → Int
  | [] => 0
  | p :: r => if inB p.1 0 p.2 = false then 1 else deErr r
def DeRel (w : World) (E : Int) (ns : List (Int × Int)) (i : Value) (wr : World) : Prop :=
  ∃ k : Nat, k ≤ 7 ∧ i = .int .i64 k ∧ E = deErr (ns.drop k) ∧ G w wr none
end Go.Proofs.Ytkpmcakppiinlaa

/- What is due: kmOf, missingOf; the sum for minutes. -/
namespace Go.Proofs.Ytkpmcakppiinlaa
open Go.RowKit

/-- How far a vehicle went in a leg; the fuel that is missing. -/
def kmL (x : Lg) : Int := (x.2.2.2.2.1 - x.2.1.2.2.1 + 1000000) % 1000000
def miL (x : Lg) : Int := max 0 (x.2.1.2.2.2 - x.2.2.2.2.2)
/-- What is due for so many minutes. -/
def lcN (x : De) (m : Int) : Int := if m ≤ x.grace then 0 else min (x.hour * ((m + 60 - 1) / 60)) (x.day * ((m + 1440 - 1) / 1440))
theorem begunP_c (m p : Int) (w : World) (h0 : 0 ≤ m) (h1 : m ≤ 1000000000) (h2 : 1 ≤ p) (h3 : p ≤ 1000000000) : Calls Try.prog 15 #[.int .i64 m, .int .i64 p] w fun e w' => e = .returned (.int .i64 ((m + p - 1) / p)) ∧ w = w' := by
  go_enter Try.func15, Try.ntmps15
  go_wp2_with fail
  go_ret
  exact ⟨rfl, rfl⟩
end Go.Proofs.Ytkpmcakppiinlaa

/- Notices: rules, one notice, what is due; the generator of rules. Written by genntc.py. -/
namespace Go.Proofs.Ytkpmcakppiinlaa
open Go.RowKit

/-- Rules for notices: name, pay, step, late. -/
abbrev Nr := Int × Int × Int × Int
def nrC (x : Nr) : Array Value := #[.int .i64 x.1, .int .i64 x.2.1, .int .i64 x.2.2.1, .int .i64 x.2.2.2]
theorem nr_info (x : Nr) : (Try.prog.info? 27).map (·.size) = some (nrC x).size := (by kernel_rfl : (Try.prog.info? 27).map (·.size) = some 4)
def nrE (x : Nr) : Int := if inB x.1 0 4000 = false then 1 else if inB x.2.1 0 4000 = false then 1 else if inB x.2.2.1 1 4000 = false then 1 else if inB x.2.2.2 0 1000000 = false then 1 else 0
def NrPost (s K : Nat) (w : World) (e : Ending) (w' : World) : Prop :=
  ∃ x : Nr, e = .returned (.agg (nrC x)) ∧ SB w' s (K + 16) ∧ G w w' (some s)
theorem noticeRulesG_c_one (x : Nr) : (nrC x).all (·.oneCell') = true := by simp [nrC, Value.oneCell']
theorem noticeRulesG_c_fin {w w3 : World} {s K : Nat} {x : Nr} (hs : s < w.heap.size) (hSB : SB w3 s (K + 16)) (hG : G w w3 (some s)) :
    NrPost s K w (.returned (.agg (nrC x))) (w3.setRow w.heap.size (nrC x)) :=
  ⟨x, rfl, hSB.setRow hs _, hG.setRow (.inl (Nat.le_refl _)) _⟩
set_option maxRecDepth 100000 in
set_option maxHeartbeats 4000000 in
theorem noticeRulesG_c (w : World) (s : Nat) (K : Nat) (hs : SB w s K) (hk : K ≤ 900000000000) :
    Calls Try.prog 4 #[.pointer (some ⟨s, 0, none⟩)] w (NrPost s K w) := by
  have hslt := hs.lt
  go_enter Try.func4, Try.ntmps4
  go_wp2_with fail
  refine (pick_c _ _ _ [0, 10, 4000] _ _ K ((hs.alloc _).alloc _) (by omega) (by decide) (by decide) (Rd.newAt _ (by simp) rfl (by decide)) (hs.newAt _ _ _ (by omega))).mono ?_
  rintro e w1 ⟨a0, rfl, hp, hSB1, hG1⟩
  have hz1 : w.heap.size + 2 ≤ w1.heap.size := by have := hG1.size; simp at this; omega
  have hB1 := ((Bk.new w 27 #[.int .i64 0, .int .i64 0, .int .i64 0, .int .i64 0]).alloc (.cells _ 3)).grown hG1 (by simp; omega)
  have hG01 : G w w1 (some s) := (((G.refl w (some s)).alloc _).alloc _).trans hG1
  clear hG1 hp hz1
  go_wp2_with fail
  refine (pick_c _ _ _ [0, 14, 4000] _ _ _ (hSB1.alloc _) (by omega) (by decide) (by decide) (Rd.newAt _ rfl rfl (by decide)) (hSB1.newAt _ _ _ (Nat.le_refl _))).mono ?_
  rintro e w2 ⟨a1, rfl, hp, hSB2, hG2⟩
  have hB2 := (hB1.alloc (.cells _ 3)).grown hG2 (fun e => by have := Option.some.inj e; omega)
  have hG02 := (hG01.alloc _).trans hG2
  clear hG2 hp hB1 hG01 hSB1
  go_wp2_with fail
  refine (pick_c _ _ _ [1, 7, 4000] _ _ _ (hSB2.alloc _) (by omega) (by decide) (by decide) (Rd.newAt _ rfl rfl (by decide)) (hSB2.newAt _ _ _ (Nat.le_refl _))).mono ?_
  rintro e w3 ⟨a2, rfl, hp, hSB3, hG3⟩
  have hB3 := (hB2.alloc (.cells _ 3)).grown hG3 (fun e => by have := Option.some.inj e; omega)
  have hG03 := (hG02.alloc _).trans hG3
  clear hG3 hp hB2 hG02 hSB2
  go_wp2_with fail
  refine (pick_c _ _ _ [0, 500] _ _ _ (hSB3.alloc _) (by omega) (by decide) (by decide) (Rd.newAt _ rfl rfl (by decide)) (hSB3.newAt _ _ _ (Nat.le_refl _))).mono ?_
  rintro e w4 ⟨a3, rfl, hp, hSB4, hG4⟩
  have hB4 := (hB3.alloc (.cells _ 3)).grown hG4 (fun e => by have := Option.some.inj e; omega)
  have hG04 := (hG03.alloc _).trans hG4
  clear hG4 hp hB3 hG03 hSB3
  have hN5 := Bk.new w4 27 #[.int .i64 a0, .int .i64 a1, .int .i64 a2, .int .i64 a3]
  have hSB5 := hSB4.alloc (.cells #[.int .i64 a0, .int .i64 a1, .int .i64 a2, .int .i64 a3] 27)
  have hB5 := hB4.alloc (.cells #[.int .i64 a0, .int .i64 a1, .int .i64 a2, .int .i64 a3] 27)
  have hG05 := hG04.alloc (.cells #[.int .i64 a0, .int .i64 a1, .int .i64 a2, .int .i64 a3] 27)
  have hs7 := hSB4.lt
  have hl7 := hB4.lt
  have hgw : w.heap.size ≤ w4.heap.size := hG04.size
  clear hB4 hG04 hSB4
  go_wp2_with fail
  generalize w4.alloc (.cells #[.int .i64 a0, .int .i64 a1, .int .i64 a2, .int .i64 a3] 27) = w5 at hN5 hSB5 hB5 hG05 ⊢
  generalize w4.heap.size = g at hN5 hs7 hl7 hgw ⊢
  refine (flip_c _ _ _ _ hSB5 (by omega) (by omega)).mono ?_; rintro e w9 ⟨q, rfl, hSB9, hG9⟩
  have hN9 := hN5.grown hG9 (fun e => by have := Option.some.inj e; omega)
  have hB9 := hB5.grown hG9 (fun e => by have := Option.some.inj e; omega)
  have hG09 := hG05.trans hG9
  clear hN5 hB5 hG05 hG9 hSB5
  cases q with
  | false =>
    go_wp2_with (first | (refine wpList_load_row rfl 27 _ rfl g rfl 27 #[.int .i64 a0, .int .i64 a1, .int .i64 a2, .int .i64 a3] (0, 0) _ hN9 Try.underlying27 rfl (nr_info ⟨a0, a1, a2, a3⟩) ?_) | (refine wpList_store_row rfl 27 _ _ rfl w.heap.size #[.int .i64 a0, .int .i64 a1, .int .i64 a2, .int .i64 a3] rfl rfl 27 _ hB9 (nr_info ⟨a0, a1, a2, a3⟩) rfl (noticeRulesG_c_one ⟨a0, a1, a2, a3⟩) ?_) | (refine wpList_load_row rfl 27 _ rfl w.heap.size rfl 27 #[.int .i64 a0, .int .i64 a1, .int .i64 a2, .int .i64 a3] (0, 0) _ (hB9.setRow _) Try.underlying27 rfl (nr_info ⟨a0, a1, a2, a3⟩) ?_))
    refine bodyPost_ret (results_cell_row rfl _ _ w.heap.size 27 #[.int .i64 a0, .int .i64 a1, .int .i64 a2, .int .i64 a3] (0, 0) _ rfl (hB9.setRow _) Try.underlying27 rfl (nr_info ⟨a0, a1, a2, a3⟩)) rfl ?_
    exact noticeRulesG_c_fin (x := ⟨a0, a1, a2, a3⟩) hslt (hSB9.le (by omega)) hG09
  | true =>
    go_wp2_with fail
    refine (odd_c _ _ _ _ _ hSB9 (by omega) (by omega) (by omega) (by omega) (by omega)).mono ?_; rintro e wb ⟨b0, rfl, y0, y1, hSBb, hGb⟩
    have hNb := hN9.grown hGb (fun e => by have := Option.some.inj e; omega)
    have hBb := hB9.grown hGb (fun e => by have := Option.some.inj e; omega)
    have hG0b := hG09.trans hGb
    clear hN9 hB9 hG09 hGb hSB9 y0 y1
    go_wp2_with fail
    refine (odd_c _ _ _ _ _ hSBb (by omega) (by omega) (by omega) (by omega) (by omega)).mono ?_; rintro e wc ⟨b1, rfl, y0, y1, hSBc, hGc⟩
    have hNc := hNb.grown hGc (fun e => by have := Option.some.inj e; omega)
    have hBc := hBb.grown hGc (fun e => by have := Option.some.inj e; omega)
    have hG0c := hG0b.trans hGc
    clear hNb hBb hG0b hGc hSBb y0 y1
    go_wp2_with fail
    refine (odd_c _ _ _ _ _ hSBc (by omega) (by omega) (by omega) (by omega) (by omega)).mono ?_; rintro e wd ⟨b2, rfl, y0, y1, hSBd, hGd⟩
    have hNd := hNc.grown hGd (fun e => by have := Option.some.inj e; omega)
    have hBd := hBc.grown hGd (fun e => by have := Option.some.inj e; omega)
    have hG0d := hG0c.trans hGd
    clear hNc hBc hG0c hGd hSBc y0 y1
    go_wp2_with fail
    refine (odd_c _ _ _ _ _ hSBd (by omega) (by omega) (by omega) (by omega) (by omega)).mono ?_; rintro e we1 ⟨b3, rfl, y0, y1, hSBe1, hGe1⟩
    have hNe1 := hNd.grown hGe1 (fun e => by have := Option.some.inj e; omega)
    have hBe1 := hBd.grown hGe1 (fun e => by have := Option.some.inj e; omega)
    have hG0e1 := hG0d.trans hGe1
    clear hNd hBd hG0d hGe1 hSBd y0 y1
    have n0 : we1.cell? ⟨g, 0, none⟩ = some (.int .i64 a0) := hNe1.cell 0
    have n1 : we1.cell? ⟨g, 1, none⟩ = some (.int .i64 a1) := hNe1.cell 1
    have n2 : we1.cell? ⟨g, 2, none⟩ = some (.int .i64 a2) := hNe1.cell 2
    have n3 : we1.cell? ⟨g, 3, none⟩ = some (.int .i64 a3) := hNe1.cell 3
    have x0 := hNe1.free 0
    have x1 := hNe1.free 1
    have x2 := hNe1.free 2
    have x3 := hNe1.free 3
    go_upto_region 4 with fail
    have hNe : Bk ((((we1.setCell ⟨g, 0, none⟩ (.int .i64 b0)).setCell ⟨g, 1, none⟩ (.int .i64 b1)).setCell ⟨g, 2, none⟩ (.int .i64 b2)).setCell ⟨g, 3, none⟩ (.int .i64 b3)) g 27 #[.int .i64 b0, .int .i64 b1, .int .i64 b2, .int .i64 b3] := ((((hNe1.set 0 _).set 1 _).set 2 _).set 3 _)
    have hBe := ((((hBe1.far (p := ⟨g, 0, none⟩) (show w.heap.size ≠ g by omega) (.int .i64 b0)).far (p := ⟨g, 1, none⟩) (show w.heap.size ≠ g by omega) (.int .i64 b1)).far (p := ⟨g, 2, none⟩) (show w.heap.size ≠ g by omega) (.int .i64 b2)).far (p := ⟨g, 3, none⟩) (show w.heap.size ≠ g by omega) (.int .i64 b3))
    have hSBe := ((((hSBe1.setCell (p := ⟨g, 0, none⟩) hs7 (.int .i64 b0)).setCell (p := ⟨g, 1, none⟩) hs7 (.int .i64 b1)).setCell (p := ⟨g, 2, none⟩) hs7 (.int .i64 b2)).setCell (p := ⟨g, 3, none⟩) hs7 (.int .i64 b3))
    have hG0e := ((((hG0e1.setCell (p := ⟨g, 0, none⟩) (.inl hgw) (.int .i64 b0)).setCell (p := ⟨g, 1, none⟩) (.inl hgw) (.int .i64 b1)).setCell (p := ⟨g, 2, none⟩) (.inl hgw) (.int .i64 b2)).setCell (p := ⟨g, 3, none⟩) (.inl hgw) (.int .i64 b3))
    generalize ((((we1.setCell ⟨g, 0, none⟩ (.int .i64 b0)).setCell ⟨g, 1, none⟩ (.int .i64 b1)).setCell ⟨g, 2, none⟩ (.int .i64 b2)).setCell ⟨g, 3, none⟩ (.int .i64 b3)) = we at hNe hBe hSBe hG0e ⊢
    clear hNe1 hBe1 hSBe1 hG0e1 n0 n1 n2 n3 x0 x1 x2 x3
    go_wp2_with (first | (refine wpList_load_row rfl 27 _ rfl g rfl 27 #[.int .i64 b0, .int .i64 b1, .int .i64 b2, .int .i64 b3] (0, 0) _ hNe Try.underlying27 rfl (nr_info ⟨b0, b1, b2, b3⟩) ?_) | (refine wpList_store_row rfl 27 _ _ rfl w.heap.size #[.int .i64 b0, .int .i64 b1, .int .i64 b2, .int .i64 b3] rfl rfl 27 _ hBe (nr_info ⟨b0, b1, b2, b3⟩) rfl (noticeRulesG_c_one ⟨b0, b1, b2, b3⟩) ?_) | (refine wpList_load_row rfl 27 _ rfl w.heap.size rfl 27 #[.int .i64 b0, .int .i64 b1, .int .i64 b2, .int .i64 b3] (0, 0) _ (hBe.setRow _) Try.underlying27 rfl (nr_info ⟨b0, b1, b2, b3⟩) ?_))
    refine bodyPost_ret (results_cell_row rfl _ _ w.heap.size 27 #[.int .i64 b0, .int .i64 b1, .int .i64 b2, .int .i64 b3] (0, 0) _ rfl (hBe.setRow _) Try.underlying27 rfl (nr_info ⟨b0, b1, b2, b3⟩)) rfl ?_
    exact noticeRulesG_c_fin (x := ⟨b0, b1, b2, b3⟩) hslt (hSBe.le (by omega)) hG0e

set_option maxRecDepth 100000 in
set_option maxHeartbeats 4000000 in
theorem noticeRules_c (x : Nr) (w : World) : Calls Try.prog 7 #[.agg (nrC x)] w fun e w' => e = .returned (.int .i64 (nrE x)) ∧ G w w' none := by
  obtain ⟨a, b, c, d⟩ := x
  obtain ⟨E, hE⟩ : ∃ E, nrE (a, b, c, d) = E := ⟨_, rfl⟩
  have HE : Hid (E = if inB a 0 4000 = false then 1 else if inB b 0 4000 = false then 1 else if inB c 1 4000 = false then 1 else if inB d 0 1000000 = false then 1 else 0) := Lib.hid hE.symm
  rw [hE]
  clear hE
  have hB := Bk.new w 27 #[.int .i64 a, .int .i64 b, .int .i64 c, .int .i64 d]
  have hG := (G.refl w none).alloc (.cells #[.int .i64 a, .int .i64 b, .int .i64 c, .int .i64 d] 27)
  show Calls Try.prog 7 #[.agg #[.int .i64 a, .int .i64 b, .int .i64 c, .int .i64 d]] w _
  go_enter Try.func7, Try.ntmps7
  go_upto_region 1 with fail
  generalize w.alloc (.cells #[.int .i64 a, .int .i64 b, .int .i64 c, .int .i64 d] 27) = w1 at hB hG ⊢
  generalize w.heap.size = g at hB ⊢
  have c0 : w1.cell? ⟨g, 0, none⟩ = some (.int .i64 a) := hB.cell 0
  have c1 : w1.cell? ⟨g, 1, none⟩ = some (.int .i64 b) := hB.cell 1
  have c2 : w1.cell? ⟨g, 2, none⟩ = some (.int .i64 c) := hB.cell 2
  have c3 : w1.cell? ⟨g, 3, none⟩ = some (.int .i64 d) := hB.cell 3
  go_wp2_with fail
  refine (within_c a 0 4000 _).mono ?_; rintro e w' ⟨rfl, rfl⟩
  cases k0 : inB a 0 4000 with
  | false =>
    obtain rfl : E = 1 := by rw [HE.out, if_pos k0]
    clear k0
    go_wp2_with fail
    go_ret
    exact ⟨rfl, hG⟩
  | true =>
    have K0 := Lib.hid k0
    clear k0
    go_wp2_with fail
    refine (within_c b 0 4000 _).mono ?_; rintro e w' ⟨rfl, rfl⟩
    cases k1 : inB b 0 4000 with
    | false =>
      obtain rfl : E = 1 := by rw [HE.out, if_neg (by simp [K0.out]), if_pos k1]
      clear k1
      go_wp2_with fail
      go_ret
      exact ⟨rfl, hG⟩
    | true =>
      have K1 := Lib.hid k1
      clear k1
      go_wp2_with fail
      refine (within_c c 1 4000 _).mono ?_; rintro e w' ⟨rfl, rfl⟩
      cases k2 : inB c 1 4000 with
      | false =>
        obtain rfl : E = 1 := by rw [HE.out, if_neg (by simp [K0.out]), if_neg (by simp [K1.out]), if_pos k2]
        clear k2
        go_wp2_with fail
        go_ret
        exact ⟨rfl, hG⟩
      | true =>
        have K2 := Lib.hid k2
        clear k2
        go_wp2_with fail
        refine (isRate_c d _).mono ?_; rintro e w' ⟨rfl, rfl⟩
        cases k3 : inB d 0 1000000 with
        | false =>
          obtain rfl : E = 1 := by rw [HE.out, if_neg (by simp [K0.out]), if_neg (by simp [K1.out]), if_neg (by simp [K2.out]), if_pos k3]
          clear k3
          go_wp2_with fail
          go_ret
          exact ⟨rfl, hG⟩
        | true =>
          have K3 := Lib.hid k3
          clear k3
          obtain rfl : E = 0 := by rw [HE.out, if_neg (by simp [K0.out]), if_neg (by simp [K1.out]), if_neg (by simp [K2.out]), if_neg (by simp [K3.out])]
          go_wp2_with fail
          go_ret
          exact ⟨rfl, hG⟩
set_option maxRecDepth 100000 in
set_option maxHeartbeats 4000000 in
theorem checkNotice_c (k y : ByteArray) (t m c : Int) (v : Value) (w : World) (hv : ∃ g, v = .slice (some ⟨g, 0, none⟩) 1 1 ∧ Bk w g 31 #[.string k, .string y, .int .i64 t, .int .i64 m, .int .i64 c])
    (hk : keyB k = true) (hle : leB k ⟨#[]⟩ = false) (hy : plB y = true) (hm : momB m = true) (ht : inB t 0 m = true) (hc : inB c 0 1000000 = true) (hks : k.size ≤ 9223372036854775807) (hys : y.size ≤ 9223372036854775807) :
    Calls Try.prog 13 #[v] w fun e w' => e = .returned (.int .i64 0) ∧ G w w' none := by
  obtain ⟨g, rfl, hB⟩ := hv
  have CK := Lib.hid (fun w => isKey_c k w hks)
  have CY := Lib.hid (fun w => isPlate_c y w hys)
  have HK := Lib.hid hk
  have HY := Lib.hid hy
  have HM := Lib.hid hm
  have HT := Lib.hid ht
  have HC := Lib.hid hc
  clear hk hy hm ht hc hks hys
  unfold leB at hle
  go_enter Try.func13, Try.ntmps13
  go_wp2_with fail
  generalize (⟨#[]⟩ : ByteArray) = z at hle ⊢
  refine wp_loop_rounds 2 ?_
  rw [rounds_succ]
  have b0 : w.cell? ⟨g, 0, none⟩ = some (.string k) := hB.cell 0
  have b1 : w.cell? ⟨g, 1, none⟩ = some (.string y) := hB.cell 1
  have b2 : w.cell? ⟨g, 2, none⟩ = some (.int .i64 t) := hB.cell 2
  have b3 : w.cell? ⟨g, 3, none⟩ = some (.int .i64 m) := hB.cell 3
  have b4 : w.cell? ⟨g, 4, none⟩ = some (.int .i64 c) := hB.cell 4
  go_upto_region 7 with fail
  have hN := Bk.new w 31 #[.string k, .string y, .int .i64 t, .int .i64 m, .int .i64 c]
  have hG := (G.refl w none).alloc (.cells #[.string k, .string y, .int .i64 t, .int .i64 m, .int .i64 c] 31)
  clear b0 b1 b2 b3 b4
  generalize w.alloc (.cells #[.string k, .string y, .int .i64 t, .int .i64 m, .int .i64 c] 31) = w1 at hN hG ⊢
  generalize w.heap.size = n at hN ⊢
  have b0 : w1.cell? ⟨n, 0, none⟩ = some (.string k) := hN.cell 0
  have b1 : w1.cell? ⟨n, 1, none⟩ = some (.string y) := hN.cell 1
  have b2 : w1.cell? ⟨n, 2, none⟩ = some (.int .i64 t) := hN.cell 2
  have b3 : w1.cell? ⟨n, 3, none⟩ = some (.int .i64 m) := hN.cell 3
  have b4 : w1.cell? ⟨n, 4, none⟩ = some (.int .i64 c) := hN.cell 4
  go_wp2_with fail
  refine (CK.out _).mono ?_; rintro e w' ⟨rfl, rfl⟩
  rw [HK.out]
  go_wp2_with fail
  refine (CY.out _).mono ?_; rintro e w' ⟨rfl, rfl⟩
  rw [HY.out]
  go_wp2_with fail
  refine (isMoment_c _ _).mono ?_; rintro e w' ⟨rfl, rfl⟩
  rw [HM.out]
  go_wp2_with fail
  refine (within_c _ _ _ _).mono ?_; rintro e w' ⟨rfl, rfl⟩
  rw [HT.out]
  go_wp2_with fail
  refine (isRate_c _ _).mono ?_; rintro e w' ⟨rfl, rfl⟩
  rw [HC.out]
  go_wp2_with fail
  rw [rounds_succ]
  go_wp2_with fail
  go_ret
  exact ⟨rfl, hG⟩
/-- What is due. -/
def duV (x : Nr) (m c t : Int) : Int := c + x.2.2.2 * ((max 0 (t / 1440 - m / 1440 - x.2.1) + x.2.2.1 - 1) / x.2.2.1)
set_option maxRecDepth 100000 in
set_option maxHeartbeats 4000000 in
theorem due_c (a b s d : Int) (k y : ByteArray) (t m c u : Int) (w : World) (hk : keyB k = true) (hle : leB k ⟨#[]⟩ = false) (hy : plB y = true) (hm : momB m = true) (ht : inB t 0 m = true) (hc : inB c 0 1000000 = true) (hks : k.size ≤ 9223372036854775807) (hys : y.size ≤ 9223372036854775807) (hmu : m ≤ u) (hu : u < 5761440) :
    Calls Try.prog 6 #[.agg #[.int .i64 a, .int .i64 b, .int .i64 s, .int .i64 d], .agg #[.string k, .string y, .int .i64 t, .int .i64 m, .int .i64 c], .int .i64 u] w fun e w' => e = .returned (.tuple #[.int .i64 (if nrE (a, b, s, d) = 0 then duV (a, b, s, d) m c u else 0), .int .i64 (nrE (a, b, s, d))]) ∧ G w w' none := by
  have CR := Lib.hid (noticeRules_c (a, b, s, d))
  have CN := Lib.hid (fun v w hv => checkNotice_c k y t m c v w hv hk hle hy hm ht hc hks hys)
  have HU : Hid (momB u = true) := Lib.hid (by
    unfold momB at hm ⊢
    simp only [Bool.and_eq_true, decide_eq_true_eq] at hm ⊢
    omega)
  have HM : Hid (0 ≤ m) := Lib.hid (by unfold momB at hm; simp only [Bool.and_eq_true, decide_eq_true_eq] at hm; omega)
  have HC : Hid (0 ≤ c ∧ c ≤ 1000000) := Lib.hid (by unfold inB at hc; simpa using hc)
  have HR : Hid (nrE (a, b, s, d) = 0 → (0 ≤ b ∧ b ≤ 4000) ∧ (1 ≤ s ∧ s ≤ 4000) ∧ 0 ≤ d ∧ d ≤ 1000000) := Lib.hid (fun e => by
    unfold nrE at e
    dsimp only at e
    split at e
    · omega
    rename_i k0
    split at e
    · omega
    rename_i k1
    split at e
    · omega
    rename_i k2
    split at e
    · omega
    rename_i k3
    simp [inB] at k0 k1 k2 k3
    omega)
  obtain ⟨E, hE⟩ : ∃ E, nrE (a, b, s, d) = E := ⟨_, rfl⟩
  obtain ⟨DV, hDV⟩ : ∃ DV, (if nrE (a, b, s, d) = 0 then duV (a, b, s, d) m c u else 0) = DV := ⟨_, rfl⟩
  rw [hDV]
  rw [hE] at CR HR hDV ⊢
  have HD1 : Hid (E = 0 → DV = c + d * ((max 0 (u / 1440 - m / 1440 - b) + s - 1) / s)) := Lib.hid (fun e => by rw [← hDV, if_pos e]; rfl)
  have HD0 : Hid (E ≠ 0 → DV = 0) := Lib.hid (fun e => by rw [← hDV, if_neg e])
  clear hE hDV hk hle hy hm ht hc hks hys
  have hB := (Bk.new w 27 #[.int .i64 a, .int .i64 b, .int .i64 s, .int .i64 d]).alloc (.cells #[.string k, .string y, .int .i64 t, .int .i64 m, .int .i64 c] 31)
  have hN : Bk ((w.alloc (.cells #[.int .i64 a, .int .i64 b, .int .i64 s, .int .i64 d] 27)).alloc (.cells #[.string k, .string y, .int .i64 t, .int .i64 m, .int .i64 c] 31)) (w.heap.size + 1) 31 #[.string k, .string y, .int .i64 t, .int .i64 m, .int .i64 c] := Bk.newAt (by simp) _ _
  have hG := ((G.refl w none).alloc (.cells #[.int .i64 a, .int .i64 b, .int .i64 s, .int .i64 d] 27)).alloc (.cells #[.string k, .string y, .int .i64 t, .int .i64 m, .int .i64 c] 31)
  go_enter Try.func6, Try.ntmps6
  go_upto_region 1 with fail
  generalize (w.alloc (.cells #[.int .i64 a, .int .i64 b, .int .i64 s, .int .i64 d] 27)).alloc (.cells #[.string k, .string y, .int .i64 t, .int .i64 m, .int .i64 c] 31) = w1 at hB hN hG ⊢
  generalize w.heap.size + 1 = n at hN ⊢
  generalize w.heap.size = g at hB ⊢
  have c0 : w1.cell? ⟨g, 0, none⟩ = some (.int .i64 a) := hB.cell 0
  have c1 : w1.cell? ⟨g, 1, none⟩ = some (.int .i64 b) := hB.cell 1
  have c2 : w1.cell? ⟨g, 2, none⟩ = some (.int .i64 s) := hB.cell 2
  have c3 : w1.cell? ⟨g, 3, none⟩ = some (.int .i64 d) := hB.cell 3
  go_wp2_with fail
  refine (CR.out _).mono ?_; rintro e w2 ⟨rfl, hh⟩
  replace hB := hB.quiet hh
  replace hN := hN.quiet hh
  replace hG := hG.trans hh
  clear hh c0 c1 c2 c3
  by_cases hE0 : E = 0
  · subst hE0
    have HD := Lib.hid (HD1.out rfl)
    clear HD1 HD0
    obtain ⟨⟨b0, b1⟩, ⟨s0, s1⟩, d0, d1⟩ := HR.out rfl
    clear HR CR
    have n0 : w2.cell? ⟨n, 0, none⟩ = some (.string k) := hN.cell 0
    have n1 : w2.cell? ⟨n, 1, none⟩ = some (.string y) := hN.cell 1
    have n2 : w2.cell? ⟨n, 2, none⟩ = some (.int .i64 t) := hN.cell 2
    have n3 : w2.cell? ⟨n, 3, none⟩ = some (.int .i64 m) := hN.cell 3
    have n4 : w2.cell? ⟨n, 4, none⟩ = some (.int .i64 c) := hN.cell 4
    go_wp2_with fail
    refine (CN.out _ _ ⟨_, rfl, Bk.new _ _ _⟩).mono ?_; rintro e w3 ⟨rfl, hh⟩
    replace hB := (hB.alloc (.cells #[.string k, .string y, .int .i64 t, .int .i64 m, .int .i64 c] 31)).quiet hh
    replace hN := (hN.alloc (.cells #[.string k, .string y, .int .i64 t, .int .i64 m, .int .i64 c] 31)).quiet hh
    replace hG := (hG.alloc (.cells #[.string k, .string y, .int .i64 t, .int .i64 m, .int .i64 c] 31)).trans hh
    clear hh n0 n1 n2 n3 n4 CN
    go_wp2_with fail
    refine (isMoment_c _ _).mono ?_; rintro e w' ⟨rfl, rfl⟩
    rw [HU.out]
    have n3 : w3.cell? ⟨n, 3, none⟩ = some (.int .i64 m) := hN.cell 3
    have c1 : w3.cell? ⟨g, 1, none⟩ = some (.int .i64 b) := hB.cell 1
    have m0 := HM.out
    have hum : ¬ u < m := by omega
    go_upto_region 12 with fail
    have hu1 : u / 1440 ≤ 4001 := by omega
    have hu2 : 0 ≤ m / 1440 := by omega
    have hL0 : 0 ≤ max 0 (u / 1440 - m / 1440 - b) := by omega
    have hL1 : max 0 (u / 1440 - m / 1440 - b) ≤ 4001 := by omega
    generalize max 0 (u / 1440 - m / 1440 - b) = L at HD hL0 hL1 ⊢
    have CB := Lib.hid (fun w => begunP_c L s w hL0 (by omega) s0 (by omega))
    have hb0 : 0 ≤ (L + s - 1) / s := Int.ediv_nonneg (by omega) (by omega)
    have hb1 : (L + s - 1) / s ≤ 8001 := Int.le_trans (Int.ediv_le_self _ (by omega)) (by omega)
    generalize (L + s - 1) / s = Bg at HD CB hb0 hb1
    have hp0 : 0 ≤ d * Bg := Int.mul_nonneg d0 hb0
    have hp1 : d * Bg ≤ 1000000 * 8001 := Int.mul_le_mul d1 hb1 hb0 (by omega)
    obtain ⟨hc0, hc1⟩ := HC.out
    have q4 : w3.cell? ⟨n, 4, none⟩ = some (.int .i64 c) := hN.cell 4
    have q3 : w3.cell? ⟨g, 3, none⟩ = some (.int .i64 d) := hB.cell 3
    have q2 : w3.cell? ⟨g, 2, none⟩ = some (.int .i64 s) := hB.cell 2
    have hGd := hG.drew
    clear hB hN hG n3 c1 hu1 hu2 hL0 hL1 hum m0
    go_region_held3 (fun w' => w'.cell? ⟨n, 4, none⟩ = some (.int .i64 c) ∧ w'.cell? ⟨g, 3, none⟩ = some (.int .i64 d) ∧ w'.cell? ⟨g, 2, none⟩ = some (.int .i64 s)) (first | exact ⟨q4, q3, q2⟩ | go_keep) (first | (go_at_call 15; refine (CB.out _).mono ?_; rintro e w' ⟨rfl, rfl⟩))
    go_wp2_with fail
    go_ret2
    have hw1 : IntKind.i64.wrap (d * Bg) = d * Bg := by rw [IntKind.wrap_i64]; omega
    have hw2 : IntKind.i64.wrap (c + d * Bg) = c + d * Bg := by rw [IntKind.wrap_i64]; omega
    exact ⟨by rw [HD.out]; show Ending.returned (.tuple #[.int .i64 (IntKind.i64.wrap (c + IntKind.i64.wrap (d * Bg))), .int .i64 0]) = _; rw [hw1, hw2], hGd⟩
  · obtain rfl := HD0.out hE0
    have he : (E != 0) = true := bne_iff_ne.2 hE0
    clear HD0 HD1 HR hE0
    go_wp2_with fail
    go_ret2
    exact ⟨rfl, hG⟩
end Go.Proofs.Ytkpmcakppiinlaa

/- Odds: the numbers of cases, reckoned as the program does. No program. -/
namespace Go.Proofs.Ytkpmcakppiinlaa
open Go.RowKit

/-- The new numbers of cases after j of the old ones were spread. -/
def nx (c : List Int) (p : Int) : Nat → List Int
  | 0 => List.replicate (c.length + 1) 0
  | j + 1 => ((nx c p j).set j ((nx c p j).getD j 0 + c.getD j 0 * (100 - p))).set (j + 1) ((nx c p j).getD (j + 1) 0 + c.getD j 0 * p)
def cas (ps : List Int) : List Int := ps.foldl (fun c p => nx c p c.length) [1]
theorem nx_len (c : List Int) (p : Int) (j : Nat) : (nx c p j).length = c.length + 1 := by
  induction j with
  | zero => simp [nx]
  | succ j ih => simp [nx, ih]
theorem sum_set (l : List Int) : ∀ (i : Nat) (v : Int), i < l.length → (l.set i v).sum = l.sum + (v - l.getD i 0) := by
  induction l with
  | nil => intro i v h; simp at h
  | cons x r ih =>
    intro i v h
    cases i with
    | zero => simp; omega
    | succ i =>
      have := ih i v (by simpa using h)
      simp only [List.set_cons_succ, List.sum_cons, List.getD_cons_succ]
      omega
theorem gdset_ne (l : List Int) (i j : Nat) (v : Int) (h : i ≠ j) : (l.set i v).getD j 0 = l.getD j 0 := by
  simp [List.getD, h]
theorem take_sum (c : List Int) (j : Nat) (h : j < c.length) : (c.take (j + 1)).sum = (c.take j).sum + c.getD j 0 := by
  rw [List.take_succ_eq_append_getElem h, List.sum_append]
  simp [List.getD, h]
theorem nx_sum (c : List Int) (p : Int) (j : Nat) (h : j ≤ c.length) : (nx c p j).sum = 100 * (c.take j).sum := by
  induction j with
  | zero => simp [nx]
  | succ j ih =>
    have hl := nx_len c p j
    unfold nx
    rw [sum_set _ _ _ (by rw [List.length_set, hl]; omega), sum_set _ _ _ (by rw [hl]; omega), gdset_ne _ _ _ _ (by omega), ih (by omega), take_sum c j (by omega)]
    have : c.getD j 0 * (100 - p) + c.getD j 0 * p = 100 * c.getD j 0 := by rw [← Int.mul_add]; rw [show (100 - p + p : Int) = 100 by omega, Int.mul_comm]
    omega
def NN (c : List Int) : Prop := ∀ x ∈ c, 0 ≤ x
theorem NN.getD {c : List Int} (h : NN c) (j : Nat) : 0 ≤ c.getD j 0 := by
  unfold List.getD
  cases hc : c[j]? with
  | none => exact Int.le_refl 0
  | some x => exact h x (List.mem_of_getElem? hc)
theorem NN.set {c : List Int} (h : NN c) (i : Nat) {v : Int} (hv : 0 ≤ v) : NN (c.set i v) := fun x hx => by
  rcases List.mem_or_eq_of_mem_set hx with hx | rfl
  · exact h x hx
  · exact hv
theorem nx_nn {c : List Int} {p : Int} (hc : NN c) (h0 : 0 ≤ p) (h1 : p ≤ 100) (j : Nat) : NN (nx c p j) := by
  induction j with
  | zero => intro x hx; have := List.eq_of_mem_replicate hx; omega
  | succ j ih =>
    unfold nx
    refine NN.set (NN.set ih j ?_) (j + 1) ?_
    · exact Int.add_nonneg (ih.getD j) (Int.mul_nonneg (hc.getD j) (by omega))
    · exact Int.add_nonneg (ih.getD (j + 1)) (Int.mul_nonneg (hc.getD j) h0)
theorem NN.sum {c : List Int} (h : NN c) : 0 ≤ c.sum := by
  induction c with
  | nil => exact Int.le_refl 0
  | cons x r ih =>
    have h1 := h x (List.mem_cons_self ..)
    have h2 := ih fun y hy => h y (List.mem_cons_of_mem _ hy)
    simp only [List.sum_cons]
    omega
theorem NN.le_sum {c : List Int} (h : NN c) (j : Nat) : c.getD j 0 ≤ c.sum := by
  induction c generalizing j with
  | nil => simp
  | cons x r ih =>
    have h1 := h x (List.mem_cons_self ..)
    have hr : NN r := fun y hy => h y (List.mem_cons_of_mem _ hy)
    have h2 := hr.sum
    cases j with
    | zero => simp only [List.getD_cons_zero, List.sum_cons]; omega
    | succ j =>
      have := ih hr j
      simp only [List.getD_cons_succ, List.sum_cons]
      omega
theorem cas_snoc (ps : List Int) (p : Int) : cas (ps ++ [p]) = nx (cas ps) p (cas ps).length := by
  unfold cas
  rw [List.foldl_append]
  rfl
theorem cas_ok (ps : List Int) (h : ∀ p ∈ ps, 0 ≤ p ∧ p ≤ 100) : (cas ps).length = ps.length + 1 ∧ NN (cas ps) ∧ (cas ps).sum = 100 ^ ps.length := by
  have key : ∀ (n : Nat) (ps : List Int), ps.length = n → (∀ p ∈ ps, 0 ≤ p ∧ p ≤ 100) → (cas ps).length = ps.length + 1 ∧ NN (cas ps) ∧ (cas ps).sum = 100 ^ ps.length := by
    intro n
    induction n with
    | zero =>
      intro ps hn _
      obtain rfl := List.eq_nil_of_length_eq_zero hn
      refine ⟨rfl, ?_, rfl⟩
      intro x hx
      have := List.mem_singleton.1 (show x ∈ [1] from hx)
      omega
    | succ n ih =>
      intro ps hn h
      obtain ⟨qs, p, rfl⟩ : ∃ qs p, ps = qs ++ [p] := ⟨ps.dropLast, ps.getLast (by intro e; rw [e] at hn; simp at hn), (List.dropLast_concat_getLast _).symm⟩
      simp at hn
      obtain ⟨h1, h2, h3⟩ := ih qs hn (fun q hq => h q (by simp [hq]))
      obtain ⟨p0, p1⟩ := h p (by simp)
      rw [cas_snoc]
      refine ⟨by rw [nx_len, h1]; simp, nx_nn h2 p0 p1 _, ?_⟩
      rw [nx_sum _ _ _ (Nat.le_refl _), List.take_length, h3, List.length_append, List.length_singleton, Int.pow_succ, Int.mul_comm]
  exact key ps.length ps rfl h
/-- A row of ints. -/
def ic (l : List Int) : Array Value := (l.map (Value.int .i64)).toArray
theorem ic_at (l : List Int) (j : Nat) (h : j < l.length) : (ic l)[j]? = some (.int .i64 (l.getD j 0)) := by
  simp [ic, List.getD, h]
theorem ic_set (l : List Int) (j : Nat) (v : Int) : (ic l).setIfInBounds j (.int .i64 v) = ic (l.set j v) := by
  simp [ic, List.map_set]
theorem ic_size (l : List Int) : (ic l).size = l.length := by simp [ic]
end Go.Proofs.Ytkpmcakppiinlaa

/- mark.Split. Written by genspe.py. -/
namespace Go.Proofs.Ytkpmcakppiinlaa
open Go.RowKit

theorem cf_rest : ∀ (args : Array Value) (w : World), (callFunc 25 args).run Try.prog w = .ok (.enter 25 args) w := fun args w => by kernel_rfl
theorem cf_crest : ∀ (args : Array Value) (w : World), (callFunc 27 args).run Try.prog w = .ok (.enter 27 args) w := fun args w => by kernel_rfl
set_option maxRecDepth 100000 in
set_option maxHeartbeats 4000000 in
theorem crest_c (c : Int) (ws : List Int) (v : Value) (i j : Nat) (gC gW gS gF : Nat) (w : World) (he : spE c ws = 0) (hi : i < ws.length) (hj : j < ws.length) (hC : Bk w gC 3 #[.int .i64 c]) (hW : Bk w gW 22 #[v]) (hS : Bk w gS 3 #[.int .i64 ws.sum])
    (hF : Bk w gF 40 #[.func (.func 25) #[] #[.pointer (some ⟨gC, 0, none⟩), .pointer (some ⟨gW, 0, none⟩), .pointer (some ⟨gS, 0, none⟩)]]) (hr : RdI w v ws) :
    Calls Try.prog 27 #[.int .i64 i, .int .i64 j, .pointer (some ⟨gF, 0, none⟩)] w fun e w' => e = .returned (.int .i64 (cpI (restI c ws j) (restI c ws i))) ∧ G w w' none := by
  have hcf := cf_rest
  have hR := hr
  have hq := (G.refl w none).drew
  replace hC := hC.quiet hq
  replace hW := hW.quiet hq
  replace hS := hS.quiet hq
  replace hF := hF.quiet hq
  replace hR := Rd.quiet hR hq
  have hG := hq
  clear hr hq
  go_enter Try.func27, Try.ntmps27
  go_upto_region 1 with fail
  refine wp_region_held_drew (S := (fun w' : World => w'.cell? ⟨gF, 0, none⟩ = some (.func (.func 25) #[] #[.pointer (some ⟨gC, 0, none⟩), .pointer (some ⟨gW, 0, none⟩), .pointer (some ⟨gS, 0, none⟩)]))) (by kernel_rfl) ?_ (fun hHeld => ?_)
  · exact (hF.cell 0)
  refine wpAnyH_take (i := 0) (oi := { dst := some 6, op := Op.load 40 (Operand.tmp 2), type := 40, pos := _, after := #[], guard := none }) (v := ?_) rfl (by kernel_rfl) (by kernel_rfl) (by kernel_rfl) (fun _ _ _ h => h) (Or.inl ⟨by rfl, ?_⟩) (by assumption) ?_
  rotate_left
  · (intro w hSw; have z0 := hSw; clear hSw; (go_simp <;> with_reducible rfl))
  try simp only [Act.put, List.setIfInBounds_toArray, List.set_cons_zero, List.set_cons_succ]
  refine wpAnyH_take (i := 1) (oi := { dst := some 7, op := Op.move (Operand.tmp 1), type := 3, pos := _, after := #[], guard := none }) (v := ?_) rfl (by kernel_rfl) (by kernel_rfl) (by kernel_rfl) (fun _ _ _ h => h) (Or.inl ⟨by rfl, ?_⟩) (by assumption) ?_
  rotate_left
  · (intro w hSw; have z0 := hSw; clear hSw; (go_simp <;> with_reducible rfl))
  try simp only [Act.put, List.setIfInBounds_toArray, List.set_cons_zero, List.set_cons_succ]
  refine wpAnyH_take (i := 3) (oi := { dst := some 9, op := Op.load 40 (Operand.tmp 2), type := 40, pos := _, after := #[], guard := none }) (v := ?_) rfl (by kernel_rfl) (by kernel_rfl) (by kernel_rfl) (fun _ _ _ h => h) (Or.inl ⟨by rfl, ?_⟩) (by assumption) ?_
  rotate_left
  · (intro w hSw; have z0 := hSw; clear hSw; (go_simp <;> with_reducible rfl))
  try simp only [Act.put, List.setIfInBounds_toArray, List.set_cons_zero, List.set_cons_succ]
  refine wpAnyH_take (i := 4) (oi := { dst := some 10, op := Op.move (Operand.tmp 0), type := 3, pos := _, after := #[], guard := none }) (v := ?_) rfl (by kernel_rfl) (by kernel_rfl) (by kernel_rfl) (fun _ _ _ h => h) (Or.inl ⟨by rfl, ?_⟩) (by assumption) ?_
  rotate_left
  · (intro w hSw; have z0 := hSw; clear hSw; (go_simp <;> with_reducible rfl))
  try simp only [Act.put, List.setIfInBounds_toArray, List.set_cons_zero, List.set_cons_succ]
  refine wpAnyH_ready (rs := [2]) (by kernel_rfl) (by simp) ?_
  refine AllReadyH.cons (o := { dst := some 8, op := Op.call { callee := Callee.value (Operand.tmp 6), args := #[Operand.tmp 7], argTypes := #[3] }, type := 3, pos := _, after := #[{ on := 0, ground := Ground.data }, { on := 1, ground := Ground.data }], guard := none }) rfl (fun K hK => ?_) AllReadyH.nil
  go_simp
  refine (rest_c c ws v j gC gW gS _ he hj hC hW hS hR).mono ?_
  rintro e w3 ⟨rfl, hh⟩
  replace hC := hC.quiet hh
  replace hW := hW.quiet hh
  replace hS := hS.quiet hh
  replace hF := hF.quiet hh
  replace hR := Rd.quiet hR hh
  replace hG := hG.trans hh
  clear hh
  refine hK.out _ _ ?_ (fun hHeld => ?_)
  · exact (hF.cell 0)
  clear hK K
  try simp only [Act.put, List.setIfInBounds_toArray, List.set_cons_zero, List.set_cons_succ]
  refine wpAnyH_ready (rs := [5]) (by kernel_rfl) (by simp) ?_
  refine AllReadyH.cons (o := { dst := some 11, op := Op.call { callee := Callee.value (Operand.tmp 9), args := #[Operand.tmp 10], argTypes := #[3] }, type := 3, pos := _, after := #[{ on := 3, ground := Ground.data }, { on := 4, ground := Ground.data }, { on := 2, ground := Ground.chain }], guard := none }) rfl (fun K hK => ?_) AllReadyH.nil
  go_simp
  refine (rest_c c ws v i gC gW gS _ he hi hC hW hS hR).mono ?_
  rintro e w4 ⟨rfl, hh⟩
  replace hC := hC.quiet hh
  replace hW := hW.quiet hh
  replace hS := hS.quiet hh
  replace hF := hF.quiet hh
  replace hR := Rd.quiet hR hh
  replace hG := hG.trans hh
  clear hh
  refine hK.out _ _ ?_ (fun hHeld => ?_)
  · exact (hF.cell 0)
  clear hK K
  try simp only [Act.put, List.setIfInBounds_toArray, List.set_cons_zero, List.set_cons_succ]
  refine wpAnyH_ready (rs := [6]) (by kernel_rfl) (by simp) ?_
  refine AllReadyH.cons (o := { dst := some 12, op := Op.call { callee := Callee.value (Operand.func 28), args := #[Operand.tmp 8, Operand.tmp 11], argTypes := #[3, 3] }, type := 3, pos := _, after := #[{ on := 2, ground := Ground.data }, { on := 5, ground := Ground.data }, { on := 5, ground := Ground.chain }], guard := none }) rfl (fun K hK => ?_) AllReadyH.nil
  go_simp
  refine (compareI_c _ _ _).mono ?_
  rintro e w' ⟨rfl, rfl⟩
  refine hK.out _ _ ?_ (fun hHeld => ?_)
  · exact (hF.cell 0)
  clear hK K
  try simp only [Act.put, List.setIfInBounds_toArray, List.set_cons_zero, List.set_cons_succ]
  refine wpAnyH_take (i := 7) (oi := { dst := some 5, op := Op.assign (Operand.tmp 12), type := 3, pos := _, after := #[{ on := 6, ground := Ground.data }, { on := 6, ground := Ground.chain }, { on := 0, ground := Ground.phase }, { on := 1, ground := Ground.phase }, { on := 2, ground := Ground.phase }, { on := 3, ground := Ground.phase }, { on := 4, ground := Ground.phase }, { on := 5, ground := Ground.phase }, { on := 6, ground := Ground.phase }], guard := none }) (v := ?_) rfl (by kernel_rfl) (by kernel_rfl) (by kernel_rfl) (fun _ _ _ h => h) (Or.inl ⟨by rfl, ?_⟩) (by assumption) ?_
  rotate_left
  · (intro w hSw; have z0 := hSw; clear hSw; (go_simp <;> with_reducible rfl))
  try simp only [Act.put, List.setIfInBounds_toArray, List.set_cons_zero, List.set_cons_succ]
  refine wpAnyH_done (by kernel_rfl) ?_ _
  clear hHeld
  go_wp2_with fail
  go_ret
  exact ⟨rfl, hG⟩
theorem mkCells (n : Nat) : madeCells (Value.cells (.int .i64 0)) n = ic (List.replicate n 0) := by
  apply Array.ext
  · simp [madeCells, ic]
  · intro k h1 h2
    simp [madeCells, ic, Value.cells, Nat.mod_one]
theorem mkInts (n : Nat) (hn : n ≤ 1000) (w : World) : (Instr.makeSlice 22 (.int .i64 (n : Int)) (.int .i64 (n : Int))).run Try.prog w = .ok (.slice (some ⟨w.heap.size, 0, none⟩) n n) (w.alloc (.cells (ic (List.replicate n 0)) 3)) := by
  obtain ⟨i0, hi, hz0, hz1, hz2⟩ := info_parts (show (Try.prog.info? 3).map (fun i => (i.zero, i.size, i.bytes)) = some (some (.int .i64 0), 1, 8) by kernel_rfl)
  have h := run_make (P := Try.prog) w 22 3 i0 (.int .i64 0) Try.underlying22 hi hz0 .i64 .i64 n n (by omega) (by omega) (by rw [hz2]; omega) (by omega)
  rw [h, hz1, Int.toNat_natCast, Nat.mul_one, mkCells]
def flI (c : Int) (ws : List Int) (i : Nat) : Int := c * ws.getD i 0 / ws.sum
def pK (c : Int) (ws : List Int) (k : Nat) : List Int := (List.range ws.length).map fun i => if i < k then flI c ws i else 0
def oK (n k : Nat) : List Int := (List.range n).map fun i => if i < k then (i : Int) else 0
def lK (c : Int) (ws : List Int) (k : Nat) : Int := c - ((List.range k).map (flI c ws)).sum
theorem pK_len (c : Int) (ws : List Int) (k : Nat) : (pK c ws k).length = ws.length := by simp [pK]
theorem oK_len (n k : Nat) : (oK n k).length = n := by simp [oK]
theorem pK_0 (c : Int) (ws : List Int) : pK c ws 0 = List.replicate ws.length 0 := by
  apply List.ext_getElem <;> simp [pK]
theorem oK_0 (n : Nat) : oK n 0 = List.replicate n 0 := by
  apply List.ext_getElem <;> simp [oK]
theorem pK_step (c : Int) (ws : List Int) (k : Nat) : (pK c ws k).set k (flI c ws k) = pK c ws (k + 1) := by
  apply List.ext_getElem
  · simp [pK]
  · intro i h1 h2
    simp only [pK, List.getElem_set, List.getElem_map, List.getElem_range]
    by_cases h : k = i
    · rw [if_pos h, if_pos (by omega), h]
    · rw [if_neg h]
      by_cases q : i < k
      · rw [if_pos q, if_pos (by omega)]
      · rw [if_neg q, if_neg (by omega)]
theorem oK_step (n k : Nat) : (oK n k).set k (k : Int) = oK n (k + 1) := by
  apply List.ext_getElem
  · simp [oK]
  · intro i h1 h2
    simp only [oK, List.getElem_set, List.getElem_map, List.getElem_range]
    by_cases h : k = i
    · rw [if_pos h, if_pos (by omega), h]
    · rw [if_neg h]
      by_cases q : i < k
      · rw [if_pos q, if_pos (by omega)]
      · rw [if_neg q, if_neg (by omega)]
theorem lK_step (c : Int) (ws : List Int) (k : Nat) : lK c ws (k + 1) = lK c ws k - flI c ws k := by
  unfold lK
  rw [List.range_succ, List.map_append, List.sum_append]
  simp
  omega
theorem fl_bnd {c : Int} {ws : List Int} (he : spE c ws = 0) (i : Nat) : 0 ≤ flI c ws i ∧ flI c ws i ≤ 5761440000000000 := by
  obtain ⟨h1, h2, h3, h4⟩ := spE_ok he
  have hs := (spA_bnd h3).1
  have hg : 0 ≤ ws.getD i 0 ∧ ws.getD i 0 ≤ 5761440 := by
    rw [List.getD_eq_getElem?_getD]
    cases hp : ws[i]? with
    | none => simp
    | some p => have := h3 p (List.mem_of_getElem? hp); unfold inB at this; simpa using this
  have hp1 : 0 ≤ c * ws.getD i 0 := Int.mul_nonneg h1.1 hg.1
  have hp2 : c * ws.getD i 0 ≤ 1000000000 * 5761440 := Int.mul_le_mul h1.2 hg.2 hg.1 (by omega)
  unfold flI
  refine ⟨Int.ediv_nonneg hp1 hs, ?_⟩
  have := Int.ediv_le_self (ws.sum) hp1
  omega
theorem lK_bnd {c : Int} {ws : List Int} (he : spE c ws = 0) : ∀ k : Nat, k ≤ 1000 → -(5761440000000000 * (k : Int)) ≤ lK c ws k ∧ lK c ws k ≤ 1000000000
  | 0, _ => by have := (spE_ok he).1; unfold lK; simp; omega
  | k + 1, h => by
    have ih := lK_bnd he k (by omega)
    have q := fl_bnd he k
    rw [lK_step]
    push_cast
    omega
theorem sum_mul (c : Int) : ∀ l : List Int, (l.map (c * ·)).sum = c * l.sum
  | [] => by simp
  | x :: r => by simp only [List.map_cons, List.sum_cons, sum_mul c r]; rw [Int.mul_add]
theorem map_getD (ws : List Int) (f : Int → Int) : (List.range ws.length).map (fun i => f (ws.getD i 0)) = ws.map f := by
  apply List.ext_getElem
  · simp
  · intro i h1 h2
    simp at h1
    simp [List.getD, h1]
theorem own_bk {w : World} {g base n : Nat} {l : List Int} (h : Bk w g 3 (ic l)) (hb : base ≤ g) (hn : l.length = n) (hm : n ≤ 1000) : OwnIn w base (.slice (some ⟨g, 0, none⟩) n n) l := by
  subst hn
  have hsz : (ic l).size = l.length := by simp [ic]
  refine ⟨by rw [rowL_len inC_sz], .inr ⟨g, l.length, ic l, rfl, hb, h, Nat.le_refl _, by unfold maxLen; omega, by rw [hsz, Nat.mul_one], ?_⟩⟩
  rw [in_rowL, Nat.mul_one]
  have e : (ic l).toList = l.map (Value.int .i64) := by simp [ic]
  rw [e, List.take_of_length_le (by simp)]
theorem oK_mem {n : Nat} {z : Int} (h : z ∈ oK n n) : ∃ i : Nat, i < n ∧ z = (i : Int) := by
  unfold oK at h
  obtain ⟨i, hi, rfl⟩ := List.mem_map.1 h
  have := List.mem_range.1 hi
  exact ⟨i, this, by rw [if_pos this]⟩
theorem insJ_mem {α : Type} (c : α → α → Bool) : ∀ (j : Nat) (l : List α), ∀ z ∈ insJ c j l, z ∈ l
  | 0, _, _, h => h
  | j + 1, l, z, h => by
    unfold insJ at h
    split at h
    · next x y hx hy =>
      split at h
      · have h2 := insJ_mem c j _ z h
        rcases List.mem_or_eq_of_mem_set h2 with h2 | rfl
        · rcases List.mem_or_eq_of_mem_set h2 with h2 | rfl
          · exact h2
          · exact List.mem_of_getElem? hy
        · exact List.mem_of_getElem? hx
      · exact h
    · exact h
theorem isF_mem {α : Type} (c : α → α → Bool) : ∀ (n i : Nat) (l : List α), ∀ z ∈ isF c n i l, z ∈ l
  | 0, _, _, _, h => h
  | n + 1, i, l, z, h => insJ_mem c i l z (isF_mem c n (i + 1) _ z h)
theorem isrt_mem {α : Type} (c : α → α → Bool) (l : List α) : ∀ z ∈ isrt c l, z ∈ l := isF_mem c _ _ l
/-- What is left is no more than there are parts. -/
theorem lf_bnd {c : Int} {ws : List Int} (he : spE c ws = 0) : 0 ≤ lK c ws ws.length ∧ lK c ws ws.length ≤ (ws.length : Int) := by
  obtain ⟨h1, h2, h3, h4⟩ := spE_ok he
  have hs := spA_bnd h3
  have hs0 : 0 < ws.sum := by omega
  have hfl : (List.range ws.length).map (flI c ws) = ws.map (fun x => c * x / ws.sum) := map_getD ws (fun x => c * x / ws.sum)
  have key : ∀ l : List Int, ws.sum * (l.map (fun x => c * x / ws.sum)).sum ≤ c * l.sum ∧ c * l.sum ≤ ws.sum * (l.map (fun x => c * x / ws.sum)).sum + ws.sum * (l.length : Int) := by
    intro l
    induction l with
    | nil => simp
    | cons x r ih =>
      have e1 := Int.emod_nonneg (c * x) (show ws.sum ≠ 0 by omega)
      have e2 := Int.emod_lt_of_pos (c * x) hs0
      have e3 := Int.mul_ediv_add_emod (c * x) ws.sum
      simp only [List.map_cons, List.sum_cons, List.length_cons]
      rw [Int.mul_add, Int.mul_add]
      push_cast
      rw [Int.mul_add]
      omega
  have k1 := key ws
  unfold lK
  rw [hfl]
  obtain ⟨a1, a2⟩ := k1
  generalize (ws.map (fun x => c * x / ws.sum)).sum = F at a1 a2 ⊢
  have b1 : ws.sum * F ≤ ws.sum * c := by rw [Int.mul_comm ws.sum c]; exact a1
  have b2 : ws.sum * c ≤ ws.sum * (F + (ws.length : Int)) := by rw [Int.mul_add, Int.mul_comm ws.sum c]; exact a2
  have c1 := Int.le_of_mul_le_mul_left b1 hs0
  have c2 := Int.le_of_mul_le_mul_left b2 hs0
  omega
/-- The order in which parts get one more. -/
def spO (c : Int) (ws : List Int) : List Int := isrt (fun x y : Int => decide (cpI (restI c ws y.toNat) (restI c ws x.toNat) < 0)) (oK ws.length ws.length)
def incI (l : List Int) (i : Int) : List Int := l.set i.toNat (l.getD i.toNat 0 + 1)
def spP (c : Int) (ws : List Int) : List Int := ((spO c ws).take (lK c ws ws.length).toNat).foldl incI (pK c ws ws.length)
def SpRel (w : World) (c : Int) (v : Value) (ws : List Int) (gC gW gS gP gO : Nat) (s10 s34 : Value) (wr : World) : Prop :=
  ∃ k : Nat, k ≤ ws.length ∧ s34 = .int .i64 k ∧ s10 = .int .i64 (lK c ws k) ∧ Bk wr gP 3 (ic (pK c ws k)) ∧ Bk wr gO 3 (ic (oK ws.length k)) ∧ Bk wr gC 3 #[.int .i64 c] ∧ Bk wr gW 22 #[v] ∧ Bk wr gS 3 #[.int .i64 ws.sum] ∧ G w wr none
def SqRel (w : World) (gP base n lf : Nat) (SO P0 : List Int) (s66 : Value) (wr : World) : Prop :=
  ∃ (k : Nat) (P : List Int), k ≤ lf ∧ s66 = .int .i64 k ∧ (SO.take k).foldl incI P0 = P ∧ P.length = n ∧ (∀ i : Nat, 0 ≤ P.getD i 0 ∧ P.getD i 0 ≤ 5761440000000000 + (k : Int)) ∧ Bk wr gP 3 (ic P) ∧ OwnIn wr base (.slice (some ⟨base, 0, none⟩) n n) SO ∧ G w wr none
theorem pK_bnd {c : Int} {ws : List Int} (he : spE c ws = 0) (i : Nat) : 0 ≤ (pK c ws ws.length).getD i 0 ∧ (pK c ws ws.length).getD i 0 ≤ 5761440000000000 := by
  rw [List.getD_eq_getElem?_getD]
  cases h : (pK c ws ws.length)[i]? with
  | none => simp
  | some z =>
    have hm := List.mem_of_getElem? h
    unfold pK at hm
    obtain ⟨j, hj, rfl⟩ := List.mem_map.1 hm
    rw [if_pos (List.mem_range.1 hj)]
    exact fl_bnd he j
set_option maxRecDepth 100000 in
set_option maxHeartbeats 8000000 in
theorem split_c (c : Int) (v : Value) (ws : List Int) (w : World) (hr : RdI w v ws) (hn : ws.length < 20) :
    Calls Try.prog 18 #[.int .i64 c, v] w fun e w' => ∃ v', e = .returned (.tuple #[v', .int .i64 (spE c ws)]) ∧ RdI w' v' (if spE c ws = 0 then spP c ws else []) ∧ G w w' none := by
  obtain ⟨a, cap, rfl, hcap, hm⟩ := RdR.form hr
  have hC := (Bk.new w 3 #[.int .i64 c]).alloc (.cells #[.slice a ws.length cap] 22)
  have hW := Bk.newAt (w := w.alloc (.cells #[.int .i64 c] 3)) (b := w.heap.size + 1) (by simp) 22 #[.slice a ws.length cap]
  have hG := ((G.refl w none).alloc (.cells #[.int .i64 c] 3)).alloc (.cells #[.slice a ws.length cap] 22)
  have HR := Lib.hid hr
  obtain ⟨RS, hRS⟩ : ∃ RS, (if spE c ws = 0 then spP c ws else []) = RS := ⟨_, rfl⟩
  have HRS := Lib.hid hRS
  rw [hRS]
  clear hRS hr
  obtain ⟨E, hE⟩ : ∃ E, spE c ws = E := ⟨_, rfl⟩
  have HE := Lib.hid hE
  rw [hE]
  clear hE
  go_enter Try.func18, Try.ntmps18
  go_upto_region 1 with fail
  generalize (w.alloc (.cells #[.int .i64 c] 3)).alloc (.cells #[.slice a ws.length cap] 22) = w2 at hC hW hG ⊢
  have c0 : w2.cell? ⟨w.heap.size, 0, none⟩ = some (.int .i64 c) := hC.cell 0
  have c1 : w2.cell? ⟨w.heap.size + 1, 0, none⟩ = some (.slice a ws.length cap) := hW.cell 0
  go_wp2_with fail
  refine (checkSplit_c c _ ws _ (Rd.quiet HR.out hG) (by omega)).mono ?_; rintro e w3 ⟨rfl, hh⟩
  rw [HE.out]
  have hC3 := (hC.quiet hh).alloc (.cells #[.int .i64 (spS c ws)] 3)
  have hW3 := (hW.quiet hh).alloc (.cells #[.int .i64 (spS c ws)] 3)
  have hS3 := Bk.new w3 3 #[.int .i64 (spS c ws)]
  have hG3 := (hG.trans hh).alloc (.cells #[.int .i64 (spS c ws)] 3)
  have hlt3 : w.heap.size + 1 < w3.heap.size := (hW.quiet hh).lt
  clear hC hW hG hh c0 c1
  go_upto_region 2 with fail
  generalize w3.alloc (.cells #[.int .i64 (spS c ws)] 3) = w4 at hC3 hW3 hS3 hG3 ⊢
  generalize w3.heap.size = gS at hS3 hlt3 ⊢
  by_cases k1 : E = 0
  · subst k1
    have hsum : spS c ws = ws.sum := by unfold spS; rw [if_pos HE.out]
    rw [hsum] at hS3
    have HRP : Hid (RS = spP c ws) := Lib.hid (by rw [← HRS.out, if_pos HE.out])
    clear hsum HRS
    have c1 : w4.cell? ⟨w.heap.size + 1, 0, none⟩ = some (.slice a ws.length cap) := hW3.cell 0
    have c0 : w4.cell? ⟨w.heap.size, 0, none⟩ = some (.int .i64 c) := hC3.cell 0
    have hmk := fun w => mkInts ws.length (by omega) w
    have hlt4 := hS3.lt
    have hP5 := (Bk.new w4 3 (ic (List.replicate ws.length 0))).alloc (.cells (ic (List.replicate ws.length 0)) 3)
    have hO5 := Bk.newAt (w := w4.alloc (.cells (ic (List.replicate ws.length 0)) 3)) (b := w4.heap.size + 1) (by simp) 3 (ic (List.replicate ws.length 0))
    have hC5 := (hC3.alloc (.cells (ic (List.replicate ws.length 0)) 3)).alloc (.cells (ic (List.replicate ws.length 0)) 3)
    have hW5 := (hW3.alloc (.cells (ic (List.replicate ws.length 0)) 3)).alloc (.cells (ic (List.replicate ws.length 0)) 3)
    have hS5 := (hS3.alloc (.cells (ic (List.replicate ws.length 0)) 3)).alloc (.cells (ic (List.replicate ws.length 0)) 3)
    have hG5 := (hG3.alloc (.cells (ic (List.replicate ws.length 0)) 3)).alloc (.cells (ic (List.replicate ws.length 0)) 3)
    have c1a : (w4.alloc (.cells (ic (List.replicate ws.length 0)) 3)).cell? ⟨w.heap.size + 1, 0, none⟩ = some (.slice a ws.length cap) := (hW3.alloc (.cells (ic (List.replicate ws.length 0)) 3)).cell 0
    go_upto_region 6 with fail
    clear c0 c1 c1a hmk
    generalize (w4.alloc (.cells (ic (List.replicate ws.length 0)) 3)).alloc (.cells (ic (List.replicate ws.length 0)) 3) = w5 at hP5 hO5 hC5 hW5 hS5 hG5 ⊢
    have hgw := hG3.size
    generalize w4.heap.size = gP at hP5 hO5 hlt4 hgw ⊢
    rw [← pK_0 c ws] at hP5
    rw [← oK_0 ws.length] at hO5
    clear hC3 hW3 hS3 hG3
    have c0 : w5.cell? ⟨w.heap.size, 0, none⟩ = some (.int .i64 c) := hC5.cell 0
    have c1 : w5.cell? ⟨w.heap.size + 1, 0, none⟩ = some (.slice a ws.length cap) := hW5.cell 0
    go_wp2_with fail
    go_loopw [10, 34] (SpRel w c (.slice a ws.length cap) ws w.heap.size (w.heap.size + 1) gS gP (gP + 1)) (fun _ i _ => ws.length - (intOf i).toNat)
    case atStart => exact ⟨0, by omega, rfl, by rw [show lK c ws 0 = c by simp [lK]], hP5, hO5, hC5, hW5, hS5, hG5⟩
    case round =>
      clear c0 c1 hP5 hO5 hC5 hW5 hS5 hG5
      obtain ⟨k, hk, rfl, rfl, hP, hO, hC, hW, hS, hG⟩ := hrel
      by_cases hlt : k < ws.length
      · obtain ⟨p, hp⟩ : ∃ p, ws[k]? = some p := ⟨_, List.getElem?_eq_getElem hlt⟩
        obtain ⟨h1, h2, h3, h4⟩ := spE_ok HE.out
        have hpb : 0 ≤ p ∧ p ≤ 5761440 := by have := h3 p (List.mem_of_getElem? hp); unfold inB at this; simpa using this
        have hfl : flI c ws k = c * p / ws.sum := by unfold flI; rw [List.getD_eq_getElem?_getD, hp]; rfl
        obtain ⟨bb, bo, rfl, -, -⟩ := RdR.elem inC_sz HR.out hG hp
        have hc := RdR.cell inC_sz HR.out hG hp 0 (.int .i64 p) rfl
        simp only [Nat.add_zero, Nat.mul_one] at hc
        have hsb := (spA_bnd h3)
        have hp1 : 0 ≤ c * p := Int.mul_nonneg h1.1 hpb.1
        have hp2 : c * p ≤ 1000000000 * 5761440 := Int.mul_le_mul h1.2 hpb.2 hpb.1 (by omega)
        have hfb := fl_bnd HE.out k
        have hlb := lK_bnd HE.out k (by omega)
        have HST := Lib.hid (lK_step c ws k)
        have HPS := Lib.hid (pK_step c ws k)
        have HOS := Lib.hid (oK_step ws.length k)
        have HGP : Hid ((pK c ws (k + 1)).getD k 0 = flI c ws k) := Lib.hid (by simp [pK, List.getD, hlt])
        obtain ⟨fl, hfl2⟩ : ∃ fl, flI c ws k = fl := ⟨_, rfl⟩
        rw [hfl2] at hfl hfb HST HPS HGP
        clear hfl2
        obtain ⟨s, hse⟩ : ∃ s, ws.sum = s := ⟨_, rfl⟩
        rw [hse] at hfl hsb h4 hS
        have HSE := Lib.hid hse
        clear hse
        obtain ⟨m, hm2⟩ : ∃ m, c * p = m := ⟨_, rfl⟩
        have hw1 : IntKind.i64.wrap (c * p) = m := by rw [hm2, IntKind.wrap_i64]; omega
        rw [hm2] at hp1 hp2 hfl
        have htd : m.tdiv s = fl := by rw [Int.tdiv_eq_ediv_of_nonneg hp1, hfl]
        have hed : m / s = fl := hfl.symm
        have hwf : IntKind.i64.wrap fl = fl := by rw [IntKind.wrap_i64]; omega
        have hwl : IntKind.i64.wrap (lK c ws k - fl) = lK c ws (k + 1) := by rw [HST.out, IntKind.wrap_i64]; omega
        have hsn : ¬ s = 0 := by omega
        have HK := Lib.hid hlt
        have hki : (k : Int) < (ws.length : Int) := by omega
        have k0 : (0 : Int) ≤ (k : Int) := by omega
        have d0 : wr.cell? ⟨w.heap.size, 0, none⟩ = some (.int .i64 c) := hC.cell 0
        have d1 : wr.cell? ⟨gS, 0, none⟩ = some (.int .i64 s) := hS.cell 0
        have d2 : wr.cell? ⟨gP, k, none⟩ = some (.int .i64 ((pK c ws k).getD k 0)) := (hP.cell k).trans (ic_at _ k (by rw [pK_len]; omega))
        have d3 := hP.free k
        clear hp h1 h2 h3 h4 hpb hsb hp1 hp2 hfb hlb hm2 hfl
        go_upto_region 11 with fail
        have hne : ∀ g, g ≠ gP → g ≠ (⟨gP, k, none⟩ : Addr).block := fun g h => h
        have hP6 : Bk (wr.setCell ⟨gP, k, none⟩ (.int .i64 fl)) gP 3 (ic (pK c ws (k + 1))) := by
          have h := hP.set k (.int .i64 fl)
          rw [ic_set, HPS.out] at h
          exact h
        have hO6 := hO.far (p := ⟨gP, k, none⟩) (show gP + 1 ≠ gP by omega) (.int .i64 fl)
        have hC6 := hC.far (p := ⟨gP, k, none⟩) (show w.heap.size ≠ gP by omega) (.int .i64 fl)
        have hW6 := hW.far (p := ⟨gP, k, none⟩) (show w.heap.size + 1 ≠ gP by omega) (.int .i64 fl)
        have hS6 := hS.far (p := ⟨gP, k, none⟩) (show gS ≠ gP by omega) (.int .i64 fl)
        have hG6 := hG.setCell (p := ⟨gP, k, none⟩) (.inl (show w.heap.size ≤ gP by omega)) (.int .i64 fl)
        clear d0 d1 d2 d3 hP hO hC hW hS hG hne hc
        generalize wr.setCell ⟨gP, k, none⟩ (.int .i64 fl) = w6 at hP6 hO6 hC6 hW6 hS6 hG6 ⊢
        have d2 : w6.cell? ⟨gP, k, none⟩ = some (.int .i64 fl) := by
          have h := (hP6.cell k).trans (ic_at _ k (by rw [pK_len]; omega))
          rwa [HGP.out] at h
        have d3 : w6.cell? ⟨gP + 1, k, none⟩ = some (.int .i64 ((oK ws.length k).getD k 0)) := (hO6.cell k).trans (ic_at _ k (by rw [oK_len]; omega))
        have d4 := hO6.free k
        go_upto_region 13 with fail
        have hO7 : Bk (w6.setCell ⟨gP + 1, k, none⟩ (.int .i64 k)) (gP + 1) 3 (ic (oK ws.length (k + 1))) := by
          have h := hO6.set k (.int .i64 k)
          rw [ic_set, HOS.out] at h
          exact h
        have hP7 := hP6.far (p := ⟨gP + 1, k, none⟩) (show gP ≠ gP + 1 by omega) (.int .i64 k)
        have hC7 := hC6.far (p := ⟨gP + 1, k, none⟩) (show w.heap.size ≠ gP + 1 by omega) (.int .i64 k)
        have hW7 := hW6.far (p := ⟨gP + 1, k, none⟩) (show w.heap.size + 1 ≠ gP + 1 by omega) (.int .i64 k)
        have hS7 := hS6.far (p := ⟨gP + 1, k, none⟩) (show gS ≠ gP + 1 by omega) (.int .i64 k)
        have hG7 := hG6.setCell (p := ⟨gP + 1, k, none⟩) (.inl (show w.heap.size ≤ gP + 1 by omega)) (.int .i64 k)
        clear d2 d3 d4 hP6 hO6 hC6 hW6 hS6 hG6
        generalize w6.setCell ⟨gP + 1, k, none⟩ (.int .i64 k) = w7 at hP7 hO7 hC7 hW7 hS7 hG7 ⊢
        go_wp2_with fail
        go_roundw
        case rel => exact ⟨k + 1, by omega, by go_num, rfl, hP7, hO7, hC7, hW7, by rw [HSE.out]; exact hS7, hG7⟩
        case measure => have := HK.out; simp [intOf]; omega
      · obtain rfl : k = ws.length := by omega
        have hlft := lf_bnd HE.out
        have hlw := lK_bnd HE.out ws.length (by omega)
        have hF8 := Bk.new wr 40 #[.func (.func 25) #[] #[.pointer (some ⟨w.heap.size, 0, none⟩), .pointer (some ⟨w.heap.size + 1, 0, none⟩), .pointer (some ⟨gS, 0, none⟩)]]
        have hC8 := hC.alloc (.cells #[.func (.func 25) #[] #[.pointer (some ⟨w.heap.size, 0, none⟩), .pointer (some ⟨w.heap.size + 1, 0, none⟩), .pointer (some ⟨gS, 0, none⟩)]] 40)
        have hW8 := hW.alloc (.cells #[.func (.func 25) #[] #[.pointer (some ⟨w.heap.size, 0, none⟩), .pointer (some ⟨w.heap.size + 1, 0, none⟩), .pointer (some ⟨gS, 0, none⟩)]] 40)
        have hS8 := hS.alloc (.cells #[.func (.func 25) #[] #[.pointer (some ⟨w.heap.size, 0, none⟩), .pointer (some ⟨w.heap.size + 1, 0, none⟩), .pointer (some ⟨gS, 0, none⟩)]] 40)
        have hP8 := hP.alloc (.cells #[.func (.func 25) #[] #[.pointer (some ⟨w.heap.size, 0, none⟩), .pointer (some ⟨w.heap.size + 1, 0, none⟩), .pointer (some ⟨gS, 0, none⟩)]] 40)
        have hO8 := hO.alloc (.cells #[.func (.func 25) #[] #[.pointer (some ⟨w.heap.size, 0, none⟩), .pointer (some ⟨w.heap.size + 1, 0, none⟩), .pointer (some ⟨gS, 0, none⟩)]] 40)
        have hG8 := hG.alloc (.cells #[.func (.func 25) #[] #[.pointer (some ⟨w.heap.size, 0, none⟩), .pointer (some ⟨w.heap.size + 1, 0, none⟩), .pointer (some ⟨gS, 0, none⟩)]] 40)
        have hlO := hO.lt
        clear hC hW hS hP hO hG
        obtain ⟨lf, hlf⟩ := Int.eq_ofNat_of_zero_le hlft.1
        have HLF := Lib.hid hlf
        rw [hlf] at hlft ⊢
        have hlfn : lf ≤ ws.length := by omega
        have hn0 : ¬ ws.length = 0 := by
          intro e
          have := (spE_ok HE.out).2.2.2
          rw [List.eq_nil_of_length_eq_zero e] at this
          exact this rfl
        clear hlf hlw hlft
        go_upto_region 15 with fail
        generalize wr.alloc (.cells #[.func (.func 25) #[] #[.pointer (some ⟨w.heap.size, 0, none⟩), .pointer (some ⟨w.heap.size + 1, 0, none⟩), .pointer (some ⟨gS, 0, none⟩)]] 40) = w8 at hF8 hC8 hW8 hS8 hP8 hO8 hG8 ⊢
        have hFr : gP + 1 < wr.heap.size := hlO
        generalize wr.heap.size = gF at hF8 hFr ⊢
        have hown8 : OwnIn w8 (gP + 1) (.slice (some ⟨gP + 1, 0, none⟩) ws.length ws.length) (oK ws.length ws.length) := own_bk hO8 (Nat.le_refl _) (oK_len _ _) (by omega)
        have hal : ∀ (x y : Int) (w' : World), x ∈ oK ws.length ws.length → y ∈ oK ws.length ws.length → GS (S1 (.slice (some ⟨gP + 1, 0, none⟩) ws.length ws.length)) w8 w' → Calls Try.prog 27 (#[.int .i64 x, .int .i64 y] ++ #[.pointer (some ⟨gF, 0, none⟩)]) w' fun e w'' => e = .returned (.int .i64 (cpI (restI c ws y.toNat) (restI c ws x.toNat))) ∧ G w' w'' none := by
          intro x y w' hx hy hg
          obtain ⟨i, hi, rfl⟩ := oK_mem hx
          obtain ⟨j, hj, rfl⟩ := oK_mem hy
          have nb : ∀ k, k ≠ gP + 1 → ¬ S1 (.slice (some ⟨gP + 1, 0, none⟩) ws.length ws.length) k := fun k hk e => hk (Option.some.inj e).symm
          rw [Int.toNat_natCast, Int.toNat_natCast]
          have hq := crest_c c ws (.slice a ws.length cap) i j w.heap.size (w.heap.size + 1) gS gF w' HE.out hi hj (hC8.gs hg (nb _ (by omega))) (hW8.gs hg (nb _ (by omega))) (hS8.gs hg (nb _ (by omega))) (hF8.gs hg (nb _ (by omega))) (Rd.gs (Rd.quiet HR.out hG8) hg (fun k e => nb _ (by have := Rd.blk HR.out k e; omega)))
          exact hq
        have CST := Lib.hid (sortStable_c 27 #[.pointer (some ⟨gF, 0, none⟩)] (fun x y => cpI (restI c ws y.toNat) (restI c ws x.toNat)) _ _ _ w8 cf_crest hal hown8 (by rw [oK_len]; exact hn))
        clear hal hown8
        go_wp2_with fail
        refine CST.out.mono ?_; rintro e w9 ⟨rfl, hown9, hS9⟩
        clear CST
        have hown9 : OwnIn w9 (gP + 1) (.slice (some ⟨gP + 1, 0, none⟩) ws.length ws.length) (spO c ws) := hown9
        have hP9 := hP8.gs hS9 (fun e => by have : gP + 1 = gP := Option.some.inj e; omega)
        have hG9 := GS.own hG8 hS9 (fun k e => by have : gP + 1 = k := Option.some.inj e; omega)
        have hlO9 : (spO c ws).length = ws.length := by unfold spO isrt; rw [isF_len, oK_len]
        have HOM := Lib.hid (fun z hz => oK_mem (isrt_mem _ (oK ws.length ws.length) z hz) : ∀ z ∈ spO c ws, ∃ i : Nat, i < ws.length ∧ z = (i : Int))
        clear hP8 hO8 hF8 hC8 hW8 hS8 hG8 hS9
        have HRP2 : Hid (RS = ((spO c ws).take lf).foldl incI (pK c ws ws.length)) := Lib.hid (by rw [HRP.out, spP, HLF.out, Int.toNat_natCast])
        clear HRP
        generalize spO c ws = SO at hown9 hlO9 HOM HRP2
        have hP9l := pK_len c ws ws.length
        have hbd : ∀ i : Nat, 0 ≤ (pK c ws ws.length).getD i 0 ∧ (pK c ws ws.length).getD i 0 ≤ 5761440000000000 := pK_bnd HE.out
        generalize pK c ws ws.length = P0 at hP9 hP9l hbd HRP2
        have l0 : (0 : Int) ≤ (lf : Int) := by omega
        have l1 : (lf : Int) ≤ (ws.length : Int) := by omega
        go_wp2_with fail
        go_loopw [66] (SqRel w gP (gP + 1) ws.length lf SO P0) (fun i _ => lf - (intOf i).toNat)
        case atStart => exact ⟨0, P0, by omega, rfl, rfl, hP9l, fun i => by have := hbd i; omega, hP9, hown9, hG9⟩
        case round =>
          clear hP9 hown9 hG9 hP9l hbd
          obtain ⟨k, P, hk, rfl, hPe, hPl, hbd, hP, hown, hG⟩ := hrel
          have HPE := Lib.hid hPe
          clear hPe
          by_cases hlt : k < lf
          · obtain ⟨z, hz⟩ : ∃ z, SO[k]? = some z := ⟨_, List.getElem?_eq_getElem (by omega)⟩
            obtain ⟨i, hi, rfl⟩ := HOM.out z (List.mem_of_getElem? hz)
            have HSTEP : Hid ((SO.take (k + 1)).foldl incI P0 = P.set i (P.getD i 0 + 1)) := Lib.hid (by
              rw [List.take_add_one, hz, List.foldl_append, HPE.out]; simp [incI])
            have hc := RdR.cell inC_sz (Rd.of_owns hown) (G.refl _ none) hz 0 (.int .i64 (i : Int)) rfl
            simp only [Nat.add_zero, Nat.mul_one, Nat.zero_add] at hc
            have hb := hbd i
            have HB := Lib.hid hbd
            have d2 : wr.cell? ⟨gP, i, none⟩ = some (.int .i64 (P.getD i 0)) := (hP.cell i).trans (ic_at _ i (by omega))
            have d3 := hP.free i
            have hset := hP.set i (.int .i64 (P.getD i 0 + 1))
            rw [ic_set] at hset
            have hw : IntKind.i64.wrap (P.getD i 0 + 1) = P.getD i 0 + 1 := by rw [IntKind.wrap_i64]; omega
            have hki : (k : Int) < (lf : Int) := by omega
            have hii : (i : Int) < (ws.length : Int) := by omega
            have i0 : (0 : Int) ≤ (i : Int) := by omega
            have hownS := OwnX.far (p := ⟨gP, i, none⟩) hown (OwnX.ne hown (.inl (Nat.lt_succ_self _))) (.int .i64 (P.getD i 0 + 1))
            have hGS := hG.setCell (p := ⟨gP, i, none⟩) (.inl (show w.heap.size ≤ gP by omega)) (.int .i64 (P.getD i 0 + 1))
            have HPL : Hid ((P.set i (P.getD i 0 + 1)).length = ws.length) := Lib.hid (by rw [List.length_set]; exact hPl)
            have HBS : Hid (∀ j : Nat, 0 ≤ (P.set i (P.getD i 0 + 1)).getD j 0 ∧ (P.set i (P.getD i 0 + 1)).getD j 0 ≤ 5761440000000000 + ((k + 1 : Nat) : Int)) := Lib.hid fun j => by
              have hj := HB.out j
              by_cases e : i = j
              · subst e
                rw [List.getD_eq_getElem?_getD, List.getElem?_set_self (by omega)]
                simp only [Option.getD_some]
                push_cast
                omega
              · rw [List.getD_eq_getElem?_getD, List.getElem?_set_ne e, ← List.getD_eq_getElem?_getD]
                push_cast
                omega
            have HK := Lib.hid hlt
            clear hz hbd hb hPl hP hown hG
            generalize P.getD i 0 = PV at HSTEP HPL HBS hset d2 hw hownS hGS ⊢
            go_wp2_with fail
            go_roundw
            case rel => exact ⟨k + 1, P.set i (PV + 1), by omega, by go_num, HSTEP.out, HPL.out, HBS.out, hset, hownS, hGS⟩
            case measure => have := HK.out; simp [intOf]; omega
          · obtain rfl : k = lf := by omega
            go_wp2_with fail
            go_ret2
            exact ⟨_, rfl, by rw [HRP2.out, HPE.out]; exact Rd.of_owns (own_bk hP (Nat.zero_le _) hPl (by omega)), hG⟩
  · have hRS : RS = [] := by rw [← HRS.out, if_neg (by rw [HE.out]; exact k1)]
    have k1' : (E != 0) = true := by simpa using k1
    subst hRS
    clear HRS k1
    go_wp2_with fail
    go_ret2
    exact ⟨_, rfl, RdR.nil (c := inC) _ _, hG3⟩
end Go.Proofs.Ytkpmcakppiinlaa

/- Lists of ints compared; marked. -/
namespace Go.Proofs.Ytkpmcakppiinlaa
open Go.RowKit

def InqRel (l : List Int) (w : World) (i : Value) (wr : World) : Prop := ∃ k n : Nat, k ≤ l.length ∧ i = .int .i64 k ∧ wr = w.drewN n
theorem sp311 : spE 3 [1, 1] = 0 ∧ spP 3 [1, 1] = [2, 1] := by decide +kernel
end Go.Proofs.Ytkpmcakppiinlaa

/- rentkeep2's ready. Written by genrd2.py. -/
namespace Go.Proofs.Ytkpmcakppiinlaa
open Go.RowKit

set_option maxRecDepth 100000 in
set_option maxHeartbeats 4000000 in
theorem ready2_c (w : World) : Calls Try.prog 8 #[] w fun e w' => e = .returned (.bool true) ∧ G w w' none := by
  have HN : Hid (nrE (0, 0, 1, 0) = 0 ∧ (if nrE (0, 0, 1, 0) = 0 then duV (0, 0, 1, 0) 0 7 0 else 0) = 7) := Lib.hid (by decide)
  have CD := Lib.hid (fun w => due_c 0 0 1 0 ⟨#[110]⟩ ⟨#[65, 65]⟩ 0 0 7 0 w (by decide) (by kernel_rfl) (by decide) (by decide) (by decide) (by decide) (by decide) (by decide) (by decide) (by decide))
  go_enter Try.func8, Try.ntmps8
  go_wp2_with fail
  refine (split_c 3 _ [1, 1] _ (Rd.new (T := 3) #[.int .i64 1, .int .i64 1] rfl (by show 2 ≤ maxLen; decide)) (by simp)).mono ?_; rintro e w1 ⟨v1, rfl, hR, hh⟩
  rw [if_pos sp311.1, sp311.2] at hR
  rw [sp311.1]
  have hG := ((G.refl w none).alloc (.cells #[.int .i64 1, .int .i64 1] 3)).trans hh
  clear hh
  obtain ⟨a1, c1, rfl, -, -⟩ := RdR.form hR
  clear hR
  go_wp2_with fail
  refine (CD.out _).mono ?_; rintro e w2 ⟨rfl, hh⟩
  rw [HN.out.2, HN.out.1]
  replace hG := hG.trans hh
  clear hh CD HN
  go_wp2_with fail
  have hNe : RdR ((w2.alloc (.cells #[.string ⟨#[97]⟩, .int .i64 1, .string ⟨#[98]⟩, .int .i64 (-1)] 50)).alloc (.cells #[.string ⟨#[97]⟩, .string ⟨#[98]⟩, .int .i64 4, .int .i64 0] 53)) 2 neC (.slice (some ⟨w2.heap.size, 0, none⟩) 2 2) [(sA, 1), (sB, -1)] := ((Bk.new w2 50 #[.string ⟨#[97]⟩, .int .i64 1, .string ⟨#[98]⟩, .int .i64 (-1)]).alloc (.cells #[.string ⟨#[97]⟩, .string ⟨#[98]⟩, .int .i64 4, .int .i64 0] 53)).rd 2 2 rfl (by omega)
  have hRo : RdR ((w2.alloc (.cells #[.string ⟨#[97]⟩, .int .i64 1, .string ⟨#[98]⟩, .int .i64 (-1)] 50)).alloc (.cells #[.string ⟨#[97]⟩, .string ⟨#[98]⟩, .int .i64 4, .int .i64 0] 53)) 4 roC (.slice (some ⟨w2.heap.size + 1, 0, none⟩) 1 1) [(sA, sB, 4, 0)] := (Bk.newAt (w := w2.alloc (.cells #[.string ⟨#[97]⟩, .int .i64 1, .string ⟨#[98]⟩, .int .i64 (-1)] 50)) (b := w2.heap.size + 1) (by simp) 53 #[.string ⟨#[97]⟩, .string ⟨#[98]⟩, .int .i64 4, .int .i64 0]).rd 4 1 rfl (by omega)
  refine (plan_c _ _ _ hNe hRo).mono ?_; rintro e w3 ⟨v3, rfl, hR3, hh⟩
  replace hG := ((hG.alloc (.cells #[.string ⟨#[97]⟩, .int .i64 1, .string ⟨#[98]⟩, .int .i64 (-1)] 50)).alloc (.cells #[.string ⟨#[97]⟩, .string ⟨#[98]⟩, .int .i64 4, .int .i64 0] 53)).trans hh
  clear hh hNe hRo
  obtain ⟨a3, c3, rfl, -, -⟩ := RdR.form hR3
  clear hR3
  go_wp2_with fail
  have hEn : RdR (w3.alloc (.cells #[.int .i64 1, .string ⟨#[100]⟩, .int .i64 1, .string ⟨#[120]⟩] 59)) 4 enC (.slice (some ⟨w3.heap.size, 0, none⟩) 1 1) [(1, sD, 1, sX)] := (Bk.new w3 59 #[.int .i64 1, .string ⟨#[100]⟩, .int .i64 1, .string ⟨#[120]⟩]).rd 4 1 rfl (by omega)
  refine (mergeOne_c _ _ hEn).mono ?_; rintro e w4 ⟨v4, rfl, hR4, hh⟩
  replace hG := (hG.alloc (.cells #[.int .i64 1, .string ⟨#[100]⟩, .int .i64 1, .string ⟨#[120]⟩] 59)).trans hh
  clear hh hEn
  obtain ⟨a4, c4, rfl, -, -⟩ := RdR.form hR4
  clear hR4
  go_wp2_with fail
  go_ret
  exact ⟨rfl, hG⟩
end Go.Proofs.Ytkpmcakppiinlaa
