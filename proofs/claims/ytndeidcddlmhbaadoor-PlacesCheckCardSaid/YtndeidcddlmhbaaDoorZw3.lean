/- Plb, Pld, Drp, Plc, Ple, Plf, Plg, Bkf, Tir, Can, Low. -/
import Derived.Test.YtndeidcddlmhbaaDoorZw2
import Derived.Test.YtndeidcddlmhbaaDoorZw1
import Derived.Deep.CutRange
import Derived.Laws.ResultCell
import Derived.Deep.RegionHeld3
import Derived.StillTailTactics
/- shift.Plan at one road: follow, leastLoads, leastCost, firstLoad. Written by genplb.py. -/
namespace Go.Proofs.YtndeidcddlmhbaaDoor
open Go.RowKit

/-- slices.Clone of ints. -/
theorem cloneIn_c (v : Value) (l : List Int) (w : World) (hr : RdI w v l) (hn : l.length ≤ 2000) :
    Calls Tryd.prog 176 #[v] w fun e w' => ∃ v', e = .returned v' ∧ OwnIn w' w.heap.size v' l ∧ G w w' none := by
  have q22 : ∀ (w : World) (a : Option Addr) (n c n' c' : Nat), (binOp .eql 22 (.slice a n c) (.slice none n' c')).run Tryd.prog w = .ok (.bool a.isNone) w := fun w a n c n' c' => Lib.run_eql_slice_nil w _ _ a n c n' c' Tryd.underlying22
  obtain ⟨a, cap, rfl, h1, h2, h3, h4, h5⟩ := hr
  cases a with
  | none =>
    obtain ⟨hz, hc⟩ := h4 rfl
    subst hc
    have hl : l = [] := List.eq_nil_of_length_eq_zero hz
    subst hl
    clear h1 h2 h3 h4 h5 hn
    go_enter Tryd.func176, Tryd.ntmps176
    go_wp2_with fail
    go_ret
    exact ⟨_, rfl, World.ownsRow_nil _ _ _ _, G.refl _ _⟩
  | some ad =>
    obtain ⟨b, o, s⟩ := ad
    obtain ⟨e1, e2, e3⟩ := h5 _ rfl
    dsimp only at e1 e2 e3
    subst e1
    obtain ⟨i0, hi, hz0, hz1, hz2⟩ := info_parts in_rowOk.row
    have E3 := Lib.hid e3
    clear e3 h4 h5
    go_enter Tryd.func176, Tryd.ntmps176
    go_wp2_with (at_builtin; refine wpList_append_own _ rfl _ _ 22 rfl w.heap.size 3 i0 (.int .i64 0) 1 8 Tryd.underlying22 hi hz0 hz1 hz2 rfl (by omega) _ _ _ rfl (World.ownsRow_made w #[] 0 (Nat.le_refl _) (Nat.zero_le _) (by simp)) ⟨b, o, none⟩ l.length cap (rowL inC l) rfl ?qc1 ?qc2 ?qc3 ?qc4 ?qc5 ?qc6 ?_)
    case qc1 => exact h3
    case qc2 =>
      intro j u hj
      rw [add_at]
      exact Lib.cell?_alloc_some _ (E3.out j u hj)
    case qc3 => exact rowL_one in_rowOk.one l
    case qc4 => unfold maxLen; omega
    case qc5 => omega
    case qc6 => simp
    intro v' w1 hown hgrow hnil
    go_wp2_with fail
    go_ret
    refine ⟨v', rfl, by simpa using hown, ?_⟩
    exact ((G.refl w none).alloc _).other hgrow (fun k hk => by simp [Value.ownBlock] at hk; omega)
theorem neg_c (n : Int) (w : World) : Calls Tryd.prog 200 #[.int .i64 n] w fun e w' => e = .returned (.bool (decide (n < 0))) ∧ w = w' := by
  go_enter Tryd.func200, Tryd.ntmps200
  go_wp2_with fail
  go_ret
  exact ⟨rfl, rfl⟩
set_option maxRecDepth 100000 in
set_option maxHeartbeats 2000000 in
theorem indexA_c (v : Value) (w : World) (hl : RdI w v [1, -1]) :
    Calls Tryd.prog 210 #[v, .func (.func 200) #[] #[]] w fun e w' => e = .returned (.int .i64 (1)) ∧ w' = w := by
  have hG0 := G.refl w none
  obtain ⟨al, cl, rfl, -, -⟩ := RdR.form hl
  obtain ⟨bl, ol, rfl, hbl, -⟩ := RdR.elem inC_sz hl hG0 (k := 0) (p := 1) rfl
  have e0 := RdR.cell inC_sz hl hG0 (k := 0) (p := 1) rfl 0 (.int .i64 (1)) rfl
  have e1 := RdR.cell inC_sz hl hG0 (k := 1) (p := -1) rfl 0 (.int .i64 (-1)) rfl
  simp only [Nat.zero_mul, Nat.one_mul, Nat.add_zero] at e0 e1
  clear hl
  go_enter Tryd.func210, Tryd.ntmps210
  go_wp2_with fail
  refine wp_loop_rounds 3 ?_
  rw [rounds_succ]
  go_wp2_with fail
  refine (neg_c _ _).mono ?_; rintro e w' ⟨rfl, rfl⟩
  go_wp2_with fail
  rw [rounds_succ]
  go_wp2_with fail
  refine (neg_c _ _).mono ?_; rintro e w' ⟨rfl, rfl⟩
  go_wp2_with fail
  go_ret
  exact ⟨rfl, rfl⟩
theorem contA_c (v : Value) (w : World) (hl : RdI w v [1, -1]) :
    Calls Tryd.prog 199 #[v, .func (.func 200) #[] #[]] w fun e w' => e = .returned (.bool true) ∧ w' = w := by
  go_enter Tryd.func199, Tryd.ntmps199
  go_wp2_with fail
  refine (indexA_c v w hl).mono ?_; rintro e w' ⟨rfl, rfl⟩
  go_wp2_with fail
  go_ret
  exact ⟨rfl, rfl⟩
set_option maxRecDepth 100000 in
set_option maxHeartbeats 2000000 in
theorem indexB_c (v : Value) (w : World) (hl : RdI w v [0, 0]) :
    Calls Tryd.prog 210 #[v, .func (.func 200) #[] #[]] w fun e w' => e = .returned (.int .i64 (-1)) ∧ w' = w := by
  have hG0 := G.refl w none
  obtain ⟨al, cl, rfl, -, -⟩ := RdR.form hl
  obtain ⟨bl, ol, rfl, hbl, -⟩ := RdR.elem inC_sz hl hG0 (k := 0) (p := 0) rfl
  have e0 := RdR.cell inC_sz hl hG0 (k := 0) (p := 0) rfl 0 (.int .i64 (0)) rfl
  have e1 := RdR.cell inC_sz hl hG0 (k := 1) (p := 0) rfl 0 (.int .i64 (0)) rfl
  simp only [Nat.zero_mul, Nat.one_mul, Nat.add_zero] at e0 e1
  clear hl
  go_enter Tryd.func210, Tryd.ntmps210
  go_wp2_with fail
  refine wp_loop_rounds 3 ?_
  rw [rounds_succ]
  go_wp2_with fail
  refine (neg_c _ _).mono ?_; rintro e w' ⟨rfl, rfl⟩
  go_wp2_with fail
  rw [rounds_succ]
  go_wp2_with fail
  refine (neg_c _ _).mono ?_; rintro e w' ⟨rfl, rfl⟩
  go_wp2_with fail
  rw [rounds_succ]
  go_wp2_with fail
  go_ret
  exact ⟨rfl, rfl⟩
theorem contB_c (v : Value) (w : World) (hl : RdI w v [0, 0]) :
    Calls Tryd.prog 199 #[v, .func (.func 200) #[] #[]] w fun e w' => e = .returned (.bool false) ∧ w' = w := by
  go_enter Tryd.func199, Tryd.ntmps199
  go_wp2_with fail
  refine (indexB_c v w hl).mono ?_; rintro e w' ⟨rfl, rfl⟩
  go_wp2_with fail
  go_ret
  exact ⟨rfl, rfl⟩
set_option maxRecDepth 100000 in
set_option maxHeartbeats 4000000 in
theorem follow_c (gt gl go bn on cl cn co : Nat) (w : World) (t0 : w.cell? ⟨gt, 1, none⟩ = some (.bool true)) (t1 : w.cell? ⟨gt, 4 + 1, none⟩ = some (.bool false)) (t2 : w.cell? ⟨gt, 4 + 3, none⟩ = some (.int .i64 0))
    (n0 : w.cell? ⟨bn, on, none⟩ = some (.int .i64 0)) (n1 : w.cell? ⟨bn, on + 1, none⟩ = some (.int .i64 1))
    (l0 : w.cell? ⟨gl, 0, none⟩ = some (.int .i64 1)) (l1 : w.cell? ⟨gl, 1, none⟩ = some (.int .i64 (-1))) (fl0 : w.frozen? ⟨gl, 0, none⟩ = false) (fl1 : w.frozen? ⟨gl, 1, none⟩ = false)
    (o0 : w.cell? ⟨go, 0, none⟩ = some (.int .i64 0)) (fo0 : w.frozen? ⟨go, 0, none⟩ = false)
    (d1 : gt ≠ gl) (d2 : gt ≠ go) (d3 : bn ≠ gl) (d4 : bn ≠ go) (d5 : gl ≠ go) :
    Calls Tryd.prog 202 #[.int .i64 1, .slice (some ⟨gt, 0, none⟩) 2 2, .slice (some ⟨gl, 0, none⟩) 2 cl, .slice (some ⟨bn, on, none⟩) 1 cn, .slice (some ⟨go, 0, none⟩) 1 co] w fun e w' => e = .returned (.tuple #[]) ∧
      w' = ((w.setCell ⟨gl, 1, none⟩ (.int .i64 0)).setCell ⟨go, 0, none⟩ (.int .i64 1)).setCell ⟨gl, 0, none⟩ (.int .i64 0) := by
  have d6 := d5.symm
  go_enter Tryd.func202, Tryd.ntmps202
  go_wp2_with fail
  refine wp_loop_rounds 3 ?_
  rw [rounds_succ]
  go_wp2_with fail
  rw [rounds_succ]
  go_wp2_with fail
  go_end0
  exact ⟨rfl, rfl⟩
set_option maxRecDepth 100000 in
set_option maxHeartbeats 4000000 in
theorem leastA_c (vl vn : Value) (w : World) (hl : RdI w vl [1, -1]) (hn : RdR w 3 lnC vn [(0, 1, 4)]) :
    Calls Tryd.prog 175 #[vl, vn] w fun e w' => ∃ go, e = .returned (.tuple #[.slice (some ⟨go, 0, none⟩) 1 1, .bool true]) ∧ Bk w' go 3 #[.int .i64 1] ∧ G w w' none := by
  have hmk : ∀ w : World, (Instr.makeSlice 22 (.int .i64 1) (.int .i64 1)).run Tryd.prog w = .ok (.slice (some ⟨w.heap.size, 0, none⟩) 1 1) (w.alloc (.cells #[.int .i64 0] 3)) := fun w => by kernel_rfl
  obtain ⟨al, cl, rfl, -, -⟩ := RdR.form hl
  obtain ⟨an, cn, rfl, -, -⟩ := RdR.form hn
  have CC := Lib.hid (fun w' (p : RdI w' (.slice al [1, -1].length cl) [1, -1]) => cloneIn_c _ _ w' p (by simp))
  go_enter Tryd.func175, Tryd.ntmps175
  go_upto_region 1 with fail
  go_cut [0, 6] from 11 (fun s0 s6 w' => ∃ go, OwnIn w' w.heap.size s0 [1, -1] ∧ s6 = .slice (some ⟨go, 0, none⟩) 1 1 ∧ Bk w' go 3 #[.int .i64 0] ∧ (∀ k, s0.ownBlock = some k → k ≠ go) ∧ w.heap.size ≤ go ∧ G w w' none)
  case first =>
    have hG := (G.refl w none).drew
    refine wp_region_held_drew (S := (fun _ : World => True)) (by kernel_rfl) ?_ (fun hHeld => ?_)
    · exact trivial
    generalize w.drew = wd at hHeld hG ⊢
    refine wpAnyH_take (i := 0) (oi := { dst := some 11, op := Op.move (Operand.tmp 0), type := 22, pos := _, after := #[], guard := none }) (v := ?_) rfl (by kernel_rfl) (by kernel_rfl) (by kernel_rfl) (fun _ _ _ h => h) (Or.inl ⟨by rfl, ?_⟩) (by assumption) ?_
    rotate_left
    · (intro w hSw; clear hSw; (go_simp <;> with_reducible rfl))
    try simp only [Act.put, List.setIfInBounds_toArray, List.set_cons_zero, List.set_cons_succ]
    refine wpAnyH_take (i := 2) (oi := { dst := some 13, op := Op.move (Operand.tmp 1), type := 231, pos := _, after := #[], guard := none }) (v := ?_) rfl (by kernel_rfl) (by kernel_rfl) (by kernel_rfl) (fun _ _ _ h => h) (Or.inl ⟨by rfl, ?_⟩) (by assumption) ?_
    rotate_left
    · (intro w hSw; clear hSw; (go_simp <;> with_reducible rfl))
    try simp only [Act.put, List.setIfInBounds_toArray, List.set_cons_zero, List.set_cons_succ]
    refine wpAnyH_take (i := 3) (oi := { dst := some 14, op := Op.call { callee := Callee.builtin Builtin.len, args := #[Operand.tmp 13], argTypes := #[231] }, type := 3, pos := _, after := #[{ on := 2, ground := Ground.data }], guard := none }) (v := ?_) rfl (by kernel_rfl) (by kernel_rfl) (by kernel_rfl) (fun _ _ _ h => h) (Or.inl ⟨by rfl, ?_⟩) (by assumption) ?_
    rotate_left
    · (intro w hSw; clear hSw; (go_simp <;> with_reducible rfl))
    try simp only [Act.put, List.setIfInBounds_toArray, List.set_cons_zero, List.set_cons_succ]
    refine wpAnyH_ready (rs := [1, 4]) (by kernel_rfl) (by simp) ?_
    refine (AllReadyH.cons (o := { dst := some 12, op := Op.call { callee := Callee.value (Operand.func 176), args := #[Operand.tmp 11], argTypes := #[22] }, type := 22, pos := _, after := #[{ on := 0, ground := Ground.data }], guard := none }) rfl (fun K hK => ?_) (AllReadyH.cons (o := { dst := some 15, op := Op.makeSlice 22 (Operand.tmp 14) (Operand.tmp 14), type := 22, pos := _, after := #[{ on := 3, ground := Ground.data }, { on := 3, ground := Ground.data }], guard := none }) rfl (fun K hK => ?_) AllReadyH.nil))
    · go_simp
      refine (CC.out _ (hl.quiet hG)).mono ?_
      rintro e wc1 ⟨vL, rfl, hL, hh⟩
      replace hL := OwnX.down hL hG.size
      replace hG := hG.trans hh
      clear hh
      refine hK.out _ _ ?_ (fun hHeld => ?_)
      · exact trivial
      clear hK K
      try simp only [Act.put, List.setIfInBounds_toArray, List.set_cons_zero, List.set_cons_succ]
      refine wpAnyH_take (i := 5) (oi := { dst := some 0, op := Op.assign (Operand.tmp 12), type := 22, pos := _, after := #[{ on := 1, ground := Ground.data }, { on := 1, ground := Ground.chain }, { on := 0, ground := Ground.phase }, { on := 1, ground := Ground.phase }, { on := 2, ground := Ground.textOnly Departure.lateStores }, { on := 3, ground := Ground.textOnly Departure.lateStoresUnsure }, { on := 4, ground := Ground.textOnly Departure.lateStoresUnsure }], guard := none }) (v := ?_) rfl (by kernel_rfl) (by kernel_rfl) (by kernel_rfl) (fun _ _ _ h => h) (Or.inl ⟨by rfl, ?_⟩) (by assumption) ?_
      rotate_left
      · (intro w hSw; clear hSw; (go_simp <;> with_reducible rfl))
      try simp only [Act.put, List.setIfInBounds_toArray, List.set_cons_zero, List.set_cons_succ]
      refine wpAnyH_ready (rs := [4]) (by kernel_rfl) (by simp) ?_
      refine (AllReadyH.cons (o := { dst := some 15, op := Op.makeSlice 22 (Operand.tmp 14) (Operand.tmp 14), type := 22, pos := _, after := #[{ on := 3, ground := Ground.data }, { on := 3, ground := Ground.data }], guard := none }) rfl (fun K hK => ?_) AllReadyH.nil)
      go_simp
      have hO := Bk.new wc1 3 #[.int .i64 0]
      have hgo : ∀ k, vL.ownBlock = some k → k ≠ wc1.heap.size := fun k e => by have h1 := (World.ownsRow.lt hL k e).2; omega
      replace hL := OwnX.alloc hL (.cells #[.int .i64 0] 3)
      have hgs : w.heap.size ≤ wc1.heap.size := hG.size
      replace hG := hG.alloc (.cells #[.int .i64 0] 3)
      generalize wc1.alloc (.cells #[.int .i64 0] 3) = wm2 at hO hL hG ⊢
      generalize wc1.heap.size = go at hO hgo hgs ⊢
      refine hK.out _ _ ?_ (fun hHeld => ?_)
      · exact trivial
      clear hK K
      try simp only [Act.put, List.setIfInBounds_toArray, List.set_cons_zero, List.set_cons_succ]
      refine wpAnyH_take (i := 6) (oi := { dst := some 6, op := Op.assign (Operand.tmp 15), type := 22, pos := _, after := #[{ on := 4, ground := Ground.data }, { on := 5, ground := Ground.chain }, { on := 0, ground := Ground.phase }, { on := 1, ground := Ground.phase }, { on := 2, ground := Ground.phase }, { on := 3, ground := Ground.phase }, { on := 4, ground := Ground.phase }, { on := 5, ground := Ground.phase }], guard := none }) (v := ?_) rfl (by kernel_rfl) (by kernel_rfl) (by kernel_rfl) (fun _ _ _ h => h) (Or.inl ⟨by rfl, ?_⟩) (by assumption) ?_
      rotate_left
      · (intro w hSw; clear hSw; (go_simp <;> with_reducible rfl))
      try simp only [Act.put, List.setIfInBounds_toArray, List.set_cons_zero, List.set_cons_succ]
      refine wpAnyH_done (by kernel_rfl) ?_ _
      clear hHeld
      go_wp2_with fail
      go_meet
      case rel => exact ⟨go, hL, rfl, hO, hgo, hgs, hG⟩
    · go_simp
      have hO := Bk.new wd 3 #[.int .i64 0]
      have hgs : w.heap.size ≤ wd.heap.size := hG.size
      replace hG := hG.alloc (.cells #[.int .i64 0] 3)
      have hgl : wd.heap.size < (wd.alloc (.cells #[.int .i64 0] 3)).heap.size := hO.lt
      generalize wd.alloc (.cells #[.int .i64 0] 3) = wm1 at hO hG hgl ⊢
      generalize wd.heap.size = go at hO hgs hgl ⊢
      refine hK.out _ _ ?_ (fun hHeld => ?_)
      · exact trivial
      clear hK K
      try simp only [Act.put, List.setIfInBounds_toArray, List.set_cons_zero, List.set_cons_succ]
      refine wpAnyH_ready (rs := [1]) (by kernel_rfl) (by simp) ?_
      refine (AllReadyH.cons (o := { dst := some 12, op := Op.call { callee := Callee.value (Operand.func 176), args := #[Operand.tmp 11], argTypes := #[22] }, type := 22, pos := _, after := #[{ on := 0, ground := Ground.data }], guard := none }) rfl (fun K hK => ?_) AllReadyH.nil)
      go_simp
      refine (CC.out _ (hl.quiet hG)).mono ?_
      rintro e wc2 ⟨vL, rfl, hL, hh⟩
      have hgo : ∀ k, vL.ownBlock = some k → k ≠ go := fun k e => by have h1 := (World.ownsRow.lt hL k e).1; omega
      have hO := hO.quiet hh
      replace hG := hG.trans hh
      clear hh
      replace hL := OwnX.down (b := w.heap.size) hL (by omega)
      refine hK.out _ _ ?_ (fun hHeld => ?_)
      · exact trivial
      clear hK K
      try simp only [Act.put, List.setIfInBounds_toArray, List.set_cons_zero, List.set_cons_succ]
      refine wpAnyH_take (i := 5) (oi := { dst := some 0, op := Op.assign (Operand.tmp 12), type := 22, pos := _, after := #[{ on := 1, ground := Ground.data }, { on := 1, ground := Ground.chain }, { on := 0, ground := Ground.phase }, { on := 1, ground := Ground.phase }, { on := 2, ground := Ground.textOnly Departure.lateStores }, { on := 3, ground := Ground.textOnly Departure.lateStoresUnsure }, { on := 4, ground := Ground.textOnly Departure.lateStoresUnsure }], guard := none }) (v := ?_) rfl (by kernel_rfl) (by kernel_rfl) (by kernel_rfl) (fun _ _ _ h => h) (Or.inl ⟨by rfl, ?_⟩) (by assumption) ?_
      rotate_left
      · (intro w hSw; clear hSw; (go_simp <;> with_reducible rfl))
      try simp only [Act.put, List.setIfInBounds_toArray, List.set_cons_zero, List.set_cons_succ]
      refine wpAnyH_take (i := 6) (oi := { dst := some 6, op := Op.assign (Operand.tmp 15), type := 22, pos := _, after := #[{ on := 4, ground := Ground.data }, { on := 5, ground := Ground.chain }, { on := 0, ground := Ground.phase }, { on := 1, ground := Ground.phase }, { on := 2, ground := Ground.phase }, { on := 3, ground := Ground.phase }, { on := 4, ground := Ground.phase }, { on := 5, ground := Ground.phase }], guard := none }) (v := ?_) rfl (by kernel_rfl) (by kernel_rfl) (by kernel_rfl) (fun _ _ _ h => h) (Or.inl ⟨by rfl, ?_⟩) (by assumption) ?_
      rotate_left
      · (intro w hSw; clear hSw; (go_simp <;> with_reducible rfl))
      try simp only [Act.put, List.setIfInBounds_toArray, List.set_cons_zero, List.set_cons_succ]
      refine wpAnyH_done (by kernel_rfl) ?_ _
      clear hHeld
      go_wp2_with fail
      go_meet
      case rel => exact ⟨go, hL, rfl, hO, hgo, hgs, hG⟩
  case rest =>
  obtain ⟨go, hL, rfl, hO, hgo, hgs, hG⟩ := hcut
  clear CC
  obtain ⟨gl, cL, cur, e, hBL⟩ := OwnX.form0 hL (by simp)
  subst e
  have hgl : w.heap.size ≤ gl := OwnX.low hL gl rfl
  have hlo : gl ≠ go := hgo gl rfl
  have hRL := Rd.of_owns hL
  have hlL := hBL.lt
  have hlO := hO.lt
  obtain ⟨bn, on, rfl, hbn, -⟩ := RdR.elem lnC_sz (hn.quiet hG) (G.refl _ none) (k := 0) (p := (0, 1, 4)) rfl
  have hbnw : bn < w.heap.size := by
    obtain ⟨b9, o9, e9, h9, -⟩ := RdR.elem lnC_sz hn (G.refl w none) (k := 0) (p := (0, 1, 4)) rfl
    injection e9 with e9; injection e9 with e9 _; omega
  go_wp2_with fail
  refine wp_loop_rounds 2 ?_
  rw [rounds_succ]
  go_wp2_with fail
  refine (contA_c _ _ hRL).mono ?_; rintro e wx ⟨rfl, rfl⟩
  go_wp2_with fail
  refine (trails_c _ _ _ _ hRL (hn.quiet hG) (hO.rd 1 1 rfl (by omega))).mono ?_; rintro e wt ⟨gt, rfl, hgt, hT, hh⟩
  replace hL := OwnX.quiet hL hh
  replace hBL := hBL.quiet hh
  replace hO := hO.quiet hh
  replace hG := hG.trans hh
  have e1 : gt ≠ gl := by omega
  have e2 : gt ≠ go := by omega
  have e3 : bn ≠ gl := by omega
  have e4 : bn ≠ go := by omega
  clear hh hgo hRL hlL hlO hgt hbnw hbn
  go_wp2_with fail
  refine wp_loop_rounds 3 ?_
  rw [rounds_succ]
  have t0 : wt.cell? ⟨gt, 0, none⟩ = some (.bool true) := hT.cell 0
  have t1 : wt.cell? ⟨gt, 1, none⟩ = some (.bool true) := hT.cell 1
  have t2 : wt.cell? ⟨gt, 2, none⟩ = some (.int .i64 0) := hT.cell 2
  have t3 : wt.cell? ⟨gt, 3, none⟩ = some (.int .i64 0) := hT.cell 3
  go_upto_region 8 with fail
  have hN := Bk.new wt 270 #[.bool true, .bool true, .int .i64 0, .int .i64 0]
  replace hT := hT.alloc (.cells #[.bool true, .bool true, .int .i64 0, .int .i64 0] 270)
  replace hL := OwnX.alloc hL (.cells #[.bool true, .bool true, .int .i64 0, .int .i64 0] 270)
  replace hBL := hBL.alloc (.cells #[.bool true, .bool true, .int .i64 0, .int .i64 0] 270)
  replace hO := hO.alloc (.cells #[.bool true, .bool true, .int .i64 0, .int .i64 0] 270)
  replace hG := hG.alloc (.cells #[.bool true, .bool true, .int .i64 0, .int .i64 0] 270)
  clear t0 t1 t2 t3
  generalize wt.alloc (.cells #[.bool true, .bool true, .int .i64 0, .int .i64 0] 270) = wn0 at hN hT hL hBL hO hG ⊢
  generalize wt.heap.size = n0 at hN ⊢
  have l0 : wn0.cell? ⟨gl, 0, none⟩ = some (.int .i64 (1)) := by
    have h := RdR.cell inC_sz (Rd.of_owns hL) (G.refl _ none) (k := 0) (p := 1) rfl 0 (.int .i64 (1)) rfl
    simpa using h
  have m0 : wn0.cell? ⟨n0, 0, none⟩ = some (.bool true) := hN.cell 0
  go_quiet (fail)
  replace hT := hT.drewN nq
  replace hL := OwnX.quiet hL ((G.refl _ none).drewN nq)
  replace hBL := hBL.drewN nq
  replace hO := hO.drewN nq
  replace hG := hG.drewN nq
  clear hN l0 m0
  generalize wn0.drewN nq = wq0 at hT hL hBL hO hG ⊢
  go_wp2_with fail
  rw [rounds_succ]
  have t0 : wq0.cell? ⟨gt, 4, none⟩ = some (.bool true) := hT.cell 4
  have t1 : wq0.cell? ⟨gt, 5, none⟩ = some (.bool false) := hT.cell 5
  have t2 : wq0.cell? ⟨gt, 6, none⟩ = some (.int .i64 4) := hT.cell 6
  have t3 : wq0.cell? ⟨gt, 7, none⟩ = some (.int .i64 0) := hT.cell 7
  go_upto_region 8 with fail
  have hN := Bk.new wq0 270 #[.bool true, .bool false, .int .i64 4, .int .i64 0]
  replace hT := hT.alloc (.cells #[.bool true, .bool false, .int .i64 4, .int .i64 0] 270)
  replace hL := OwnX.alloc hL (.cells #[.bool true, .bool false, .int .i64 4, .int .i64 0] 270)
  replace hBL := hBL.alloc (.cells #[.bool true, .bool false, .int .i64 4, .int .i64 0] 270)
  replace hO := hO.alloc (.cells #[.bool true, .bool false, .int .i64 4, .int .i64 0] 270)
  replace hG := hG.alloc (.cells #[.bool true, .bool false, .int .i64 4, .int .i64 0] 270)
  clear t0 t1 t2 t3
  generalize wq0.alloc (.cells #[.bool true, .bool false, .int .i64 4, .int .i64 0] 270) = wn1 at hN hT hL hBL hO hG ⊢
  generalize wq0.heap.size = n1 at hN ⊢
  have l0 : wn1.cell? ⟨gl, 1, none⟩ = some (.int .i64 (-1)) := by
    have h := RdR.cell inC_sz (Rd.of_owns hL) (G.refl _ none) (k := 1) (p := -1) rfl 0 (.int .i64 (-1)) rfl
    simpa using h
  have m0 : wn1.cell? ⟨n1, 0, none⟩ = some (.bool true) := hN.cell 0
  go_quiet (fail)
  replace hT := hT.drewN nq
  replace hL := OwnX.quiet hL ((G.refl _ none).drewN nq)
  replace hBL := hBL.drewN nq
  replace hO := hO.drewN nq
  replace hG := hG.drewN nq
  clear hN l0 m0
  generalize wn1.drewN nq = wq1 at hT hL hBL hO hG ⊢
  go_wp2_with fail
  rw [rounds_succ]
  go_wp2_with fail
  have l0 := RdR.cell inC_sz (Rd.of_owns hL) (G.refl _ none) (k := 0) (p := 1) rfl 0 (.int .i64 1) rfl
  have l1 := RdR.cell inC_sz (Rd.of_owns hL) (G.refl _ none) (k := 1) (p := -1) rfl 0 (.int .i64 (-1)) rfl
  have n0 := RdR.cell lnC_sz hn hG (k := 0) (p := (0, 1, 4)) rfl 0 (.int .i64 0) rfl
  have n1 := RdR.cell lnC_sz hn hG (k := 0) (p := (0, 1, 4)) rfl 1 (.int .i64 1) rfl
  simp only [Nat.zero_mul, Nat.one_mul, Nat.add_zero, Nat.zero_add] at l0 l1 n0 n1
  refine (follow_c gt gl go bn on cL cn 1 wq1 (hT.cell 1) (hT.cell 5) (hT.cell 7) n0 n1 l0 l1 (hBL.free 0) (hBL.free 1) (hO.cell 0) (hO.free 0) e1 e2 e3 e4 hlo).mono ?_; rintro e wf ⟨rfl, rfl⟩
  clear l0 l1 n0 n1 hT
  have k1 := OwnX.set inC_sz hL (k := 1) (p := -1) rfl (q := 0) 0 (.int .i64 0) (by omega) rfl
  have k2 := OwnX.far (l := [1, 0]) k1 (p := ⟨go, 0, none⟩) (fun e => by injection e with e; exact hlo e.symm) (.int .i64 1)
  have k3 := OwnX.set (l := [1, 0]) inC_sz k2 (k := 0) (p := 1) rfl (q := 0) 0 (.int .i64 0) (by omega) rfl
  have k4 : RdI (((wq1.setCell ⟨gl, 1, none⟩ (.int .i64 0)).setCell ⟨go, 0, none⟩ (.int .i64 1)).setCell ⟨gl, 0, none⟩ (.int .i64 0)) (.slice (some ⟨gl, 0, none⟩) 2 cL) [0, 0] := Rd.of_owns k3
  replace hO := ((hO.far (p := ⟨gl, 1, none⟩) hlo.symm (.int .i64 0)).set 0 (.int .i64 1)).far (p := ⟨gl, 0, none⟩) hlo.symm (.int .i64 0)
  replace hG := ((hG.setCell (p := ⟨gl, 1, none⟩) (.inl hgl) (.int .i64 0)).setCell (p := ⟨go, 0, none⟩) (.inl hgs) (.int .i64 1)).setCell (p := ⟨gl, 0, none⟩) (.inl hgl) (.int .i64 0)
  clear k1 k2 k3 hL hBL
  generalize ((wq1.setCell ⟨gl, 1, none⟩ (.int .i64 0)).setCell ⟨go, 0, none⟩ (.int .i64 1)).setCell ⟨gl, 0, none⟩ (.int .i64 0) = wz at k4 hO hG ⊢
  go_wp2_with fail
  rw [rounds_succ]
  go_wp2_with fail
  refine (contB_c _ _ k4).mono ?_; rintro e wx ⟨rfl, rfl⟩
  go_wp2_with fail
  go_ret2
  exact ⟨go, rfl, hO, hG⟩
set_option maxRecDepth 100000 in
set_option maxHeartbeats 4000000 in
theorem leastB_c (vl vn : Value) (w : World) (hl : RdI w vl [0, 0]) (hn : RdR w 3 lnC vn []) :
    Calls Tryd.prog 175 #[vl, vn] w fun e w' => ∃ go, e = .returned (.tuple #[.slice (some ⟨go, 0, none⟩) 0 0, .bool true]) ∧ Bk w' go 3 #[] ∧ G w w' none := by
  have hmk : ∀ w : World, (Instr.makeSlice 22 (.int .i64 0) (.int .i64 0)).run Tryd.prog w = .ok (.slice (some ⟨w.heap.size, 0, none⟩) 0 0) (w.alloc (.cells #[] 3)) := fun w => by kernel_rfl
  obtain ⟨al, cl, rfl, -, -⟩ := RdR.form hl
  obtain ⟨an, cn, rfl, -, -⟩ := RdR.form hn
  have CC := Lib.hid (fun w' (p : RdI w' (.slice al [0, 0].length cl) [0, 0]) => cloneIn_c _ _ w' p (by simp))
  go_enter Tryd.func175, Tryd.ntmps175
  go_upto_region 1 with fail
  go_cut [0, 6] from 11 (fun s0 s6 w' => ∃ go, OwnIn w' w.heap.size s0 [0, 0] ∧ s6 = .slice (some ⟨go, 0, none⟩) 0 0 ∧ Bk w' go 3 #[] ∧ (∀ k, s0.ownBlock = some k → k ≠ go) ∧ w.heap.size ≤ go ∧ G w w' none)
  case first =>
    have hG := (G.refl w none).drew
    refine wp_region_held_drew (S := (fun _ : World => True)) (by kernel_rfl) ?_ (fun hHeld => ?_)
    · exact trivial
    generalize w.drew = wd at hHeld hG ⊢
    refine wpAnyH_take (i := 0) (oi := { dst := some 11, op := Op.move (Operand.tmp 0), type := 22, pos := _, after := #[], guard := none }) (v := ?_) rfl (by kernel_rfl) (by kernel_rfl) (by kernel_rfl) (fun _ _ _ h => h) (Or.inl ⟨by rfl, ?_⟩) (by assumption) ?_
    rotate_left
    · (intro w hSw; clear hSw; (go_simp <;> with_reducible rfl))
    try simp only [Act.put, List.setIfInBounds_toArray, List.set_cons_zero, List.set_cons_succ]
    refine wpAnyH_take (i := 2) (oi := { dst := some 13, op := Op.move (Operand.tmp 1), type := 231, pos := _, after := #[], guard := none }) (v := ?_) rfl (by kernel_rfl) (by kernel_rfl) (by kernel_rfl) (fun _ _ _ h => h) (Or.inl ⟨by rfl, ?_⟩) (by assumption) ?_
    rotate_left
    · (intro w hSw; clear hSw; (go_simp <;> with_reducible rfl))
    try simp only [Act.put, List.setIfInBounds_toArray, List.set_cons_zero, List.set_cons_succ]
    refine wpAnyH_take (i := 3) (oi := { dst := some 14, op := Op.call { callee := Callee.builtin Builtin.len, args := #[Operand.tmp 13], argTypes := #[231] }, type := 3, pos := _, after := #[{ on := 2, ground := Ground.data }], guard := none }) (v := ?_) rfl (by kernel_rfl) (by kernel_rfl) (by kernel_rfl) (fun _ _ _ h => h) (Or.inl ⟨by rfl, ?_⟩) (by assumption) ?_
    rotate_left
    · (intro w hSw; clear hSw; (go_simp <;> with_reducible rfl))
    try simp only [Act.put, List.setIfInBounds_toArray, List.set_cons_zero, List.set_cons_succ]
    refine wpAnyH_ready (rs := [1, 4]) (by kernel_rfl) (by simp) ?_
    refine (AllReadyH.cons (o := { dst := some 12, op := Op.call { callee := Callee.value (Operand.func 176), args := #[Operand.tmp 11], argTypes := #[22] }, type := 22, pos := _, after := #[{ on := 0, ground := Ground.data }], guard := none }) rfl (fun K hK => ?_) (AllReadyH.cons (o := { dst := some 15, op := Op.makeSlice 22 (Operand.tmp 14) (Operand.tmp 14), type := 22, pos := _, after := #[{ on := 3, ground := Ground.data }, { on := 3, ground := Ground.data }], guard := none }) rfl (fun K hK => ?_) AllReadyH.nil))
    · go_simp
      refine (CC.out _ (hl.quiet hG)).mono ?_
      rintro e wc1 ⟨vL, rfl, hL, hh⟩
      replace hL := OwnX.down hL hG.size
      replace hG := hG.trans hh
      clear hh
      refine hK.out _ _ ?_ (fun hHeld => ?_)
      · exact trivial
      clear hK K
      try simp only [Act.put, List.setIfInBounds_toArray, List.set_cons_zero, List.set_cons_succ]
      refine wpAnyH_take (i := 5) (oi := { dst := some 0, op := Op.assign (Operand.tmp 12), type := 22, pos := _, after := #[{ on := 1, ground := Ground.data }, { on := 1, ground := Ground.chain }, { on := 0, ground := Ground.phase }, { on := 1, ground := Ground.phase }, { on := 2, ground := Ground.textOnly Departure.lateStores }, { on := 3, ground := Ground.textOnly Departure.lateStoresUnsure }, { on := 4, ground := Ground.textOnly Departure.lateStoresUnsure }], guard := none }) (v := ?_) rfl (by kernel_rfl) (by kernel_rfl) (by kernel_rfl) (fun _ _ _ h => h) (Or.inl ⟨by rfl, ?_⟩) (by assumption) ?_
      rotate_left
      · (intro w hSw; clear hSw; (go_simp <;> with_reducible rfl))
      try simp only [Act.put, List.setIfInBounds_toArray, List.set_cons_zero, List.set_cons_succ]
      refine wpAnyH_ready (rs := [4]) (by kernel_rfl) (by simp) ?_
      refine (AllReadyH.cons (o := { dst := some 15, op := Op.makeSlice 22 (Operand.tmp 14) (Operand.tmp 14), type := 22, pos := _, after := #[{ on := 3, ground := Ground.data }, { on := 3, ground := Ground.data }], guard := none }) rfl (fun K hK => ?_) AllReadyH.nil)
      go_simp
      have hO := Bk.new wc1 3 #[]
      have hgo : ∀ k, vL.ownBlock = some k → k ≠ wc1.heap.size := fun k e => by have h1 := (World.ownsRow.lt hL k e).2; omega
      replace hL := OwnX.alloc hL (.cells #[] 3)
      have hgs : w.heap.size ≤ wc1.heap.size := hG.size
      replace hG := hG.alloc (.cells #[] 3)
      generalize wc1.alloc (.cells #[] 3) = wm2 at hO hL hG ⊢
      generalize wc1.heap.size = go at hO hgo hgs ⊢
      refine hK.out _ _ ?_ (fun hHeld => ?_)
      · exact trivial
      clear hK K
      try simp only [Act.put, List.setIfInBounds_toArray, List.set_cons_zero, List.set_cons_succ]
      refine wpAnyH_take (i := 6) (oi := { dst := some 6, op := Op.assign (Operand.tmp 15), type := 22, pos := _, after := #[{ on := 4, ground := Ground.data }, { on := 5, ground := Ground.chain }, { on := 0, ground := Ground.phase }, { on := 1, ground := Ground.phase }, { on := 2, ground := Ground.phase }, { on := 3, ground := Ground.phase }, { on := 4, ground := Ground.phase }, { on := 5, ground := Ground.phase }], guard := none }) (v := ?_) rfl (by kernel_rfl) (by kernel_rfl) (by kernel_rfl) (fun _ _ _ h => h) (Or.inl ⟨by rfl, ?_⟩) (by assumption) ?_
      rotate_left
      · (intro w hSw; clear hSw; (go_simp <;> with_reducible rfl))
      try simp only [Act.put, List.setIfInBounds_toArray, List.set_cons_zero, List.set_cons_succ]
      refine wpAnyH_done (by kernel_rfl) ?_ _
      clear hHeld
      go_wp2_with fail
      go_meet
      case rel => exact ⟨go, hL, rfl, hO, hgo, hgs, hG⟩
    · go_simp
      have hO := Bk.new wd 3 #[]
      have hgs : w.heap.size ≤ wd.heap.size := hG.size
      replace hG := hG.alloc (.cells #[] 3)
      have hgl : wd.heap.size < (wd.alloc (.cells #[] 3)).heap.size := hO.lt
      generalize wd.alloc (.cells #[] 3) = wm1 at hO hG hgl ⊢
      generalize wd.heap.size = go at hO hgs hgl ⊢
      refine hK.out _ _ ?_ (fun hHeld => ?_)
      · exact trivial
      clear hK K
      try simp only [Act.put, List.setIfInBounds_toArray, List.set_cons_zero, List.set_cons_succ]
      refine wpAnyH_ready (rs := [1]) (by kernel_rfl) (by simp) ?_
      refine (AllReadyH.cons (o := { dst := some 12, op := Op.call { callee := Callee.value (Operand.func 176), args := #[Operand.tmp 11], argTypes := #[22] }, type := 22, pos := _, after := #[{ on := 0, ground := Ground.data }], guard := none }) rfl (fun K hK => ?_) AllReadyH.nil)
      go_simp
      refine (CC.out _ (hl.quiet hG)).mono ?_
      rintro e wc2 ⟨vL, rfl, hL, hh⟩
      have hgo : ∀ k, vL.ownBlock = some k → k ≠ go := fun k e => by have h1 := (World.ownsRow.lt hL k e).1; omega
      have hO := hO.quiet hh
      replace hG := hG.trans hh
      clear hh
      replace hL := OwnX.down (b := w.heap.size) hL (by omega)
      refine hK.out _ _ ?_ (fun hHeld => ?_)
      · exact trivial
      clear hK K
      try simp only [Act.put, List.setIfInBounds_toArray, List.set_cons_zero, List.set_cons_succ]
      refine wpAnyH_take (i := 5) (oi := { dst := some 0, op := Op.assign (Operand.tmp 12), type := 22, pos := _, after := #[{ on := 1, ground := Ground.data }, { on := 1, ground := Ground.chain }, { on := 0, ground := Ground.phase }, { on := 1, ground := Ground.phase }, { on := 2, ground := Ground.textOnly Departure.lateStores }, { on := 3, ground := Ground.textOnly Departure.lateStoresUnsure }, { on := 4, ground := Ground.textOnly Departure.lateStoresUnsure }], guard := none }) (v := ?_) rfl (by kernel_rfl) (by kernel_rfl) (by kernel_rfl) (fun _ _ _ h => h) (Or.inl ⟨by rfl, ?_⟩) (by assumption) ?_
      rotate_left
      · (intro w hSw; clear hSw; (go_simp <;> with_reducible rfl))
      try simp only [Act.put, List.setIfInBounds_toArray, List.set_cons_zero, List.set_cons_succ]
      refine wpAnyH_take (i := 6) (oi := { dst := some 6, op := Op.assign (Operand.tmp 15), type := 22, pos := _, after := #[{ on := 4, ground := Ground.data }, { on := 5, ground := Ground.chain }, { on := 0, ground := Ground.phase }, { on := 1, ground := Ground.phase }, { on := 2, ground := Ground.phase }, { on := 3, ground := Ground.phase }, { on := 4, ground := Ground.phase }, { on := 5, ground := Ground.phase }], guard := none }) (v := ?_) rfl (by kernel_rfl) (by kernel_rfl) (by kernel_rfl) (fun _ _ _ h => h) (Or.inl ⟨by rfl, ?_⟩) (by assumption) ?_
      rotate_left
      · (intro w hSw; clear hSw; (go_simp <;> with_reducible rfl))
      try simp only [Act.put, List.setIfInBounds_toArray, List.set_cons_zero, List.set_cons_succ]
      refine wpAnyH_done (by kernel_rfl) ?_ _
      clear hHeld
      go_wp2_with fail
      go_meet
      case rel => exact ⟨go, hL, rfl, hO, hgo, hgs, hG⟩
  case rest =>
  obtain ⟨go, hL, rfl, hO, hgo, hgs, hG⟩ := hcut
  clear CC
  obtain ⟨aL, cL, rfl, -, -⟩ := RdR.form (c := inC) (Rd.of_owns hL)
  have hRL := Rd.of_owns hL
  clear hL hgo
  go_wp2_with fail
  refine wp_loop_rounds 1 ?_
  rw [rounds_succ]
  go_wp2_with fail
  refine (contB_c _ _ hRL).mono ?_; rintro e wx ⟨rfl, rfl⟩
  go_wp2_with fail
  go_ret2
  exact ⟨go, rfl, hO, hG⟩
set_option maxRecDepth 100000 in
set_option maxHeartbeats 4000000 in
theorem costA_c (vl vn : Value) (w : World) (hl : RdI w vl [1, -1]) (hn : RdR w 3 lnC vn [(0, 1, 4)]) :
    Calls Tryd.prog 160 #[vl, vn] w fun e w' => e = .returned (.tuple #[.int .i64 4, .bool true]) ∧ G w w' none := by
  have CL := Lib.hid (leastA_c vl vn w hl hn)
  obtain ⟨an, cn, rfl, -, -⟩ := RdR.form hn
  obtain ⟨bn, on, rfl, hbn, -⟩ := RdR.elem lnC_sz hn (G.refl _ none) (k := 0) (p := (0, 1, 4)) rfl
  go_enter Tryd.func160, Tryd.ntmps160
  go_wp2_with fail
  refine CL.out.mono ?_; rintro e w1 ⟨go, rfl, hO, hG⟩
  have n2 := RdR.cell lnC_sz hn hG (k := 0) (p := (0, 1, 4)) rfl 2 (.int .i64 4) rfl
  have o0 : w1.cell? ⟨go, 0, none⟩ = some (.int .i64 1) := hO.cell 0
  simp only [Nat.zero_mul, Nat.zero_add] at n2
  go_wp2_with fail
  refine wp_loop_rounds 2 ?_
  rw [rounds_succ]
  go_wp2_with fail
  rw [rounds_succ]
  go_wp2_with fail
  go_ret2
  exact ⟨rfl, hG⟩
set_option maxRecDepth 100000 in
set_option maxHeartbeats 4000000 in
theorem costB_c (vl vn : Value) (w : World) (hl : RdI w vl [0, 0]) (hn : RdR w 3 lnC vn []) :
    Calls Tryd.prog 160 #[vl, vn] w fun e w' => e = .returned (.tuple #[.int .i64 0, .bool true]) ∧ G w w' none := by
  have CL := Lib.hid (leastB_c vl vn w hl hn)
  obtain ⟨an, cn, rfl, -, -⟩ := RdR.form hn
  go_enter Tryd.func160, Tryd.ntmps160
  go_wp2_with fail
  refine CL.out.mono ?_; rintro e w1 ⟨go, rfl, hO, hG⟩
  go_wp2_with fail
  refine wp_loop_rounds 1 ?_
  rw [rounds_succ]
  go_wp2_with fail
  go_ret2
  exact ⟨rfl, hG⟩
end Go.Proofs.YtndeidcddlmhbaaDoor

/- shift.Plan at one road: needs, roads, lanes. Written by genpld.py. -/
namespace Go.Proofs.YtndeidcddlmhbaaDoor
open Go.RowKit

/-- A need: station, how many. -/
abbrev Ne := ByteArray × Int
def neC (x : Ne) : Array Value := #[.string x.1, .int .i64 x.2]
theorem neC_sz (x : Ne) : (neC x).size = 2 := rfl
theorem ne_info (x : Ne) : (Tryd.prog.info? 189).map (·.size) = some (neC x).size := (by kernel_rfl : (Tryd.prog.info? 189).map (·.size) = some 2)
def NeOk (l : List Ne) : Prop := ∀ x ∈ l, Small x.1
def neT (x : Ne) : Bool := inB x.2 (-20) 20
def neErr (b : ByteArray) : List Ne → Int
  | [] => 0
  | x :: r => if keyB x.1 = false then 5 else if leB x.1 b = true then 7 else if neT x = false then 1 else neErr x.1 r
def neE (l : List Ne) : Int := if 10 < l.length then 2 else neErr ⟨#[]⟩ l
def NeRel (w : World) (l : List Ne) (v i : Value) (wr : World) : Prop :=
  ∃ (k : Nat) (b : ByteArray), k ≤ l.length ∧ i = .int .i64 k ∧ v = .string b ∧ neErr ⟨#[]⟩ l = neErr b (l.drop k) ∧ G w wr none
theorem neRow {W w : World} {bb bo n cap : Nat} {l : List Ne} (h : RdR W 2 neC (.slice (some ⟨bb, bo, none⟩) n cap) l) (hG : G W w none) {k : Nat} {p : Ne} (hp : l[k]? = some p) :
    ∀ j v, (neC p).toList[j]? = some v → w.cell? ((⟨bb, bo + k * 2, none⟩ : Addr).add j) = some v := fun j v hv => by
  rw [add_at]
  exact RdR.cell neC_sz h hG hp j v hv
set_option maxRecDepth 100000 in
set_option maxHeartbeats 4000000 in
theorem checkNeeds_c (v : Value) (l : List Ne) (w : World) (hr : RdR w 2 neC v l) (hl : NeOk l) (hn : l.length ≤ 1000) :
    Calls Tryd.prog 173 #[v] w fun e w' => e = .returned (.int .i64 (neE l)) ∧ G w w' none := by
  have HR := Lib.hid hr
  obtain ⟨a, cap, rfl, hcap, hm⟩ := RdR.form hr
  clear hr
  by_cases h30 : 10 < l.length
  · have H := Lib.hid (show neE l = 2 by simp [neE, h30])
    go_enter Tryd.func173, Tryd.ntmps173
    go_wp2_with fail
    go_ret
    exact ⟨by rw [H.out]; rfl, G.refl _ _⟩
  · have H := Lib.hid (show neE l = neErr ⟨#[]⟩ l by simp [neE, h30])
    go_enter Tryd.func173, Tryd.ntmps173
    go_wp2_with fail
    go_loopw [3, 11] (NeRel w l) (fun _ i _ => l.length - (intOf i).toNat)
    case atStart => exact ⟨0, ⟨#[]⟩, by omega, rfl, rfl, rfl, G.refl _ _⟩
    case round =>
      obtain ⟨k, b, hkl, rfl, rfl, heq, hG⟩ := hrel
      have HE := Lib.hid heq
      clear heq
      by_cases hk : k < l.length
      · obtain ⟨p, hp⟩ : ∃ p, l[k]? = some p := ⟨_, List.getElem?_eq_getElem hk⟩
        have hdrop : l.drop k = p :: l.drop (k + 1) := by rw [List.drop_eq_getElem_cons hk, ← (List.getElem?_eq_some_iff.1 hp).2]
        have hs1 := hl p (List.mem_of_getElem? hp)
        obtain ⟨bb, bo, rfl, -, -⟩ := RdR.elem neC_sz HR.out hG hp
        have HW := Lib.hid (neRow HR.out hG hp)
        unfold Small at hs1
        have HS : Hid (neErr b (l.drop k) = if keyB p.1 = false then 5 else if leB p.1 b = true then 7 else if neT p = false then 1 else neErr p.1 (l.drop (k + 1))) := Lib.hid (by rw [hdrop]; rfl)
        have HK := Lib.hid hk
        have hB5 : Bk (wr.alloc (.cells #[.string p.1, .int .i64 p.2] 189)) wr.heap.size 189 (neC p) := Bk.new _ _ _
        have hG5 := hG.alloc (.cells #[.string p.1, .int .i64 p.2] 189)
        clear hdrop hp hG
        go_wp2_with (refine wpList_load_at rfl 189 _ rfl ⟨bb, bo + k * 2, none⟩ rfl #[.string p.1, .int .i64 p.2] _ HW.out Tryd.underlying189 rfl (ne_info p) ?_)
        generalize wr.alloc (.cells #[.string p.1, .int .i64 p.2] 189) = w5 at hB5 hG5 ⊢
        generalize wr.heap.size = g at hB5 ⊢
        refine (isKey_c _ _ hs1).mono ?_; rintro e w1 ⟨rfl, rfl⟩
        have c0 : w5.cell? ⟨g, 0, none⟩ = some (.string p.1) := hB5.cell 0
        have c1 : w5.cell? ⟨g, 1, none⟩ = some (.int .i64 p.2) := hB5.cell 1
        cases hkb : keyB p.1 with
        | false =>
          have HF : Hid (neE l = 5) := Lib.hid (by rw [H.out, HE.out, HS.out, if_pos hkb])
          clear hkb
          go_wp2_with fail
          go_ret
          exact ⟨by rw [HF.out]; rfl, hG5⟩
        | true =>
          have HKB := Lib.hid hkb
          clear hkb
          cases hle : leB p.1 b with
          | true =>
            have HF : Hid (neE l = 7) := Lib.hid (by rw [H.out, HE.out, HS.out, if_neg (by simp [HKB.out]), if_pos hle])
            unfold leB at hle
            go_wp2_with fail
            go_ret
            exact ⟨by rw [HF.out]; rfl, hG5⟩
          | false =>
            have HS2 : Hid (neErr ⟨#[]⟩ l = if neT p = false then 1 else neErr p.1 (l.drop (k + 1))) := Lib.hid (by rw [HE.out, HS.out, if_neg (by simp [HKB.out]), if_neg (by simp [hle])])
            unfold leB at hle
            clear HS HE
            go_wp2_with fail
            refine (within_c p.2 (-20) 20 _).mono ?_; rintro e w' ⟨rfl, rfl⟩
            cases k0 : inB p.2 (-20) 20 with
            | false =>
              have HF : Hid (neE l = 1) := Lib.hid (by rw [H.out, HS2.out, if_pos (by simp [neT, k0])])
              clear k0
              go_wp2_with fail
              go_ret
              exact ⟨by rw [HF.out]; rfl, hG5⟩
            | true =>
              have K0 := Lib.hid k0
              clear k0
              have HF : Hid (neErr ⟨#[]⟩ l = neErr p.1 (l.drop (k + 1))) := Lib.hid (by rw [HS2.out, if_neg (by simp [neT, K0.out])])
              go_wp2_with fail
              go_roundw
              case rel => exact ⟨k + 1, p.1, by omega, by go_num, rfl, HF.out, hG5⟩
              case measure => have := HK.out; simp [intOf]; omega
      · obtain rfl : k = l.length := by omega
        have HE2 : Hid (neE l = 0) := Lib.hid (by rw [H.out, HE.out, List.drop_length]; rfl)
        go_wp2_with fail
        go_ret
        exact ⟨by rw [HE2.out]; rfl, hG⟩

/-- A road: from, to, what a car costs, a ride. -/
abbrev Ro := ByteArray × ByteArray × Int × Int
def roC (x : Ro) : Array Value := #[.string x.1, .string x.2.1, .int .i64 x.2.2.1, .int .i64 x.2.2.2]
theorem roC_sz (x : Ro) : (roC x).size = 4 := rfl
theorem ro_info (x : Ro) : (Tryd.prog.info? 192).map (·.size) = some (roC x).size := (by kernel_rfl : (Tryd.prog.info? 192).map (·.size) = some 4)
abbrev Wy := ByteArray × ByteArray
def wyC (x : Wy) : Array Value := #[.string x.1, .string x.2]
theorem wy_info (x : Wy) : (Tryd.prog.info? 262).map (·.size) = some (wyC x).size := (by kernel_rfl : (Tryd.prog.info? 262).map (·.size) = some 2)
def cmpW (x y : Wy) : Int := orI (cmpI x.1 y.1) (cmpI x.2 y.2)
set_option maxRecDepth 100000 in
set_option maxHeartbeats 1000000 in
theorem compareWays_c (x y : Wy) (w : World) :
    Calls Tryd.prog 209 #[.agg (wyC x), .agg (wyC y)] w fun e w' => e = .returned (.int .i64 (cmpW x y)) ∧ G w w' none := by
  have hBx := (Bk.new w 262 (wyC x)).alloc (.cells (wyC y) 262)
  have hBy := Bk.newAt (w := w.alloc (.cells (wyC x) 262)) (b := w.heap.size + 1) (by simp) 262 (wyC y)
  have hG := ((G.refl w none).alloc (.cells (wyC x) 262)).alloc (.cells (wyC y) 262)
  have HF : Hid (orI (cmpI x.1 y.1) (cmpI x.2 y.2) = cmpW x y) := Lib.hid rfl
  go_enter Tryd.func209, Tryd.ntmps209
  go_wp2_with fail
  generalize ((w.alloc (.cells (wyC x) 262)).alloc (.cells (wyC y) 262)) = w3 at hBx hBy hG ⊢
  have c1 : w3.cell? ⟨w.heap.size, 0, none⟩ = some (.string x.1) := hBx.cell 0
  have c2 : w3.cell? ⟨w.heap.size, 1, none⟩ = some (.string x.2) := hBx.cell 1
  have c3 : w3.cell? ⟨w.heap.size + 1, 0, none⟩ = some (.string y.1) := hBy.cell 0
  have c4 : w3.cell? ⟨w.heap.size + 1, 1, none⟩ = some (.string y.2) := hBy.cell 1
  have hGd := hG.drew
  clear hBx hBy hG
  go_region_held3 (fun w' => w'.cell? ⟨w.heap.size, 0, none⟩ = some (.string x.1) ∧ w'.cell? ⟨w.heap.size, 1, none⟩ = some (.string x.2) ∧ w'.cell? ⟨w.heap.size + 1, 0, none⟩ = some (.string y.1) ∧ w'.cell? ⟨w.heap.size + 1, 1, none⟩ = some (.string y.2)) (first | exact ⟨c1, c2, c3, c4⟩ | go_keep) (first | (go_at_call 141; refine (compare_c _ _ _).mono ?_; rintro e w' ⟨rfl, rfl⟩) | (go_at_call 140; refine (or2_c _ _ _ _ ((Bk.new w3 _ _).quiet ((G.refl _ none).drew))).mono ?_; rintro e w' ⟨rfl, rfl⟩))
  go_wp2_with fail
  go_ret
  exact ⟨ret_int HF.out, hGd.alloc _⟩
theorem roRate_c (n : Int) (w : World) : Calls Tryd.prog 154 #[.int .i64 n] w fun e w' => e = .returned (.bool (inB n 0 1000000)) ∧ w = w' := by
  go_enter Tryd.func154, Tryd.ntmps154
  go_wp2_with fail
  refine (within_c n 0 1000000 _).mono ?_; rintro e w' ⟨rfl, rfl⟩
  go_wp2_with fail
  go_ret
  exact ⟨rfl, rfl⟩
/-- The stations of the one road. -/
def sA : ByteArray := ⟨#[97]⟩
def sB : ByteArray := ⟨#[98]⟩
set_option maxRecDepth 100000 in
set_option maxHeartbeats 2000000 in
theorem wayOf_c (a b : ByteArray) (c d : Int) (w : World) : Calls Tryd.prog 196 #[.agg #[.string a, .string b, .int .i64 c, .int .i64 d]] w fun e w' => e = .returned (.agg #[.string a, .string b]) ∧ G w w' none := by
  have hB := (Bk.new w 192 #[.string a, .string b, .int .i64 c, .int .i64 d])
  have hG := (G.refl w none).alloc (.cells #[.string a, .string b, .int .i64 c, .int .i64 d] 192)
  go_enter Tryd.func196, Tryd.ntmps196
  go_wp2_with fail
  refine bodyPost_ret (results_cell_row rfl _ _ (w.heap.size + 1) 262 #[.string a, .string b] (0, 0) _ rfl (Bk.newAt (by simp) _ _) Tryd.underlying262 rfl (wy_info (a, b))) rfl ?_
  exact ⟨rfl, hG.alloc _⟩
set_option maxRecDepth 100000 in
set_option maxHeartbeats 2000000 in
theorem isRight_c (a b : ByteArray) (c d : Int) (hc : inB c 0 1000000 = true) (w : World) : Calls Tryd.prog 198 #[.agg #[.string a, .string b, .int .i64 c, .int .i64 d]] w fun e w' => e = .returned (.bool (inB d 0 1000000)) ∧ G w w' none := by
  have hB := (Bk.new w 192 #[.string a, .string b, .int .i64 c, .int .i64 d])
  have hG := (G.refl w none).alloc (.cells #[.string a, .string b, .int .i64 c, .int .i64 d] 192)
  go_enter Tryd.func198, Tryd.ntmps198
  go_upto_region 1 with fail
  generalize w.alloc (.cells #[.string a, .string b, .int .i64 c, .int .i64 d] 192) = w1 at hB hG ⊢
  generalize w.heap.size = g at hB ⊢
  have c2 : w1.cell? ⟨g, 2, none⟩ = some (.int .i64 c) := hB.cell 2
  have c3 : w1.cell? ⟨g, 3, none⟩ = some (.int .i64 d) := hB.cell 3
  go_wp2_with fail
  refine (roRate_c _ _).mono ?_; rintro e w' ⟨rfl, rfl⟩
  rw [hc]
  go_wp2_with fail
  refine (roRate_c _ _).mono ?_; rintro e w' ⟨rfl, rfl⟩
  go_wp2_with fail
  go_ret
  exact ⟨rfl, hG⟩
set_option maxRecDepth 100000 in
set_option maxHeartbeats 4000000 in
theorem manyOf_c (v : Value) (a b : ByteArray) (w : World) (hr : RdR w 2 neC v [(a, 1), (b, -1)]) :
    Calls Tryd.prog 158 #[v] w fun e w' => ∃ g, e = .returned (.slice (some ⟨g, 0, none⟩) 2 2) ∧ w.heap.size ≤ g ∧ Bk w' g 3 #[.int .i64 1, .int .i64 (-1)] ∧ G w w' none := by
  have hmk : ∀ w : World, (Instr.makeSlice 22 (.int .i64 2) (.int .i64 2)).run Tryd.prog w = .ok (.slice (some ⟨w.heap.size, 0, none⟩) 2 2) (w.alloc (.cells #[.int .i64 0, .int .i64 0] 3)) := fun w => by kernel_rfl
  obtain ⟨bb, bo, cap, e⟩ : ∃ bb bo cap, v = .slice (some ⟨bb, bo, none⟩) 2 cap := by
    obtain ⟨al, cl, rfl, -, -⟩ := RdR.form hr
    obtain ⟨bb, bo, rfl, -, -⟩ := RdR.elem neC_sz hr (G.refl w none) (k := 0) (p := (a, 1)) rfl
    exact ⟨bb, bo, cl, rfl⟩
  subst e
  have hcell : Hid (∀ w', G w w' none → w'.cell? ⟨bb, bo, none⟩ = some (.string a) ∧ w'.cell? ⟨bb, bo + 1, none⟩ = some (.int .i64 1) ∧ w'.cell? ⟨bb, bo + 2, none⟩ = some (.string b) ∧ w'.cell? ⟨bb, bo + 3, none⟩ = some (.int .i64 (-1))) := Lib.hid (fun w' h => by
    have e0 := RdR.cell neC_sz hr h (k := 0) (p := (a, 1)) rfl 0 (.string a) rfl
    have e1 := RdR.cell neC_sz hr h (k := 0) (p := (a, 1)) rfl 1 (.int .i64 1) rfl
    have e2 := RdR.cell neC_sz hr h (k := 1) (p := (b, -1)) rfl 0 (.string b) rfl
    have e3 := RdR.cell neC_sz hr h (k := 1) (p := (b, -1)) rfl 1 (.int .i64 (-1)) rfl
    simp only [Nat.zero_mul, Nat.one_mul, Nat.add_zero] at e0 e1 e2 e3
    exact ⟨e0, e1, e2, e3⟩)
  clear hr
  go_enter Tryd.func158, Tryd.ntmps158
  go_upto_region 2 with fail
  have hB := Bk.new w 3 #[.int .i64 0, .int .i64 0]
  have hG := (G.refl w none).alloc (.cells #[.int .i64 0, .int .i64 0] 3)
  generalize w.alloc (.cells #[.int .i64 0, .int .i64 0] 3) = w1 at hB hG ⊢
  obtain ⟨g, hg⟩ : ∃ g, w.heap.size = g := ⟨_, rfl⟩
  have hgs : w.heap.size ≤ g := by omega
  rw [hg] at hB ⊢
  clear hg
  go_wp2_with fail
  refine wp_loop_rounds 3 ?_
  rw [rounds_succ]
  obtain ⟨e0, e1, e2, e3⟩ := hcell.out _ hG
  have b0 : w1.cell? ⟨g, 0, none⟩ = some (.int .i64 0) := hB.cell 0
  have f0 : w1.frozen? ⟨g, 0, none⟩ = false := hB.free 0
  go_upto_region 5 with fail
  have hN := Bk.new w1 189 #[.string a, .int .i64 1]
  have hgN : g < w1.heap.size := hB.lt
  replace hB := hB.alloc (.cells #[.string a, .int .i64 1] 189)
  replace hG := hG.alloc (.cells #[.string a, .int .i64 1] 189)
  clear e0 e1 e2 e3 b0 f0
  generalize w1.alloc (.cells #[.string a, .int .i64 1] 189) = wn0 at hN hB hG ⊢
  generalize w1.heap.size = n at hN hgN ⊢
  have n1 : wn0.cell? ⟨n, 1, none⟩ = some (.int .i64 1) := hN.cell 1
  have b0 : wn0.cell? ⟨g, 0, none⟩ = some (.int .i64 0) := hB.cell 0
  have f0 : wn0.frozen? ⟨g, 0, none⟩ = false := hB.free 0
  go_wp2_with fail
  replace hB := hB.set 0 (.int .i64 1)
  replace hG := hG.setCell (p := ⟨g, 0, none⟩) (.inl hgs) (.int .i64 1)
  clear n1 b0 f0 hN hgN
  generalize wn0.setCell ⟨g, 0, none⟩ (.int .i64 1) = wz0 at hB hG ⊢
  rw [rounds_succ]
  obtain ⟨e0, e1, e2, e3⟩ := hcell.out _ hG
  have b0 : wz0.cell? ⟨g, 1, none⟩ = some (.int .i64 0) := hB.cell 1
  have f0 : wz0.frozen? ⟨g, 1, none⟩ = false := hB.free 1
  go_upto_region 5 with fail
  have hN := Bk.new wz0 189 #[.string b, .int .i64 (-1)]
  have hgN : g < wz0.heap.size := hB.lt
  replace hB := hB.alloc (.cells #[.string b, .int .i64 (-1)] 189)
  replace hG := hG.alloc (.cells #[.string b, .int .i64 (-1)] 189)
  clear e0 e1 e2 e3 b0 f0
  generalize wz0.alloc (.cells #[.string b, .int .i64 (-1)] 189) = wn1 at hN hB hG ⊢
  generalize wz0.heap.size = n at hN hgN ⊢
  have n1 : wn1.cell? ⟨n, 1, none⟩ = some (.int .i64 (-1)) := hN.cell 1
  have b0 : wn1.cell? ⟨g, 1, none⟩ = some (.int .i64 0) := hB.cell 1
  have f0 : wn1.frozen? ⟨g, 1, none⟩ = false := hB.free 1
  go_wp2_with fail
  replace hB := hB.set 1 (.int .i64 (-1))
  replace hG := hG.setCell (p := ⟨g, 1, none⟩) (.inl hgs) (.int .i64 (-1))
  clear n1 b0 f0 hN hgN
  generalize wn1.setCell ⟨g, 1, none⟩ (.int .i64 (-1)) = wz1 at hB hG ⊢
  rw [rounds_succ]
  go_wp2_with fail
  go_ret
  exact ⟨g, rfl, hgs, hB, hG⟩
end Go.Proofs.YtndeidcddlmhbaaDoor

/- A slice of a slice, from a place on. -/
namespace Go.Proofs.YtndeidcddlmhbaaDoor
open Go.RowKit

theorem RdR.dropQ {α : Type} {w : World} {z : Nat} {c : α → Array Value} {bb bo n cap : Nat} {l : List α} (hz : ∀ p, (c p).size = z) (h : RdR w z c (.slice (some ⟨bb, bo, none⟩) n cap) l) (k : Nat) (hk : k ≤ l.length) :
    RdR w z c (.slice (if cap = k then some ⟨bb, bo, none⟩ else some ⟨bb, bo + k * z, none⟩) (n - k) (cap - k)) (l.drop k) := by
  obtain ⟨a', c', e, h1, h2, h3, h4, h5⟩ := h
  cases e
  have hlen : (l.drop k).length = l.length - k := List.length_drop
  refine ⟨_, _, by rw [hlen], by omega, by omega, rowL_len hz _, fun e => ?_, fun b hb => ?_⟩
  · split at e <;> simp at e
  · obtain ⟨q1, q2, q3⟩ := h5 _ rfl
    by_cases hc : cap = k
    · rw [if_pos hc] at hb
      cases hb
      have hl0 : l.drop k = [] := List.eq_nil_of_length_eq_zero (by omega)
      exact ⟨q1, q2, fun j u hj => by rw [hl0] at hj; simp [rowL] at hj⟩
    · rw [if_neg hc] at hb
      cases hb
      refine ⟨rfl, q2, fun j u hj => ?_⟩
      have e2 : rowL c l = rowL c (l.take k) ++ rowL c (l.drop k) := by
        unfold rowL
        rw [← List.flatMap_append, List.take_append_drop]
      have hlk : (rowL c (l.take k)).length = k * z := by rw [rowL_len hz, List.length_take, Nat.min_eq_left hk]
      have := q3 (k * z + j) u (by rw [e2, List.getElem?_append_right (by omega), hlk, show k * z + j - k * z = j by omega]; exact hj)
      dsimp only at this ⊢
      rw [show bo + k * z + j = bo + (k * z + j) by omega]
      exact this
end Go.Proofs.YtndeidcddlmhbaaDoor

/- shift.Plan at one road: firstLoad. Written by genplb.py. -/
namespace Go.Proofs.YtndeidcddlmhbaaDoor
open Go.RowKit

set_option maxRecDepth 100000 in
set_option maxHeartbeats 4000000 in
theorem first_c (vl vn : Value) (w : World) (hl : RdI w vl [1, -1]) (hn : RdR w 3 lnC vn [(0, 1, 4)]) :
    Calls Tryd.prog 161 #[vl, vn, .int .i64 4] w fun e w' => e = .returned (.int .i64 1) ∧ G w w' none := by
  have CC := Lib.hid (cloneIn_c vl _ w hl (by simp))
  obtain ⟨an, cn, rfl, hcn, -⟩ := RdR.form hn
  obtain ⟨bn, on, rfl, hbn, -⟩ := RdR.elem lnC_sz hn (G.refl _ none) (k := 0) (p := (0, 1, 4)) rfl
  go_enter Tryd.func161, Tryd.ntmps161
  go_wp2_with fail
  refine CC.out.mono ?_; rintro e w1 ⟨vL, rfl, hL, hG⟩
  obtain ⟨gl, cL, cur, e, hBL⟩ := OwnX.form0 hL (by simp)
  subst e
  have n0 := RdR.cell lnC_sz hn hG (k := 0) (p := (0, 1, 4)) rfl 0 (.int .i64 0) rfl
  have n1 := RdR.cell lnC_sz hn hG (k := 0) (p := (0, 1, 4)) rfl 1 (.int .i64 1) rfl
  have n2 := RdR.cell lnC_sz hn hG (k := 0) (p := (0, 1, 4)) rfl 2 (.int .i64 4) rfl
  simp only [Nat.zero_mul, Nat.one_mul, Nat.add_zero, Nat.zero_add] at n0 n1 n2
  go_upto_region 3 with fail
  have hN := Bk.new w1 235 #[.int .i64 0, .int .i64 1, .int .i64 4]
  replace hL := OwnX.alloc hL (.cells #[.int .i64 0, .int .i64 1, .int .i64 4] 235)
  have hlt := hBL.lt
  replace hBL := hBL.alloc (.cells #[.int .i64 0, .int .i64 1, .int .i64 4] 235)
  replace hG := hG.alloc (.cells #[.int .i64 0, .int .i64 1, .int .i64 4] 235)
  clear n0 n1 n2
  generalize w1.alloc (.cells #[.int .i64 0, .int .i64 1, .int .i64 4] 235) = w2 at hN hL hBL hG ⊢
  generalize w1.heap.size = n at hN hlt ⊢
  have m0 : w2.cell? ⟨n, 0, none⟩ = some (.int .i64 0) := hN.cell 0
  have m1 : w2.cell? ⟨n, 1, none⟩ = some (.int .i64 1) := hN.cell 1
  have m2 : w2.cell? ⟨n, 2, none⟩ = some (.int .i64 4) := hN.cell 2
  have l0 := RdR.cell inC_sz (Rd.of_owns hL) (G.refl _ none) (k := 0) (p := 1) rfl 0 (.int .i64 1) rfl
  have l1 := RdR.cell inC_sz (Rd.of_owns hL) (G.refl _ none) (k := 1) (p := -1) rfl 0 (.int .i64 (-1)) rfl
  simp only [Nat.zero_mul, Nat.one_mul, Nat.add_zero, Nat.zero_add] at l0 l1
  have f0 := hBL.free 0
  have f1 := hBL.free 1
  have hgl : w.heap.size ≤ gl := OwnX.low hL gl rfl
  have hng : n ≠ gl := by omega
  have k1 := OwnX.set inC_sz hL (k := 0) (p := 1) rfl (q := 0) 0 (.int .i64 0) (by omega) rfl
  have k2 := OwnX.set (l := [0, -1]) inC_sz k1 (k := 1) (p := -1) rfl (q := 0) 0 (.int .i64 0) (by omega) rfl
  have k4 : RdI ((w2.setCell ⟨gl, 0, none⟩ (.int .i64 0)).setCell ⟨gl, 1, none⟩ (.int .i64 0)) (.slice (some ⟨gl, 0, none⟩) 2 cL) [0, 0] := Rd.of_owns k2
  have hG3 := (hG.setCell (p := ⟨gl, 0, none⟩) (.inl hgl) (.int .i64 0)).setCell (p := ⟨gl, 1, none⟩) (.inl hgl) (.int .i64 0)
  have hN3 := (hN.far (p := ⟨gl, 0, none⟩) hng (.int .i64 0)).far (p := ⟨gl, 1, none⟩) hng (.int .i64 0)
  have hD := RdR.dropQ lnC_sz (hn.quiet hG3) 1 (by simp)
  clear k1 k2 hL hBL hN
  by_cases hc1 : cn = 1
  · subst hc1
    rw [if_pos rfl] at hD
    go_wp2_with fail
    refine wp_loop_rounds 1 ?_
    rw [rounds_succ]
    go_wp2_with fail
    refine (costB_c _ _ _ k4 hD).mono ?_; rintro e w3 ⟨rfl, hh⟩
    have m2 : w3.cell? ⟨n, 2, none⟩ = some (.int .i64 4) := (hN3.quiet hh).cell 2
    go_wp2_with fail
    go_ret
    exact ⟨rfl, hG3.trans hh⟩
  · rw [if_neg hc1] at hD
    go_wp2_with fail
    refine wp_loop_rounds 1 ?_
    rw [rounds_succ]
    go_wp2_with fail
    refine (costB_c _ _ _ k4 hD).mono ?_; rintro e w3 ⟨rfl, hh⟩
    have m2 : w3.cell? ⟨n, 2, none⟩ = some (.int .i64 4) := (hN3.quiet hh).cell 2
    go_wp2_with fail
    go_ret
    exact ⟨rfl, hG3.trans hh⟩
end Go.Proofs.YtndeidcddlmhbaaDoor

/- shift.Plan at one road: CheckRoads, the lanes, the plan. Written by genple.py. -/
namespace Go.Proofs.YtndeidcddlmhbaaDoor
open Go.RowKit

set_option maxRecDepth 100000 in
set_option maxHeartbeats 4000000 in
theorem checkWays_c (v : Value) (w : World) (hr : RdR w 4 roC v [(sA, sB, 4, 0)]) :
    Calls Tryd.prog 197 #[v, .func (.func 196) #[] #[], .func (.func 198) #[] #[]] w fun e w' => e = .returned (.int .i64 0) ∧ G w w' none := by
  have hG := G.refl w none
  obtain ⟨al, cl, rfl, -, -⟩ := RdR.form hr
  obtain ⟨bb, bo, rfl, -, -⟩ := RdR.elem roC_sz hr hG (k := 0) (p := (sA, sB, 4, 0)) rfl
  have hcell : Hid (∀ w', G w w' none → w'.cell? ⟨bb, bo, none⟩ = some (.string sA) ∧ w'.cell? ⟨bb, bo + 1, none⟩ = some (.string sB) ∧ w'.cell? ⟨bb, bo + 2, none⟩ = some (.int .i64 4) ∧ w'.cell? ⟨bb, bo + 3, none⟩ = some (.int .i64 0)) := Lib.hid (fun w' h => by
    have e0 := RdR.cell roC_sz hr h (k := 0) (p := (sA, sB, 4, 0)) rfl 0 (.string sA) rfl
    have e1 := RdR.cell roC_sz hr h (k := 0) (p := (sA, sB, 4, 0)) rfl 1 (.string sB) rfl
    have e2 := RdR.cell roC_sz hr h (k := 0) (p := (sA, sB, 4, 0)) rfl 2 (.int .i64 4) rfl
    have e3 := RdR.cell roC_sz hr h (k := 0) (p := (sA, sB, 4, 0)) rfl 3 (.int .i64 0) rfl
    simp only [Nat.zero_mul, Nat.add_zero] at e0 e1 e2 e3
    exact ⟨e0, e1, e2, e3⟩)
  have HkA : Hid (keyB sA = true) := Lib.hid (by decide)
  have HkB : Hid (keyB sB = true) := Lib.hid (by decide)
  have hne : (sA == sB) = false := by decide
  have hne2 : (sA.toList == sB.toList) = false := by kernel_rfl
  have HcW : Hid (cmpW (sA, sB) (⟨#[]⟩, ⟨#[]⟩) = 1) := Lib.hid (by decide)
  have HiR : Hid (inB 0 0 1000000 = true) := Lib.hid (by decide)
  have CW := Lib.hid (wayOf_c sA sB 4 0)
  have CR := Lib.hid (isRight_c sA sB 4 0 (by decide))
  have CC := Lib.hid (compareWays_c (sA, sB) (⟨#[]⟩, ⟨#[]⟩))
  have CA := Lib.hid (fun w => isKey_c sA w (by decide))
  have CB := Lib.hid (fun w => isKey_c sB w (by decide))
  clear hr
  generalize sA = a at hcell HkA hne hne2 HcW CW CR CC CA ⊢
  generalize sB = b at hcell HkB hne hne2 HcW CW CR CC CB ⊢
  go_enter Tryd.func197, Tryd.ntmps197
  go_upto_region 4 with fail
  have hZ := Bk.new w 262 #[.string ⟨#[]⟩, .string ⟨#[]⟩]
  replace hG := hG.alloc (.cells #[.string ⟨#[]⟩, .string ⟨#[]⟩] 262)
  generalize w.alloc (.cells #[.string ⟨#[]⟩, .string ⟨#[]⟩] 262) = w1 at hZ hG ⊢
  obtain ⟨g, hg⟩ : ∃ g, w.heap.size = g := ⟨_, rfl⟩
  have hgs : w.heap.size ≤ g := by omega
  rw [hg] at hZ ⊢
  clear hg
  go_wp2_with fail
  refine wp_loop_rounds 2 ?_
  rw [rounds_succ]
  obtain ⟨e0, e1, e2, e3⟩ := hcell.out _ hG
  go_upto_region 7 with fail
  have hN := Bk.new w1 192 #[.string a, .string b, .int .i64 4, .int .i64 0]
  replace hZ := hZ.alloc (.cells #[.string a, .string b, .int .i64 4, .int .i64 0] 192)
  replace hG := hG.alloc (.cells #[.string a, .string b, .int .i64 4, .int .i64 0] 192)
  clear e0 e1 e2 e3
  generalize w1.alloc (.cells #[.string a, .string b, .int .i64 4, .int .i64 0] 192) = w2 at hN hZ hG ⊢
  generalize w1.heap.size = n at hN ⊢
  have n0 : w2.cell? ⟨n, 0, none⟩ = some (.string a) := hN.cell 0
  have n1 : w2.cell? ⟨n, 1, none⟩ = some (.string b) := hN.cell 1
  have n2 : w2.cell? ⟨n, 2, none⟩ = some (.int .i64 4) := hN.cell 2
  have n3 : w2.cell? ⟨n, 3, none⟩ = some (.int .i64 0) := hN.cell 3
  go_wp2_with fail
  refine (CW.out _).mono ?_; rintro e w3 ⟨rfl, hh⟩
  replace hN := hN.quiet hh
  replace hZ := hZ.quiet hh
  replace hG := hG.trans hh
  clear hh n0 n1 n2 n3
  go_upto_region 8 with fail
  have hM := Bk.new w3 262 #[.string a, .string b]
  have hgM : g < w3.heap.size := hZ.lt
  replace hN := hN.alloc (.cells #[.string a, .string b] 262)
  replace hZ := hZ.alloc (.cells #[.string a, .string b] 262)
  replace hG := hG.alloc (.cells #[.string a, .string b] 262)
  generalize w3.alloc (.cells #[.string a, .string b] 262) = w4 at hM hN hZ hG ⊢
  generalize w3.heap.size = m at hM hgM ⊢
  have m0 : w4.cell? ⟨m, 0, none⟩ = some (.string a) := hM.cell 0
  have m1 : w4.cell? ⟨m, 1, none⟩ = some (.string b) := hM.cell 1
  have z0 : w4.cell? ⟨g, 0, none⟩ = some (.string ⟨#[]⟩) := hZ.cell 0
  have z1 : w4.cell? ⟨g, 1, none⟩ = some (.string ⟨#[]⟩) := hZ.cell 1
  go_wp2_with fail
  refine (CA.out _).mono ?_; rintro e w' ⟨rfl, rfl⟩
  rw [HkA.out]
  go_wp2_with fail
  refine (CB.out _).mono ?_; rintro e w' ⟨rfl, rfl⟩
  rw [HkB.out]
  go_wp2_with fail
  refine (CC.out _).mono ?_; rintro e w5 ⟨rfl, hh⟩
  rw [HcW.out]
  replace hM := hM.quiet hh
  replace hN := hN.quiet hh
  replace hZ := hZ.quiet hh
  replace hG := hG.trans hh
  clear hh m0 m1 z0 z1
  have n0 : w5.cell? ⟨n, 0, none⟩ = some (.string a) := hN.cell 0
  have n1 : w5.cell? ⟨n, 1, none⟩ = some (.string b) := hN.cell 1
  have n2 : w5.cell? ⟨n, 2, none⟩ = some (.int .i64 4) := hN.cell 2
  have n3 : w5.cell? ⟨n, 3, none⟩ = some (.int .i64 0) := hN.cell 3
  go_wp2_with fail
  refine (CR.out _).mono ?_; rintro e w6 ⟨rfl, hh⟩
  rw [HiR.out]
  replace hM := hM.quiet hh
  replace hZ := hZ.quiet hh
  replace hG := hG.trans hh
  clear hh n0 n1 n2 n3 hN
  have m0 : w6.cell? ⟨m, 0, none⟩ = some (.string a) := hM.cell 0
  have m1 : w6.cell? ⟨m, 1, none⟩ = some (.string b) := hM.cell 1
  have z0 : w6.cell? ⟨g, 0, none⟩ = some (.string ⟨#[]⟩) := hZ.cell 0
  have z1 : w6.cell? ⟨g, 1, none⟩ = some (.string ⟨#[]⟩) := hZ.cell 1
  have f0 : w6.frozen? ⟨g, 0, none⟩ = false := hZ.free 0
  have f1 : w6.frozen? ⟨g, 1, none⟩ = false := hZ.free 1
  go_wp2_with fail
  rw [rounds_succ]
  go_wp2_with fail
  go_ret
  exact ⟨rfl, (hG.setCell (p := ⟨g, 0, none⟩) (.inl hgs) _).setCell (p := ⟨g, 1, none⟩) (.inl hgs) _⟩
theorem checkRoads_c (v : Value) (w : World) (hr : RdR w 4 roC v [(sA, sB, 4, 0)]) :
    Calls Tryd.prog 174 #[v] w fun e w' => e = .returned (.int .i64 0) ∧ G w w' none := by
  go_enter Tryd.func174, Tryd.ntmps174
  go_wp2_with fail
  refine (checkWays_c v w hr).mono ?_; rintro e w1 ⟨rfl, hG⟩
  go_wp2_with fail
  go_ret
  exact ⟨rfl, hG⟩
theorem checkOffice_c (v u : Value) (w : World) (hr : RdR w 2 neC v [(sA, 1), (sB, -1)]) (hs : RdR w 4 roC u [(sA, sB, 4, 0)]) :
    Calls Tryd.prog 157 #[v, u] w fun e w' => e = .returned (.int .i64 0) ∧ G w w' none := by
  have HE : Hid (neE [(sA, 1), (sB, -1)] = 0) := Lib.hid (by
    have h1 : keyB sA = true := by decide
    have h2 : keyB sB = true := by decide
    have h3 : leB sA ⟨#[]⟩ = false := by kernel_rfl
    have h4 : leB sB sA = false := by kernel_rfl
    simp [neE, neErr, neT, inB, h1, h2, h3, h4])
  have CN := Lib.hid (checkNeeds_c v _ w hr (fun x hx => by
    simp only [List.mem_cons, List.not_mem_nil, or_false] at hx
    rcases hx with rfl | rfl
    · show Small sA; unfold Small; decide
    · show Small sB; unfold Small; decide) (by simp))
  go_enter Tryd.func157, Tryd.ntmps157
  go_wp2_with fail
  refine CN.out.mono ?_; rintro e w1 ⟨rfl, hG⟩
  rw [HE.out]
  go_wp2_with fail
  refine (checkRoads_c u w1 (hs.quiet hG)).mono ?_; rintro e w2 ⟨rfl, hh⟩
  have hG2 := hG.trans hh
  go_wp2_with fail
  go_ret
  exact ⟨rfl, hG2⟩
end Go.Proofs.YtndeidcddlmhbaaDoor

/- shift.Plan at one road: the lanes, the plan. Written by genplf.py. -/
namespace Go.Proofs.YtndeidcddlmhbaaDoor
open Go.RowKit

theorem ln_rowOk : RowOk Tryd.prog 235 231 3 24 (.agg #[.int .i64 0, .int .i64 0, .int .i64 0]) lnC := ⟨by kernel_rfl, Tryd.underlying231, fun r u hu => by simp [lnC] at hu; rcases hu with rfl | rfl | rfl <;> rfl, lnC_sz, rfl, by omega, by omega⟩
theorem zi_run3 (w : World) : (zeroValue 3).run Tryd.prog w = .ok (.int .i64 0) w := by kernel_rfl
set_option maxRecDepth 100000 in
set_option maxHeartbeats 4000000 in
theorem lanes_c (v u : Value) (w : World) (hr : RdR w 2 neC v [(sA, 1), (sB, -1)]) (hs : RdR w 4 roC u [(sA, sB, 4, 0)]) :
    Calls Tryd.prog 159 #[v, u] w fun e w' => ∃ v', e = .returned v' ∧ RdR w' 3 lnC v' [(0, 1, 4)] ∧ G w w' none := by
  have hmm : ∀ w : World, (Instr.makeMap 246 (some (.int .i64 2))).run Tryd.prog w = .ok (.map (some w.heap.size)) (w.alloc (.map #[] 0)) := fun _ => rfl
  have hG := G.refl w none
  obtain ⟨al, cl, rfl, -, -⟩ := RdR.form hr
  obtain ⟨bb, bo, rfl, -, -⟩ := RdR.elem neC_sz hr hG (k := 0) (p := (sA, 1)) rfl
  obtain ⟨al, cu, rfl, -, -⟩ := RdR.form hs
  obtain ⟨br, oR, rfl, -, -⟩ := RdR.elem roC_sz hs hG (k := 0) (p := (sA, sB, 4, 0)) rfl
  have hcell : Hid (∀ w', G w w' none → (w'.cell? ⟨bb, bo, none⟩ = some (.string sA) ∧ w'.cell? ⟨bb, bo + 1, none⟩ = some (.int .i64 1) ∧ w'.cell? ⟨bb, bo + 2, none⟩ = some (.string sB) ∧ w'.cell? ⟨bb, bo + 2 + 1, none⟩ = some (.int .i64 (-1))) ∧ w'.cell? ⟨br, oR, none⟩ = some (.string sA) ∧ w'.cell? ⟨br, oR + 1, none⟩ = some (.string sB) ∧ w'.cell? ⟨br, oR + 2, none⟩ = some (.int .i64 4) ∧ w'.cell? ⟨br, oR + 3, none⟩ = some (.int .i64 0)) := Lib.hid (fun w' h => by
    have e0 := RdR.cell neC_sz hr h (k := 0) (p := (sA, 1)) rfl 0 (.string sA) rfl
    have e1 := RdR.cell neC_sz hr h (k := 0) (p := (sA, 1)) rfl 1 (.int .i64 1) rfl
    have e2 := RdR.cell neC_sz hr h (k := 1) (p := (sB, -1)) rfl 0 (.string sB) rfl
    have e3 := RdR.cell neC_sz hr h (k := 1) (p := (sB, -1)) rfl 1 (.int .i64 (-1)) rfl
    have e4 := RdR.cell roC_sz hs h (k := 0) (p := (sA, sB, 4, 0)) rfl 0 (.string sA) rfl
    have e5 := RdR.cell roC_sz hs h (k := 0) (p := (sA, sB, 4, 0)) rfl 1 (.string sB) rfl
    have e6 := RdR.cell roC_sz hs h (k := 0) (p := (sA, sB, 4, 0)) rfl 2 (.int .i64 4) rfl
    have e7 := RdR.cell roC_sz hs h (k := 0) (p := (sA, sB, 4, 0)) rfl 3 (.int .i64 0) rfl
    simp only [Nat.zero_mul, Nat.one_mul, Nat.add_zero] at e0 e1 e2 e3 e4 e5 e6 e7
    exact ⟨⟨e0, e1, e2, e3⟩, e4, e5, e6, e7⟩)
  have hsa : sA.size ≤ maxLen := by decide
  have hsb : sB.size ≤ maxLen := by decide
  have HN : Hid (¬ sA = sB) := Lib.hid (by decide)
  clear hr hs
  generalize sA = a at hcell hsa HN ⊢
  generalize sB = b at hcell hsb HN ⊢
  go_enter Tryd.func159, Tryd.ntmps159
  go_upto_region 2 with fail
  have hM : OwnM Tryd.prog 9 (w.alloc (.map #[] 0)) w.heap.size 0 (fun _ => none) := OwnM.made _ _ _ rfl
  replace hG := hG.alloc (.map #[] 0)
  generalize w.alloc (.map #[] 0) = w1 at hM hG ⊢
  obtain ⟨g, hg⟩ : ∃ g, w.heap.size = g := ⟨_, rfl⟩
  have hgs : w.heap.size ≤ g := by omega
  rw [hg] at hM ⊢
  clear hg
  go_wp2_with fail
  refine wp_loop_rounds 3 ?_
  rw [rounds_succ]
  obtain ⟨⟨e0, e1, e2, e3⟩, -⟩ := hcell.out _ hG
  go_upto_region 5 with fail
  have hN := Bk.new w1 189 #[.string a, .int .i64 1]
  replace hM := hM.alloc (.cells #[.string a, .int .i64 1] 189)
  replace hG := hG.alloc (.cells #[.string a, .int .i64 1] 189)
  clear e0 e1 e2 e3
  generalize w1.alloc (.cells #[.string a, .int .i64 1] 189) = wn0 at hN hM hG ⊢
  generalize w1.heap.size = n at hN ⊢
  have n0 : wn0.cell? ⟨n, 0, none⟩ = some (.string a) := hN.cell 0
  go_wp2_with (at_mapUpdate; refine wpM_store rfl _ _ _ 246 rfl 9 3 Tryd.underlying9 Tryd.underlying246 g _ _ rfl hM (by first | decide | (unfold cput; split <;> decide)) a rfl hsa (.int .i64 0) rfl ?_; intro wz0 hM0 hh0)
  clear hM hN n0
  have hM := hM0
  replace hG := hG.other hh0 (fun j e => .inl (by obtain rfl := Option.some.inj e; exact hgs))
  clear hM0 hh0
  rw [rounds_succ]
  obtain ⟨⟨e0, e1, e2, e3⟩, -⟩ := hcell.out _ hG
  go_upto_region 5 with fail
  have hN := Bk.new wz0 189 #[.string b, .int .i64 (-1)]
  replace hM := hM.alloc (.cells #[.string b, .int .i64 (-1)] 189)
  replace hG := hG.alloc (.cells #[.string b, .int .i64 (-1)] 189)
  clear e0 e1 e2 e3
  generalize wz0.alloc (.cells #[.string b, .int .i64 (-1)] 189) = wn1 at hN hM hG ⊢
  generalize wz0.heap.size = n at hN ⊢
  have n0 : wn1.cell? ⟨n, 0, none⟩ = some (.string b) := hN.cell 0
  go_wp2_with (at_mapUpdate; refine wpM_store rfl _ _ _ 246 rfl 9 3 Tryd.underlying9 Tryd.underlying246 g _ _ rfl hM (by first | decide | (unfold cput; split <;> decide)) b rfl hsb (.int .i64 1) rfl ?_; intro wz1 hM1 hh1)
  clear hM hN n0
  have hM := hM1
  replace hG := hG.other hh1 (fun j e => .inl (by obtain rfl := Option.some.inj e; exact hgs))
  clear hM1 hh1
  rw [rounds_succ]
  go_wp2_with fail
  have hfa : (fput (fput (fun _ => none) a (.int .i64 0)) b (.int .i64 1)) a = some (.int .i64 0) := by unfold fput; rw [if_neg HN.out, if_pos rfl]
  have hfb : (fput (fput (fun _ => none) a (.int .i64 0)) b (.int .i64 1)) b = some (.int .i64 1) := by unfold fput; rw [if_pos rfl]
  generalize fput (fput (fun _ => none) a (.int .i64 0)) b (.int .i64 1) = F at hM hfa hfb
  generalize cput (cput 0 (fun _ => none) a) (fput (fun _ => none) a (.int .i64 0)) b = cM at hM
  refine wp_loop_rounds 2 ?_
  rw [rounds_succ]
  obtain ⟨-, e4, e5, e6, e7⟩ := hcell.out _ hG
  go_upto_region 11 with fail
  have hN := Bk.new wz1 192 #[.string a, .string b, .int .i64 4, .int .i64 0]
  replace hM := hM.alloc (.cells #[.string a, .string b, .int .i64 4, .int .i64 0] 192)
  replace hG := hG.alloc (.cells #[.string a, .string b, .int .i64 4, .int .i64 0] 192)
  clear e4 e5 e6 e7
  generalize wz1.alloc (.cells #[.string a, .string b, .int .i64 4, .int .i64 0] 192) = w2 at hN hM hG ⊢
  generalize wz1.heap.size = n at hN ⊢
  have n0 : w2.cell? ⟨n, 0, none⟩ = some (.string a) := hN.cell 0
  have n1 : w2.cell? ⟨n, 1, none⟩ = some (.string b) := hN.cell 1
  have n2 : w2.cell? ⟨n, 2, none⟩ = some (.int .i64 4) := hN.cell 2
  obtain ⟨⟨e0, e1, e2, e3⟩, -⟩ := hcell.out _ hG
  go_upto_region 14 with (at_lookup; first | (refine wpM_look_ok rfl _ _ 246 rfl 9 3 Tryd.underlying9 Tryd.underlying246 (.int .i64 0) (zi_run3 _) g cM F rfl hM a rfl hsa ?_; rw [hfa]) | (refine wpM_look_ok rfl _ _ 246 rfl 9 3 Tryd.underlying9 Tryd.underlying246 (.int .i64 0) (zi_run3 _) g cM F rfl hM b rfl hsb ?_; rw [hfb]))
  have hsz := hG.size
  go_wp2_with (at_builtin; refine wpList_plain rfl fun K' hK' => wp_append_x ln_rowOk _ _ rfl w.heap.size (.slice none 0 0) [] rfl (World.ownsRow_nil _ _ _ _) w2.heap.size (0, 1, 4) rfl (Bk.new w2 _ _) (by simp) (by simp; omega) ?_; intro v8 w8 hown8 hgrow; refine hK' _ _ ?_)
  have hG8 := (hG.alloc (.cells (lnC (0, 1, 4)) 235)).other hgrow (fun j e => by simp [Value.ownBlock] at e)
  rw [rounds_succ]
  go_wp2_with fail
  go_ret
  exact ⟨v8, rfl, Rd.of_owns hown8, hG8⟩
end Go.Proofs.YtndeidcddlmhbaaDoor

/- shift.Plan at one road. Written by genplg.py. -/
namespace Go.Proofs.YtndeidcddlmhbaaDoor
open Go.RowKit

/-- A move: from, to, how many. -/
abbrev Mv := ByteArray × ByteArray × Int
def mvC (x : Mv) : Array Value := #[.string x.1, .string x.2.1, .int .i64 x.2.2]
theorem mvC_sz (x : Mv) : (mvC x).size = 3 := rfl
theorem mv_rowOk : RowOk Tryd.prog 196 185 3 40 (.agg #[.string ⟨#[]⟩, .string ⟨#[]⟩, .int .i64 0]) mvC := ⟨by kernel_rfl, Tryd.underlying185, fun r u hu => by simp [mvC] at hu; rcases hu with rfl | rfl | rfl <;> rfl, mvC_sz, rfl, by omega, by omega⟩
theorem OwnX.apx {α : Type} {T T' : TypeId} {z g base : Nat} {c : α → Array Value} {w : World} {v : Value} {l : List α} {cs : Array Value} (h : OwnX T z c w base v l) (hB : Bk w g T' cs) (hT : T ≠ T') : some g ≠ v.ownBlock := by
  rcases h.2 with ⟨rfl, _⟩ | ⟨g', cap, cur, rfl, _, hg, _⟩
  · simp [Value.ownBlock]
  · intro e
    simp only [Value.ownBlock, Option.map_some, Option.some.injEq] at e
    subst e
    have h2 := hB.symm.trans hg
    simp only [Option.some.injEq, Obj.cells.injEq] at h2
    exact hT h2.2.1.symm
set_option maxRecDepth 100000 in
set_option maxHeartbeats 4000000 in
theorem plan_c (v u : Value) (w : World) (hr : RdR w 2 neC v [(sA, 1), (sB, -1)]) (hs : RdR w 4 roC u [(sA, sB, 4, 0)]) :
    Calls Tryd.prog 124 #[v, u] w fun e w' => ∃ v', e = .returned (.tuple #[v', .int .i64 0]) ∧ RdR w' 3 mvC v' [(sA, sB, 1)] ∧ G w w' none := by
  have hG := G.refl w none
  obtain ⟨al, cl, rfl, -, -⟩ := RdR.form hr
  obtain ⟨bb, bo, rfl, -, -⟩ := RdR.elem neC_sz hr hG (k := 0) (p := (sA, 1)) rfl
  have hcell : Hid (∀ w', G w w' none → w'.cell? ⟨bb, bo, none⟩ = some (.string sA) ∧ w'.cell? ⟨bb, bo + 2, none⟩ = some (.string sB)) := Lib.hid (fun w' h => by
    have e0 := RdR.cell neC_sz hr h (k := 0) (p := (sA, 1)) rfl 0 (.string sA) rfl
    have e2 := RdR.cell neC_sz hr h (k := 1) (p := (sB, -1)) rfl 0 (.string sB) rfl
    simp only [Nat.zero_mul, Nat.one_mul, Nat.add_zero] at e0 e2
    exact ⟨e0, e2⟩)
  have CO := Lib.hid (checkOffice_c _ u w hr hs)
  have CM := Lib.hid (fun w' (h : G w w' none) => manyOf_c _ sA sB w' (hr.quiet h))
  have CL := Lib.hid (fun w' (h : G w w' none) => lanes_c _ u w' (hr.quiet h) (hs.quiet h))
  clear hr hs
  generalize sA = a at hcell CO CM CL ⊢
  generalize sB = b at hcell CO CM CL ⊢
  go_enter Tryd.func124, Tryd.ntmps124
  go_wp2_with fail
  refine CO.out.mono ?_; rintro e w1 ⟨rfl, hh⟩
  replace hG := hG.trans hh
  clear hh CO
  go_wp2_with fail
  refine (CM.out _ hG).mono ?_; rintro e w1b ⟨gl, rfl, hgl, hL, hh⟩
  have hgs := Nat.le_trans hG.size hgl
  replace hG := hG.trans hh
  clear hh CM hgl
  go_wp2_with fail
  refine (CL.out _ hG).mono ?_; rintro e w1c ⟨vn, rfl, hn, hh⟩
  replace hL := hL.quiet hh
  replace hG := hG.trans hh
  clear hh CL
  obtain ⟨an, cn, rfl, hcn, -⟩ := RdR.form hn
  obtain ⟨bn, on, rfl, -, -⟩ := RdR.elem lnC_sz hn (G.refl _ none) (k := 0) (p := (0, 1, 4)) rfl
  have hcn0 : ¬ cn = 0 := by simp at hcn; omega
  clear hcn
  go_wp2_with fail
  refine (costA_c _ _ _ (hL.rd 1 2 rfl (by omega)) hn).mono ?_; rintro e w1d ⟨rfl, hh⟩
  replace hL := hL.quiet hh
  replace hn := hn.quiet hh
  replace hG := hG.trans hh
  clear hh
  go_wp2_with fail
  refine wp_loop_rounds 2 ?_
  rw [rounds_succ]
  have e0 := RdR.cell lnC_sz hn (G.refl _ none) (k := 0) (p := (0, 1, 4)) rfl 0 (.int .i64 0) rfl
  have e1 := RdR.cell lnC_sz hn (G.refl _ none) (k := 0) (p := (0, 1, 4)) rfl 1 (.int .i64 1) rfl
  have e2 := RdR.cell lnC_sz hn (G.refl _ none) (k := 0) (p := (0, 1, 4)) rfl 2 (.int .i64 4) rfl
  simp only [Nat.zero_mul, Nat.add_zero] at e0 e1 e2
  go_upto_region 12 with fail
  have hN := Bk.new w1d 235 #[.int .i64 0, .int .i64 1, .int .i64 4]
  have hlt := hL.lt
  have hh := (G.refl w1d none).alloc (.cells #[.int .i64 0, .int .i64 1, .int .i64 4] 235)
  replace hL := hL.quiet hh
  replace hn := hn.quiet hh
  replace hG := hG.trans hh
  clear hh e0 e1 e2
  generalize w1d.alloc (.cells #[.int .i64 0, .int .i64 1, .int .i64 4] 235) = w1e at hN hL hn hG ⊢
  generalize w1d.heap.size = n at hN hlt ⊢
  go_wp2_with fail
  refine (first_c _ _ _ (hL.rd 1 2 rfl (by omega)) hn).mono ?_; rintro e w2 ⟨rfl, hh⟩
  replace hL := hL.quiet hh
  replace hN := hN.quiet hh
  replace hG := hG.trans hh
  clear hh hn
  go_upto_region 14 with fail
  refine wp_region_held_drew (S := (fun w' : World => w'.cell? ⟨n, 0, none⟩ = some (.int .i64 0) ∧ w'.cell? ⟨n, 1, none⟩ = some (.int .i64 1) ∧ w'.cell? ⟨bb, bo, none⟩ = some (.string a) ∧ w'.cell? ⟨bb, bo + 2, none⟩ = some (.string b))) (by kernel_rfl) ?_ (fun hHeld => ?_)
  · exact ⟨(hN.drewN 1).cell 0, (hN.drewN 1).cell 1, (hcell.out _ hG.drew).1, (hcell.out _ hG.drew).2⟩
  replace hN : Bk _ _ _ _ := hN.drewN 1
  replace hL : Bk _ _ _ _ := hL.drewN 1
  replace hG := hG.drew
  change Bk w2.drew _ _ _ at hN hL
  generalize w2.drew = wd at hHeld hN hL hG ⊢
  refine wpAnyH_take (i := 0) (oi := { dst := some 49, op := Op.move (Operand.tmp 11), type := 185, pos := _, after := #[], guard := none }) (v := ?_) rfl (by kernel_rfl) (by kernel_rfl) (by kernel_rfl) (fun _ _ _ h => h) (Or.inl ⟨by rfl, ?_⟩) (by assumption) ?_
  rotate_left
  · (intro w hSw; obtain ⟨q0, q1, q2, q3⟩ := hSw; (go_simp <;> with_reducible rfl))
  try simp only [Act.put, List.setIfInBounds_toArray, List.set_cons_zero, List.set_cons_succ]
  refine wpAnyH_take (i := 1) (oi := { dst := some 50, op := Op.move (Operand.tmp 0), type := 190, pos := _, after := #[], guard := none }) (v := ?_) rfl (by kernel_rfl) (by kernel_rfl) (by kernel_rfl) (fun _ _ _ h => h) (Or.inl ⟨by rfl, ?_⟩) (by assumption) ?_
  rotate_left
  · (intro w hSw; obtain ⟨q0, q1, q2, q3⟩ := hSw; (go_simp <;> with_reducible rfl))
  try simp only [Act.put, List.setIfInBounds_toArray, List.set_cons_zero, List.set_cons_succ]
  refine wpAnyH_take (i := 2) (oi := { dst := some 51, op := Op.fieldAddr 235 (Operand.tmp 13) 0, type := 0, pos := _, after := #[], guard := none }) (v := ?_) rfl (by kernel_rfl) (by kernel_rfl) (by kernel_rfl) (fun _ _ _ h => h) (Or.inl ⟨by rfl, ?_⟩) (by assumption) ?_
  rotate_left
  · (intro w hSw; obtain ⟨q0, q1, q2, q3⟩ := hSw; (go_simp <;> with_reducible rfl))
  try simp only [Act.put, List.setIfInBounds_toArray, List.set_cons_zero, List.set_cons_succ]
  refine wpAnyH_take (i := 3) (oi := { dst := some 52, op := Op.load 3 (Operand.tmp 51), type := 3, pos := _, after := #[{ on := 2, ground := Ground.data }], guard := none }) (v := ?_) rfl (by kernel_rfl) (by kernel_rfl) (by kernel_rfl) (fun _ _ _ h => h) (Or.inl ⟨by rfl, ?_⟩) (by assumption) ?_
  rotate_left
  · (intro w hSw; obtain ⟨q0, q1, q2, q3⟩ := hSw; (go_simp <;> with_reducible rfl))
  try simp only [Act.put, List.setIfInBounds_toArray, List.set_cons_zero, List.set_cons_succ]
  refine wpAnyH_take (i := 4) (oi := { dst := some 53, op := Op.indexAddr 190 (Operand.tmp 50) (Operand.tmp 52), type := 0, pos := _, after := #[{ on := 1, ground := Ground.data }, { on := 3, ground := Ground.data }], guard := none }) (v := ?_) rfl (by kernel_rfl) (by kernel_rfl) (by kernel_rfl) (fun _ _ _ h => h) (Or.inl ⟨by rfl, ?_⟩) (by assumption) ?_
  rotate_left
  · (intro w hSw; obtain ⟨q0, q1, q2, q3⟩ := hSw; (go_simp <;> with_reducible rfl))
  try simp only [Act.put, List.setIfInBounds_toArray, List.set_cons_zero, List.set_cons_succ]
  refine wpAnyH_take (i := 5) (oi := { dst := some 54, op := Op.fieldAddr 189 (Operand.tmp 53) 0, type := 0, pos := _, after := #[{ on := 4, ground := Ground.data }], guard := none }) (v := ?_) rfl (by kernel_rfl) (by kernel_rfl) (by kernel_rfl) (fun _ _ _ h => h) (Or.inl ⟨by rfl, ?_⟩) (by assumption) ?_
  rotate_left
  · (intro w hSw; obtain ⟨q0, q1, q2, q3⟩ := hSw; (go_simp <;> with_reducible rfl))
  try simp only [Act.put, List.setIfInBounds_toArray, List.set_cons_zero, List.set_cons_succ]
  refine wpAnyH_take (i := 6) (oi := { dst := some 55, op := Op.load 9 (Operand.tmp 54), type := 9, pos := _, after := #[{ on := 5, ground := Ground.data }], guard := none }) (v := ?_) rfl (by kernel_rfl) (by kernel_rfl) (by kernel_rfl) (fun _ _ _ h => h) (Or.inl ⟨by rfl, ?_⟩) (by assumption) ?_
  rotate_left
  · (intro w hSw; obtain ⟨q0, q1, q2, q3⟩ := hSw; (go_simp <;> with_reducible rfl))
  try simp only [Act.put, List.setIfInBounds_toArray, List.set_cons_zero, List.set_cons_succ]
  refine wpAnyH_take (i := 7) (oi := { dst := some 56, op := Op.move (Operand.tmp 0), type := 190, pos := _, after := #[], guard := none }) (v := ?_) rfl (by kernel_rfl) (by kernel_rfl) (by kernel_rfl) (fun _ _ _ h => h) (Or.inl ⟨by rfl, ?_⟩) (by assumption) ?_
  rotate_left
  · (intro w hSw; obtain ⟨q0, q1, q2, q3⟩ := hSw; (go_simp <;> with_reducible rfl))
  try simp only [Act.put, List.setIfInBounds_toArray, List.set_cons_zero, List.set_cons_succ]
  refine wpAnyH_take (i := 8) (oi := { dst := some 57, op := Op.fieldAddr 235 (Operand.tmp 13) 1, type := 0, pos := _, after := #[], guard := none }) (v := ?_) rfl (by kernel_rfl) (by kernel_rfl) (by kernel_rfl) (fun _ _ _ h => h) (Or.inl ⟨by rfl, ?_⟩) (by assumption) ?_
  rotate_left
  · (intro w hSw; obtain ⟨q0, q1, q2, q3⟩ := hSw; (go_simp <;> with_reducible rfl))
  try simp only [Act.put, List.setIfInBounds_toArray, List.set_cons_zero, List.set_cons_succ]
  refine wpAnyH_take (i := 9) (oi := { dst := some 58, op := Op.load 3 (Operand.tmp 57), type := 3, pos := _, after := #[{ on := 8, ground := Ground.data }], guard := none }) (v := ?_) rfl (by kernel_rfl) (by kernel_rfl) (by kernel_rfl) (fun _ _ _ h => h) (Or.inl ⟨by rfl, ?_⟩) (by assumption) ?_
  rotate_left
  · (intro w hSw; obtain ⟨q0, q1, q2, q3⟩ := hSw; (go_simp <;> with_reducible rfl))
  try simp only [Act.put, List.setIfInBounds_toArray, List.set_cons_zero, List.set_cons_succ]
  refine wpAnyH_take (i := 10) (oi := { dst := some 59, op := Op.indexAddr 190 (Operand.tmp 56) (Operand.tmp 58), type := 0, pos := _, after := #[{ on := 7, ground := Ground.data }, { on := 9, ground := Ground.data }], guard := none }) (v := ?_) rfl (by kernel_rfl) (by kernel_rfl) (by kernel_rfl) (fun _ _ _ h => h) (Or.inl ⟨by rfl, ?_⟩) (by assumption) ?_
  rotate_left
  · (intro w hSw; obtain ⟨q0, q1, q2, q3⟩ := hSw; (go_simp <;> with_reducible rfl))
  try simp only [Act.put, List.setIfInBounds_toArray, List.set_cons_zero, List.set_cons_succ]
  refine wpAnyH_take (i := 11) (oi := { dst := some 60, op := Op.fieldAddr 189 (Operand.tmp 59) 0, type := 0, pos := _, after := #[{ on := 10, ground := Ground.data }], guard := none }) (v := ?_) rfl (by kernel_rfl) (by kernel_rfl) (by kernel_rfl) (fun _ _ _ h => h) (Or.inl ⟨by rfl, ?_⟩) (by assumption) ?_
  rotate_left
  · (intro w hSw; obtain ⟨q0, q1, q2, q3⟩ := hSw; (go_simp <;> with_reducible rfl))
  try simp only [Act.put, List.setIfInBounds_toArray, List.set_cons_zero, List.set_cons_succ]
  refine wpAnyH_take (i := 12) (oi := { dst := some 61, op := Op.load 9 (Operand.tmp 60), type := 9, pos := _, after := #[{ on := 11, ground := Ground.data }], guard := none }) (v := ?_) rfl (by kernel_rfl) (by kernel_rfl) (by kernel_rfl) (fun _ _ _ h => h) (Or.inl ⟨by rfl, ?_⟩) (by assumption) ?_
  rotate_left
  · (intro w hSw; obtain ⟨q0, q1, q2, q3⟩ := hSw; (go_simp <;> with_reducible rfl))
  try simp only [Act.put, List.setIfInBounds_toArray, List.set_cons_zero, List.set_cons_succ]
  refine wpAnyH_take (i := 13) (oi := { dst := some 62, op := Op.move (Operand.tmp 14), type := 3, pos := _, after := #[], guard := none }) (v := ?_) rfl (by kernel_rfl) (by kernel_rfl) (by kernel_rfl) (fun _ _ _ h => h) (Or.inl ⟨by rfl, ?_⟩) (by assumption) ?_
  rotate_left
  · (intro w hSw; obtain ⟨q0, q1, q2, q3⟩ := hSw; (go_simp <;> with_reducible rfl))
  try simp only [Act.put, List.setIfInBounds_toArray, List.set_cons_zero, List.set_cons_succ]
  refine wpAnyH_take (i := 14) (oi := { dst := some 63, op := Op.build 196 #[(0, Operand.tmp 55), (1, Operand.tmp 61), (2, Operand.tmp 62)], type := 196, pos := _, after := #[{ on := 6, ground := Ground.data }, { on := 12, ground := Ground.data }, { on := 13, ground := Ground.data }], guard := none }) (v := ?_) rfl (by kernel_rfl) (by kernel_rfl) (by kernel_rfl) (fun _ _ _ h => h) (Or.inl ⟨by rfl, ?_⟩) (by assumption) ?_
  rotate_left
  · (intro w hSw; obtain ⟨q0, q1, q2, q3⟩ := hSw; (go_simp <;> with_reducible rfl))
  try simp only [Act.put, List.setIfInBounds_toArray, List.set_cons_zero, List.set_cons_succ]
  refine wpAnyH_ready (rs := [15]) (by kernel_rfl) (by simp) ?_
  refine (AllReadyH.cons (o := { dst := some 64, op := Op.buildSlice 185 1 #[(0, Operand.tmp 63)], type := 185, pos := _, after := #[{ on := 14, ground := Ground.data }], guard := none }) rfl (fun K hK => ?_) AllReadyH.nil)
  go_simp
  have hT := Bk.new wd 196 #[.string a, .string b, .int .i64 1]
  have hh := (G.refl wd none).alloc (.cells #[.string a, .string b, .int .i64 1] 196)
  replace hN := hN.quiet hh
  replace hL := hL.quiet hh
  replace hG := hG.trans hh
  clear hh
  generalize wd.alloc (.cells #[.string a, .string b, .int .i64 1] 196) = we at hT hN hL hG ⊢
  generalize wd.heap.size = gm at hT ⊢
  refine hK.out _ _ ?_ (fun hHeld => ?_)
  · exact ⟨hN.cell 0, hN.cell 1, (hcell.out _ hG).1, (hcell.out _ hG).2⟩
  clear hK K
  try simp only [Act.put, List.setIfInBounds_toArray, List.set_cons_zero, List.set_cons_succ]
  refine wpAnyH_ready (rs := [16]) (by kernel_rfl) (by simp) ?_
  refine (AllReadyH.cons (o := { dst := some 65, op := Op.call { callee := Callee.builtin Builtin.append, args := #[Operand.tmp 49, Operand.tmp 64], argTypes := #[185, 185] }, type := 185, pos := _, after := #[{ on := 0, ground := Ground.data }, { on := 15, ground := Ground.data }], guard := none }) rfl (fun K hK => ?_) AllReadyH.nil)
  have hsz := hG.size
  refine st_wp rfl (wp_append_x mv_rowOk _ _ rfl w.heap.size (.slice none 0 0) [] rfl (World.ownsRow_nil _ _ _ _) gm (a, b, 1) rfl hT (by simp) hsz ?_)
  intro v8 wf hown8 hgrow
  have hh : G we wf none := hgrow
  replace hN := hN.quiet hh
  replace hL := hL.quiet hh
  replace hG := hG.trans hh
  clear hh hgrow
  refine hK.out _ _ ?_ (fun hHeld => ?_)
  · exact ⟨hN.cell 0, hN.cell 1, (hcell.out _ hG).1, (hcell.out _ hG).2⟩
  clear hK K
  try simp only [Act.put, List.setIfInBounds_toArray, List.set_cons_zero, List.set_cons_succ]
  refine wpAnyH_take (i := 17) (oi := { dst := some 11, op := Op.assign (Operand.tmp 65), type := 185, pos := _, after := #[{ on := 16, ground := Ground.data }, { on := 16, ground := Ground.chain }, { on := 0, ground := Ground.phase }, { on := 1, ground := Ground.phase }, { on := 2, ground := Ground.phase }, { on := 3, ground := Ground.phase }, { on := 4, ground := Ground.phase }, { on := 5, ground := Ground.phase }, { on := 6, ground := Ground.phase }, { on := 7, ground := Ground.phase }, { on := 8, ground := Ground.phase }, { on := 9, ground := Ground.phase }, { on := 10, ground := Ground.phase }, { on := 11, ground := Ground.phase }, { on := 12, ground := Ground.phase }, { on := 13, ground := Ground.phase }, { on := 14, ground := Ground.phase }, { on := 15, ground := Ground.phase }, { on := 16, ground := Ground.phase }], guard := none }) (v := ?_) rfl (by kernel_rfl) (by kernel_rfl) (by kernel_rfl) (fun _ _ _ h => h) (Or.inl ⟨by rfl, ?_⟩) (by assumption) ?_
  rotate_left
  · (intro w hSw; obtain ⟨q0, q1, q2, q3⟩ := hSw; (go_simp <;> with_reducible rfl))
  try simp only [Act.put, List.setIfInBounds_toArray, List.set_cons_zero, List.set_cons_succ]
  refine wpAnyH_done (by kernel_rfl) ?_ _
  clear hHeld
  have n0 : wf.cell? ⟨n, 0, none⟩ = some (.int .i64 0) := hN.cell 0
  have n1 : wf.cell? ⟨n, 1, none⟩ = some (.int .i64 1) := hN.cell 1
  have n2 : wf.cell? ⟨n, 2, none⟩ = some (.int .i64 4) := hN.cell 2
  have l0 : wf.cell? ⟨gl, 0, none⟩ = some (.int .i64 1) := hL.cell 0
  have l1 : wf.cell? ⟨gl, 1, none⟩ = some (.int .i64 (-1)) := hL.cell 1
  have f0 : wf.frozen? ⟨gl, 0, none⟩ = false := hL.free 0
  have f1 : wf.frozen? ⟨gl, 1, none⟩ = false := hL.free 1
  have hng : n ≠ gl := by omega
  go_wp2_with fail
  rw [rounds_succ]
  go_wp2_with fail
  go_ret2
  have hne := OwnX.apx hown8 hL (by decide)
  exact ⟨v8, rfl, Rd.of_owns (OwnX.far (OwnX.far hown8 (p := ⟨gl, 0, none⟩) hne _) (p := ⟨gl, 1, none⟩) hne _), (hG.setCell (p := ⟨gl, 0, none⟩) (.inl hgs) _).setCell (p := ⟨gl, 1, none⟩) (.inl hgs) _⟩
end Go.Proofs.YtndeidcddlmhbaaDoor

/- Bookings: checkForm; the reference's BookingForm. -/
namespace Go.Proofs.YtndeidcddlmhbaaDoor
open Go.RowKit

/-- A booking: key, class, from, to, made, percent. -/
abbrev Bo := ByteArray × ByteArray × Int × Int × Int × Int
def boC (x : Bo) : Array Value := #[.string x.1, .string x.2.1, .int .i64 x.2.2.1, .int .i64 x.2.2.2.1, .int .i64 x.2.2.2.2.1, .int .i64 x.2.2.2.2.2]
theorem boC_sz (x : Bo) : (boC x).size = 6 := rfl
theorem bo_info (x : Bo) : (Tryd.prog.info? 31).map (·.size) = some (boC x).size := (by kernel_rfl : (Tryd.prog.info? 31).map (·.size) = some 6)
def boB (x : Bo) : Prop := Small x.1 ∧ Small x.2.1 ∧ bnd x.2.2.1 ∧ bnd x.2.2.2.1 ∧ bnd x.2.2.2.2.1 ∧ bnd x.2.2.2.2.2
def BoOk (l : List Bo) : Prop := ∀ x ∈ l, boB x
def boT (a z m p : Int) : Bool := timB a z && (inB m 0 a && inB p 0 100)
def boErr (b : ByteArray) : List Bo → Int
  | [] => 0
  | x :: r => if keyB x.1 = false then 5 else if keyB x.2.1 = false then 5 else if leB x.1 b = true then 7 else if boT x.2.2.1 x.2.2.2.1 x.2.2.2.2.1 x.2.2.2.2.2 = false then 1 else boErr x.1 r
def boE (l : List Bo) : Int := if 500 < l.length then 2 else boErr ⟨#[]⟩ l
def BoRel (w : World) (l : List Bo) (v i : Value) (wr : World) : Prop :=
  ∃ (k : Nat) (b : ByteArray), k ≤ l.length ∧ i = .int .i64 k ∧ v = .string b ∧ boErr ⟨#[]⟩ l = boErr b (l.drop k) ∧ G w wr none
theorem boRow {W w : World} {bb bo n cap : Nat} {l : List Bo} (h : RdR W 6 boC (.slice (some ⟨bb, bo, none⟩) n cap) l) (hG : G W w none) {k : Nat} {p : Bo} (hp : l[k]? = some p) :
    ∀ j v, (boC p).toList[j]? = some v → w.cell? ((⟨bb, bo + k * 6, none⟩ : Addr).add j) = some v := fun j v hv => by
  rw [add_at]
  exact RdR.cell boC_sz h hG hp j v hv
theorem boTime {w : World} {g : Nat} {T : TypeId} {p : Bo} (h : Bk w g T (boC p)) : ∀ j v, (#[Value.int .i64 p.2.2.1, .int .i64 p.2.2.2.1] : Array Value).toList[j]? = some v → w.cell? ((⟨g, 2, none⟩ : Addr).add j) = some v := fun j v hv => by
  rw [add_at, h.cell]
  match j, hv with
  | 0, hv => exact hv
  | 1, hv => exact hv
  | n + 2, hv => simp at hv
set_option maxRecDepth 100000 in
set_option maxHeartbeats 4000000 in
theorem checkForm_c (v : Value) (l : List Bo) (w : World) (hr : RdR w 6 boC v l) (hl : BoOk l) (hn : l.length ≤ 1000) :
    Calls Tryd.prog 81 #[v] w fun e w' => e = .returned (.int .i64 (boE l)) ∧ G w w' none := by
  have HR := Lib.hid hr
  obtain ⟨a, cap, rfl, hcap, hm⟩ := RdR.form hr
  clear hr
  by_cases h30 : 500 < l.length
  · have H := Lib.hid (show boE l = 2 by simp [boE, h30])
    go_enter Tryd.func81, Tryd.ntmps81
    go_wp2_with fail
    go_ret
    exact ⟨by rw [H.out]; rfl, G.refl _ _⟩
  · have H := Lib.hid (show boE l = boErr ⟨#[]⟩ l by simp [boE, h30])
    go_enter Tryd.func81, Tryd.ntmps81
    go_wp2_with fail
    go_loopw [3, 11] (BoRel w l) (fun _ i _ => l.length - (intOf i).toNat)
    case atStart => exact ⟨0, ⟨#[]⟩, by omega, rfl, rfl, rfl, G.refl _ _⟩
    case round =>
      obtain ⟨k, b, hkl, rfl, rfl, heq, hG⟩ := hrel
      have HE := Lib.hid heq
      clear heq
      by_cases hk : k < l.length
      · obtain ⟨p, hp⟩ : ∃ p, l[k]? = some p := ⟨_, List.getElem?_eq_getElem hk⟩
        have hdrop : l.drop k = p :: l.drop (k + 1) := by rw [List.drop_eq_getElem_cons hk, ← (List.getElem?_eq_some_iff.1 hp).2]
        have hpl := hl p (List.mem_of_getElem? hp)
        obtain ⟨bb, bo, rfl, hbb, _⟩ := RdR.elem boC_sz HR.out hG hp
        have HW := Lib.hid (boRow HR.out hG hp)
        have hs1 := hpl.1
        have hs2 := hpl.2.1
        unfold Small at hs1 hs2
        have HS : Hid (boErr b (l.drop k) = if keyB p.1 = false then 5 else if keyB p.2.1 = false then 5 else if leB p.1 b = true then 7 else if boT p.2.2.1 p.2.2.2.1 p.2.2.2.2.1 p.2.2.2.2.2 = false then 1 else boErr p.1 (l.drop (k + 1))) := Lib.hid (by rw [hdrop]; rfl)
        have hB5 := Bk.new wr 31 (boC p)
        have hG5 := hG.alloc (.cells (boC p) 31)
        clear hdrop hp hpl hG
        go_wp2_with (refine wpList_load_at rfl 31 _ rfl ⟨bb, bo + k * 6, none⟩ rfl #[.string p.1, .string p.2.1, .int .i64 p.2.2.1, .int .i64 p.2.2.2.1, .int .i64 p.2.2.2.2.1, .int .i64 p.2.2.2.2.2] _ HW.out Tryd.underlying31 rfl (bo_info p) ?_)
        have hB5 : Bk (wr.alloc (.cells #[.string p.1, .string p.2.1, .int .i64 p.2.2.1, .int .i64 p.2.2.2.1, .int .i64 p.2.2.2.2.1, .int .i64 p.2.2.2.2.2] 31)) wr.heap.size 31 (boC p) := hB5
        have hG5 : G w (wr.alloc (.cells #[.string p.1, .string p.2.1, .int .i64 p.2.2.1, .int .i64 p.2.2.2.1, .int .i64 p.2.2.2.2.1, .int .i64 p.2.2.2.2.2] 31)) none := hG5
        have hg5 := hB5.lt
        generalize wr.alloc (.cells #[.string p.1, .string p.2.1, .int .i64 p.2.2.1, .int .i64 p.2.2.2.1, .int .i64 p.2.2.2.2.1, .int .i64 p.2.2.2.2.2] 31) = w5 at hB5 hG5 hg5 ⊢
        generalize wr.heap.size = g at hB5 hg5 ⊢
        refine (isKey_c _ _ hs1).mono ?_; rintro e w1 ⟨rfl, rfl⟩
        have c0 : World.cell? w5 ⟨g, 0, none⟩ = some (.string p.1) := hB5.cell 0
        have c1 : World.cell? w5 ⟨g, 1, none⟩ = some (.string p.2.1) := hB5.cell 1
        have c2 : World.cell? w5 ⟨g, 2, none⟩ = some (.int .i64 p.2.2.1) := hB5.cell 2
        have c3 : World.cell? w5 ⟨g, 3, none⟩ = some (.int .i64 p.2.2.2.1) := hB5.cell 3
        have c4 : World.cell? w5 ⟨g, 4, none⟩ = some (.int .i64 p.2.2.2.2.1) := hB5.cell 4
        have c5 : World.cell? w5 ⟨g, 5, none⟩ = some (.int .i64 p.2.2.2.2.2) := hB5.cell 5
        cases hkb : keyB p.1 with
        | false =>
          have HF : Hid (boE l = 5) := Lib.hid (by rw [H.out, HE.out, HS.out, if_pos hkb])
          clear hkb
          go_wp2_with fail
          go_ret
          exact ⟨by rw [HF.out]; rfl, hG5⟩
        | true =>
          have HK := Lib.hid hkb
          clear hkb
          go_wp2_with fail
          refine (isKey_c _ _ hs2).mono ?_; rintro e w1 ⟨rfl, rfl⟩
          cases hkb : keyB p.2.1 with
          | false =>
            have HF : Hid (boE l = 5) := Lib.hid (by rw [H.out, HE.out, HS.out, if_neg (by simp [HK.out]), if_pos hkb])
            clear hkb
            go_wp2_with fail
            go_ret
            exact ⟨by rw [HF.out]; rfl, hG5⟩
          | true =>
            have HK2 := Lib.hid hkb
            clear hkb
            cases hle : leB p.1 b with
            | true =>
              have HF : Hid (boE l = 7) := Lib.hid (by rw [H.out, HE.out, HS.out, if_neg (by simp [HK.out]), if_neg (by simp [HK2.out]), if_pos hle])
              unfold leB at hle
              go_wp2_with fail
              go_ret
              exact ⟨by rw [HF.out]; rfl, hG5⟩
            | false =>
              have HS2 : Hid (boErr ⟨#[]⟩ l = if boT p.2.2.1 p.2.2.2.1 p.2.2.2.2.1 p.2.2.2.2.2 = false then 1 else boErr p.1 (l.drop (k + 1))) := Lib.hid (by rw [HE.out, HS.out, if_neg (by simp [HK.out]), if_neg (by simp [HK2.out]), if_neg (by simp [hle])])
              unfold leB at hle
              clear HS HE
              have HT := Lib.hid (boTime hB5)
              go_wp2_with (refine wpList_load_at rfl 29 _ rfl ⟨g, 2, none⟩ rfl #[.int .i64 p.2.2.1, .int .i64 p.2.2.2.1] _ HT.out Tryd.underlying29 rfl (wi_info _ _) ?_)
              refine (isTime_c _ _ _).mono ?_; rintro e w2 ⟨rfl, hG2⟩
              have hB5 := hB5.quiet hG2
              have hG5 := hG5.trans hG2
              clear hG2 HT c0 c1 c2 c3 c4 c5
              have c0 : w2.cell? ⟨g, 0, none⟩ = some (.string p.1) := hB5.cell 0
              have c1 : w2.cell? ⟨g, 1, none⟩ = some (.string p.2.1) := hB5.cell 1
              have c2 : w2.cell? ⟨g, 2, none⟩ = some (.int .i64 p.2.2.1) := hB5.cell 2
              have c3 : w2.cell? ⟨g, 3, none⟩ = some (.int .i64 p.2.2.2.1) := hB5.cell 3
              have c4 : w2.cell? ⟨g, 4, none⟩ = some (.int .i64 p.2.2.2.2.1) := hB5.cell 4
              have c5 : w2.cell? ⟨g, 5, none⟩ = some (.int .i64 p.2.2.2.2.2) := hB5.cell 5
              cases ht : timB p.2.2.1 p.2.2.2.1 with
              | false =>
                have HF : Hid (boE l = 1) := Lib.hid (by rw [H.out, HS2.out, if_pos (by simp [boT, ht])])
                go_wp2_with fail
                go_ret
                exact ⟨by rw [HF.out]; rfl, hG5⟩
              | true =>
                have HTB := Lib.hid ht
                clear ht
                go_wp2_with fail
                refine (within_c _ _ _ _).mono ?_; rintro e w' ⟨rfl, rfl⟩
                cases hm1 : inB p.2.2.2.2.1 0 p.2.2.1 with
                | false =>
                  have HF : Hid (boE l = 1) := Lib.hid (by rw [H.out, HS2.out, if_pos (by simp [boT, hm1])])
                  go_wp2_with fail
                  go_ret
                  exact ⟨by rw [HF.out]; rfl, hG5⟩
                | true =>
                  have HM := Lib.hid hm1
                  clear hm1
                  go_wp2_with fail
                  refine (within_c _ _ _ _).mono ?_; rintro e w' ⟨rfl, rfl⟩
                  cases hp1 : inB p.2.2.2.2.2 0 100 with
                  | false =>
                    have HF : Hid (boE l = 1) := Lib.hid (by rw [H.out, HS2.out, if_pos (by simp [boT, hp1])])
                    go_wp2_with fail
                    go_ret
                    exact ⟨by rw [HF.out]; rfl, hG5⟩
                  | true =>
                    have HF : Hid (boErr ⟨#[]⟩ l = boErr p.1 (l.drop (k + 1))) := Lib.hid (by rw [HS2.out, if_neg (by simp [boT, HTB.out, HM.out, hp1])])
                    clear hp1
                    go_wp2_with fail
                    go_roundw
                    case rel => exact ⟨k + 1, p.1, by omega, by go_num, rfl, HF.out, hG5⟩
                    case measure => simp [intOf]; omega
      · obtain rfl : k = l.length := by omega
        have HE2 : Hid (boE l = 0) := Lib.hid (by rw [H.out, HE.out, List.drop_length]; rfl)
        go_wp2_with fail
        go_ret
        exact ⟨by rw [HE2.out]; rfl, hG⟩
set_option maxRecDepth 100000 in
set_option maxHeartbeats 4000000 in
theorem bookingForm_c (v : Value) (l : List Bo) (w : World) (hr : RdR w 6 boC v l) (hl : BoOk l) (hn : l.length ≤ 1000) :
    Calls Tryd.prog 19 #[v] w fun e w' => e = .returned (.int .i64 (boE l)) ∧ G w w' none := by
  have HR := Lib.hid hr
  obtain ⟨a, cap, rfl, hcap, hm⟩ := RdR.form hr
  clear hr
  by_cases h30 : 500 < l.length
  · have H := Lib.hid (show boE l = 2 by simp [boE, h30])
    go_enter Tryd.func19, Tryd.ntmps19
    go_wp2_with fail
    go_ret
    exact ⟨by rw [H.out]; rfl, G.refl _ _⟩
  · have H := Lib.hid (show boE l = boErr ⟨#[]⟩ l by simp [boE, h30])
    go_enter Tryd.func19, Tryd.ntmps19
    go_wp2_with fail
    go_loopw [3, 11] (BoRel w l) (fun _ i _ => l.length - (intOf i).toNat)
    case atStart => exact ⟨0, ⟨#[]⟩, by omega, rfl, rfl, rfl, G.refl _ _⟩
    case round =>
      obtain ⟨k, b, hkl, rfl, rfl, heq, hG⟩ := hrel
      have HE := Lib.hid heq
      clear heq
      by_cases hk : k < l.length
      · obtain ⟨p, hp⟩ : ∃ p, l[k]? = some p := ⟨_, List.getElem?_eq_getElem hk⟩
        have hdrop : l.drop k = p :: l.drop (k + 1) := by rw [List.drop_eq_getElem_cons hk, ← (List.getElem?_eq_some_iff.1 hp).2]
        have hpl := hl p (List.mem_of_getElem? hp)
        obtain ⟨bb, bo, rfl, hbb, _⟩ := RdR.elem boC_sz HR.out hG hp
        have HW := Lib.hid (boRow HR.out hG hp)
        have hs1 := hpl.1
        have hs2 := hpl.2.1
        unfold Small at hs1 hs2
        have HS : Hid (boErr b (l.drop k) = if keyB p.1 = false then 5 else if keyB p.2.1 = false then 5 else if leB p.1 b = true then 7 else if boT p.2.2.1 p.2.2.2.1 p.2.2.2.2.1 p.2.2.2.2.2 = false then 1 else boErr p.1 (l.drop (k + 1))) := Lib.hid (by rw [hdrop]; rfl)
        have hB5 := Bk.new wr 31 (boC p)
        have hG5 := hG.alloc (.cells (boC p) 31)
        clear hdrop hp hpl hG
        go_wp2_with (refine wpList_load_at rfl 31 _ rfl ⟨bb, bo + k * 6, none⟩ rfl #[.string p.1, .string p.2.1, .int .i64 p.2.2.1, .int .i64 p.2.2.2.1, .int .i64 p.2.2.2.2.1, .int .i64 p.2.2.2.2.2] _ HW.out Tryd.underlying31 rfl (bo_info p) ?_)
        have hB5 : Bk (wr.alloc (.cells #[.string p.1, .string p.2.1, .int .i64 p.2.2.1, .int .i64 p.2.2.2.1, .int .i64 p.2.2.2.2.1, .int .i64 p.2.2.2.2.2] 31)) wr.heap.size 31 (boC p) := hB5
        have hG5 : G w (wr.alloc (.cells #[.string p.1, .string p.2.1, .int .i64 p.2.2.1, .int .i64 p.2.2.2.1, .int .i64 p.2.2.2.2.1, .int .i64 p.2.2.2.2.2] 31)) none := hG5
        have hg5 := hB5.lt
        generalize wr.alloc (.cells #[.string p.1, .string p.2.1, .int .i64 p.2.2.1, .int .i64 p.2.2.2.1, .int .i64 p.2.2.2.2.1, .int .i64 p.2.2.2.2.2] 31) = w5 at hB5 hG5 hg5 ⊢
        generalize wr.heap.size = g at hB5 hg5 ⊢
        refine (rkey_c _ _ hs1).mono ?_; rintro e w1 ⟨rfl, hG1⟩
        have hB5 := hB5.quiet hG1
        have hG5 := hG5.trans hG1
        clear hG1
        have c0 : World.cell? w1 ⟨g, 0, none⟩ = some (.string p.1) := hB5.cell 0
        have c1 : World.cell? w1 ⟨g, 1, none⟩ = some (.string p.2.1) := hB5.cell 1
        have c2 : World.cell? w1 ⟨g, 2, none⟩ = some (.int .i64 p.2.2.1) := hB5.cell 2
        have c3 : World.cell? w1 ⟨g, 3, none⟩ = some (.int .i64 p.2.2.2.1) := hB5.cell 3
        have c4 : World.cell? w1 ⟨g, 4, none⟩ = some (.int .i64 p.2.2.2.2.1) := hB5.cell 4
        have c5 : World.cell? w1 ⟨g, 5, none⟩ = some (.int .i64 p.2.2.2.2.2) := hB5.cell 5
        cases hkb : keyB p.1 with
        | false =>
          have HF : Hid (boE l = 5) := Lib.hid (by rw [H.out, HE.out, HS.out, if_pos hkb])
          clear hkb
          go_wp2_with fail
          go_ret
          exact ⟨by rw [HF.out]; rfl, hG5⟩
        | true =>
          have HK := Lib.hid hkb
          clear hkb
          go_wp2_with fail
          refine (rkey_c _ _ hs2).mono ?_; rintro e w1 ⟨rfl, hG1⟩
          have hB5 := hB5.quiet hG1
          have hG5 := hG5.trans hG1
          clear hG1
          clear c0 c1 c2 c3 c4 c5
          have c0 : w1.cell? ⟨g, 0, none⟩ = some (.string p.1) := hB5.cell 0
          have c1 : w1.cell? ⟨g, 1, none⟩ = some (.string p.2.1) := hB5.cell 1
          have c2 : w1.cell? ⟨g, 2, none⟩ = some (.int .i64 p.2.2.1) := hB5.cell 2
          have c3 : w1.cell? ⟨g, 3, none⟩ = some (.int .i64 p.2.2.2.1) := hB5.cell 3
          have c4 : w1.cell? ⟨g, 4, none⟩ = some (.int .i64 p.2.2.2.2.1) := hB5.cell 4
          have c5 : w1.cell? ⟨g, 5, none⟩ = some (.int .i64 p.2.2.2.2.2) := hB5.cell 5
          cases hkb : keyB p.2.1 with
          | false =>
            have HF : Hid (boE l = 5) := Lib.hid (by rw [H.out, HE.out, HS.out, if_neg (by simp [HK.out]), if_pos hkb])
            clear hkb
            go_wp2_with fail
            go_ret
            exact ⟨by rw [HF.out]; rfl, hG5⟩
          | true =>
            have HK2 := Lib.hid hkb
            clear hkb
            cases hle : leB p.1 b with
            | true =>
              have HF : Hid (boE l = 7) := Lib.hid (by rw [H.out, HE.out, HS.out, if_neg (by simp [HK.out]), if_neg (by simp [HK2.out]), if_pos hle])
              unfold leB at hle
              go_wp2_with fail
              go_ret
              exact ⟨by rw [HF.out]; rfl, hG5⟩
            | false =>
              have HS2 : Hid (boErr ⟨#[]⟩ l = if boT p.2.2.1 p.2.2.2.1 p.2.2.2.2.1 p.2.2.2.2.2 = false then 1 else boErr p.1 (l.drop (k + 1))) := Lib.hid (by rw [HE.out, HS.out, if_neg (by simp [HK.out]), if_neg (by simp [HK2.out]), if_neg (by simp [hle])])
              unfold leB at hle
              clear HS HE
              rcases (show p.2.2.1 < 0 ∨ (0 ≤ p.2.2.1 ∧ p.2.2.2.1 ≤ p.2.2.1) ∨ (0 ≤ p.2.2.1 ∧ p.2.2.1 < p.2.2.2.1 ∧ 5761439 < p.2.2.2.1) ∨ (0 ≤ p.2.2.1 ∧ p.2.2.1 < p.2.2.2.1 ∧ p.2.2.2.1 ≤ 5761439) by omega) with t1 | ⟨t1, t2⟩ | ⟨t1, t2, t3⟩ | ⟨t1, t2, t3⟩
              · have HF : Hid (boE l = 1) := Lib.hid (by rw [H.out, HS2.out, if_pos (by rw [boT, timB_no (by omega)]; rfl)])
                go_wp2_with fail
                go_ret
                exact ⟨by rw [HF.out]; rfl, hG5⟩
              · have HF : Hid (boE l = 1) := Lib.hid (by rw [H.out, HS2.out, if_pos (by rw [boT, timB_no (by omega)]; rfl)])
                go_wp2_with fail
                go_ret
                exact ⟨by rw [HF.out]; rfl, hG5⟩
              · have HF : Hid (boE l = 1) := Lib.hid (by rw [H.out, HS2.out, if_pos (by rw [boT, timB_no (by omega)]; rfl)])
                go_wp2_with fail
                go_ret
                exact ⟨by rw [HF.out]; rfl, hG5⟩
              · have HTB := Lib.hid (timB_yes ⟨t1, t2, show p.2.2.2.1 < 5761440 by omega⟩)
                go_wp2_with fail
                refine (in_c _ _ _ _).mono ?_; rintro e w' ⟨rfl, rfl⟩
                cases hm1 : inB p.2.2.2.2.1 0 p.2.2.1 with
                | false =>
                  have HF : Hid (boE l = 1) := Lib.hid (by rw [H.out, HS2.out, if_pos (by simp [boT, hm1])])
                  go_wp2_with fail
                  go_ret
                  exact ⟨by rw [HF.out]; rfl, hG5⟩
                | true =>
                  have HM := Lib.hid hm1
                  clear hm1
                  go_wp2_with fail
                  refine (in_c _ _ _ _).mono ?_; rintro e w' ⟨rfl, rfl⟩
                  cases hp1 : inB p.2.2.2.2.2 0 100 with
                  | false =>
                    have HF : Hid (boE l = 1) := Lib.hid (by rw [H.out, HS2.out, if_pos (by simp [boT, hp1])])
                    go_wp2_with fail
                    go_ret
                    exact ⟨by rw [HF.out]; rfl, hG5⟩
                  | true =>
                    have HF : Hid (boErr ⟨#[]⟩ l = boErr p.1 (l.drop (k + 1))) := Lib.hid (by rw [HS2.out, if_neg (by simp [boT, HTB.out, HM.out, hp1])])
                    clear hp1
                    go_wp2_with fail
                    go_roundw
                    case rel => exact ⟨k + 1, p.1, by omega, by go_num, rfl, HF.out, hG5⟩
                    case measure => simp [intOf]; omega
      · obtain rfl : k = l.length := by omega
        have HE2 : Hid (boE l = 0) := Lib.hid (by rw [H.out, HE.out, List.drop_length]; rfl)
        go_wp2_with fail
        go_ret
        exact ⟨by rw [HE2.out]; rfl, hG⟩
end Go.Proofs.YtndeidcddlmhbaaDoor

/- Tiers: CheckTiers; the reference's TiersFault. -/
namespace Go.Proofs.YtndeidcddlmhbaaDoor
open Go.RowKit

/-- A tier: before, permille. -/
abbrev Ti := Int × Int
def tiC (x : Ti) : Array Value := #[.int .i64 x.1, .int .i64 x.2]
theorem tiC_sz (x : Ti) : (tiC x).size = 2 := rfl
theorem ti_info (x : Ti) : (Tryd.prog.info? 122).map (·.size) = some (tiC x).size := (by kernel_rfl : (Tryd.prog.info? 122).map (·.size) = some 2)
def TiOk (l : List Ti) : Prop := ∀ x ∈ l, bnd x.1 ∧ bnd x.2
def tiAfter (b : Option Ti) (x : Ti) : Bool := match b with | none => false | some y => decide (y.1 ≤ x.1) || decide (x.2 < y.2)
def tiErr : Option Ti → List Ti → Int
  | _, [] => 0
  | b, x :: r => if inB x.1 1 5761440 = false then 1 else if inB x.2 0 1000 = false then 1 else if tiAfter b x = true then 7 else tiErr (some x) r
def tiE (l : List Ti) : Int := if 10 < l.length then 2 else tiErr none l
def TiRel (w : World) (l : List Ti) (i : Value) (wr : World) : Prop :=
  ∃ k : Nat, k ≤ l.length ∧ i = .int .i64 k ∧ tiErr none l = tiErr (prevAt l k) (l.drop k) ∧ G w wr none
theorem tiRow {W w : World} {bb bo n cap : Nat} {l : List Ti} (h : RdR W 2 tiC (.slice (some ⟨bb, bo, none⟩) n cap) l) (hG : G W w none) {k : Nat} {p : Ti} (hp : l[k]? = some p) :
    ∀ j v, (tiC p).toList[j]? = some v → w.cell? ((⟨bb, bo + k * 2, none⟩ : Addr).add j) = some v := fun j v hv => by
  rw [add_at]
  exact RdR.cell tiC_sz h hG hp j v hv
set_option maxRecDepth 100000 in
set_option maxHeartbeats 4000000 in
theorem checkTiers_c (v : Value) (l : List Ti) (w : World) (hr : RdR w 2 tiC v l) (hn : l.length ≤ 1000) :
    Calls Tryd.prog 17 #[v] w fun e w' => e = .returned (.int .i64 (tiE l)) ∧ G w w' none := by
  have HR := Lib.hid hr
  obtain ⟨a, cap, rfl, hcap, hm⟩ := RdR.form hr
  clear hr
  by_cases h30 : 10 < l.length
  · have H := Lib.hid (show tiE l = 2 by simp [tiE, h30])
    go_enter Tryd.func17, Tryd.ntmps17
    go_wp2_with fail
    go_ret
    exact ⟨by rw [H.out]; rfl, G.refl _ _⟩
  · have H := Lib.hid (show tiE l = tiErr none l by simp [tiE, h30])
    go_enter Tryd.func17, Tryd.ntmps17
    go_wp2_with fail
    go_loopw [10] (TiRel w l) (fun i _ => l.length - (intOf i).toNat)
    case atStart => exact ⟨0, by omega, rfl, rfl, G.refl _ _⟩
    case round =>
      obtain ⟨k, hkl, rfl, heq, hG⟩ := hrel
      have HE := Lib.hid heq
      clear heq
      by_cases hk : k < l.length
      · obtain ⟨p, hp⟩ : ∃ p, l[k]? = some p := ⟨_, List.getElem?_eq_getElem hk⟩
        have hdrop : l.drop k = p :: l.drop (k + 1) := by rw [List.drop_eq_getElem_cons hk, ← (List.getElem?_eq_some_iff.1 hp).2]
        obtain ⟨bb, bo, rfl, hbb, _⟩ := RdR.elem tiC_sz HR.out hG hp
        have HW := Lib.hid (tiRow HR.out hG hp)
        have HP := Lib.hid hp
        have HS : Hid (tiErr (prevAt l k) (l.drop k) = if inB p.1 1 5761440 = false then 1 else if inB p.2 0 1000 = false then 1 else if tiAfter (prevAt l k) p = true then 7 else tiErr (some p) (l.drop (k + 1))) := Lib.hid (by rw [hdrop]; rfl)
        have hB5 := Bk.new wr 122 (tiC p)
        have hG5 := hG.alloc (.cells (tiC p) 122)
        clear hdrop hp hG
        go_wp2_with (refine wpList_load_at rfl 122 _ rfl ⟨bb, bo + k * 2, none⟩ rfl #[.int .i64 p.1, .int .i64 p.2] _ HW.out Tryd.underlying122 rfl (ti_info p) ?_)
        have hB5 : Bk (wr.alloc (.cells #[.int .i64 p.1, .int .i64 p.2] 122)) wr.heap.size 122 (tiC p) := hB5
        have hG5 : G w (wr.alloc (.cells #[.int .i64 p.1, .int .i64 p.2] 122)) none := hG5
        clear HW
        have hg5 := hB5.lt
        generalize wr.alloc (.cells #[.int .i64 p.1, .int .i64 p.2] 122) = w5 at hB5 hG5 hg5 ⊢
        generalize wr.heap.size = g at hB5 hg5 ⊢
        have c0 : w5.cell? ⟨g, 0, none⟩ = some (.int .i64 p.1) := hB5.cell 0
        have c1 : w5.cell? ⟨g, 1, none⟩ = some (.int .i64 p.2) := hB5.cell 1
        refine (within_c _ _ _ _).mono ?_; rintro e w' ⟨rfl, rfl⟩
        cases h1 : inB p.1 1 5761440 with
        | false =>
          have HF : Hid (tiE l = 1) := Lib.hid (by rw [H.out, HE.out, HS.out, if_pos h1])
          go_wp2_with fail
          go_ret
          exact ⟨by rw [HF.out]; rfl, hG5⟩
        | true =>
          have H1 := Lib.hid h1
          clear h1
          go_wp2_with fail
          refine (within_c _ _ _ _).mono ?_; rintro e w' ⟨rfl, rfl⟩
          cases h2 : inB p.2 0 1000 with
          | false =>
            have HF : Hid (tiE l = 1) := Lib.hid (by rw [H.out, HE.out, HS.out, if_neg (by simp [H1.out]), if_pos h2])
            go_wp2_with fail
            go_ret
            exact ⟨by rw [HF.out]; rfl, hG5⟩
          | true =>
            have HS2 : Hid (tiErr none l = if tiAfter (prevAt l k) p = true then 7 else tiErr (some p) (l.drop (k + 1))) := Lib.hid (by rw [HE.out, HS.out, if_neg (by simp [H1.out]), if_neg (by simp [h2])])
            clear h2 HS HE
            go_wp2_with fail
            cases k with
            | zero =>
              have HF : Hid (tiErr none l = tiErr (prevAt l (0 + 1)) (l.drop (0 + 1))) := Lib.hid (by rw [HS2.out, if_neg (by simp [prevAt, tiAfter]), prevAt_succ l 0 p HP.out])
              clear HS2
              go_quiet (fail)
              have hGq := hG5.drewN nq
              go_wp2_with fail
              go_roundw
              case rel => exact ⟨0 + 1, by omega, by go_num, HF.out, hGq⟩
              case measure => simp [intOf]; omega
            | succ m =>
              obtain ⟨q, hq2⟩ : ∃ q, l[m]? = some q := ⟨_, List.getElem?_eq_getElem (by omega)⟩
              have HA : Hid (tiAfter (prevAt l (m + 1)) p = (decide (q.1 ≤ p.1) || decide (p.2 < q.2))) := Lib.hid (by rw [prevAt_succ l m q hq2]; rfl)
              have hsub : IntKind.i64.wrap (((m + 1 : Nat) : Int) - 1) = (m : Int) := by rw [show ((m + 1 : Nat) : Int) - 1 = (m : Int) by omega]; rw [IntKind.wrap_i64]; omega
              have d0 := RdR.cell tiC_sz HR.out hG5 hq2 0 (.int .i64 q.1) rfl
              have d1 := RdR.cell tiC_sz HR.out hG5 hq2 1 (.int .i64 q.2) rfl
              have hsub2 : IntKind.i64.wrap (m : Int) = (m : Int) := by rw [IntKind.wrap_i64]; omega
              have hsub3 : IntKind.i64.wrap ((m : Int) + 1 - 1) = (m : Int) := by rw [IntKind.wrap_i64]; omega
              have hm0 : (0 : Int) ≤ (m : Int) := Int.natCast_nonneg m
              have hml : (m : Int) < (l.length : Int) := by omega
              simp only [Nat.add_zero] at d0
              clear hq2
              rcases (show q.1 ≤ p.1 ∨ (p.1 < q.1 ∧ p.2 < q.2) ∨ (p.1 < q.1 ∧ q.2 ≤ p.2) by omega) with t1 | ⟨t1, t2⟩ | ⟨t1, t2⟩
              · have HF : Hid (tiE l = 7) := Lib.hid (by rw [H.out, HS2.out, if_pos (by rw [HA.out, decide_eq_true t1]; rfl)])
                go_quiet (fail)
                have hGq := hG5.drewN nq
                go_wp2_with fail
                go_ret
                exact ⟨by rw [HF.out]; rfl, hGq⟩
              · have HF : Hid (tiE l = 7) := Lib.hid (by rw [H.out, HS2.out, if_pos (by rw [HA.out, decide_eq_true t2, Bool.or_true])])
                have hd : decide (q.1 ≤ p.1) = false := decide_eq_false (by omega)
                go_quiet (fail)
                have hGq := hG5.drewN nq
                go_wp2_with fail
                go_ret
                exact ⟨by rw [HF.out]; rfl, hGq⟩
              · have HF : Hid (tiErr none l = tiErr (prevAt l (m + 1 + 1)) (l.drop (m + 1 + 1))) := Lib.hid (by rw [HS2.out, if_neg (by rw [HA.out, decide_eq_false (show ¬ q.1 ≤ p.1 by omega), decide_eq_false (show ¬ p.2 < q.2 by omega)]; decide), prevAt_succ l (m + 1) p HP.out])
                have hd : decide (q.1 ≤ p.1) = false := decide_eq_false (by omega)
                have hd2 : decide (p.2 < q.2) = false := decide_eq_false (by omega)
                go_quiet (fail)
                have hGq := hG5.drewN nq
                go_wp2_with fail
                go_roundw
                case rel => exact ⟨m + 1 + 1, by omega, by go_num, HF.out, hGq⟩
                case measure => simp [intOf]; omega
      · obtain rfl : k = l.length := by omega
        have HE2 : Hid (tiE l = 0) := Lib.hid (by rw [H.out, HE.out, List.drop_length]; rfl)
        go_wp2_with fail
        go_ret
        exact ⟨by rw [HE2.out]; rfl, hG⟩
set_option maxRecDepth 100000 in
set_option maxHeartbeats 4000000 in
theorem tiersFault_c (v : Value) (l : List Ti) (w : World) (hr : RdR w 2 tiC v l) (hn : l.length ≤ 1000) :
    Calls Tryd.prog 16 #[v] w fun e w' => e = .returned (.int .i64 (tiE l)) ∧ G w w' none := by
  have HR := Lib.hid hr
  obtain ⟨a, cap, rfl, hcap, hm⟩ := RdR.form hr
  clear hr
  by_cases h30 : 10 < l.length
  · have H := Lib.hid (show tiE l = 2 by simp [tiE, h30])
    go_enter Tryd.func16, Tryd.ntmps16
    go_wp2_with fail
    go_ret
    exact ⟨by rw [H.out]; rfl, G.refl _ _⟩
  · have H := Lib.hid (show tiE l = tiErr none l by simp [tiE, h30])
    go_enter Tryd.func16, Tryd.ntmps16
    go_wp2_with fail
    go_loopw [10] (TiRel w l) (fun i _ => l.length - (intOf i).toNat)
    case atStart => exact ⟨0, by omega, rfl, rfl, G.refl _ _⟩
    case round =>
      obtain ⟨k, hkl, rfl, heq, hG⟩ := hrel
      have HE := Lib.hid heq
      clear heq
      by_cases hk : k < l.length
      · obtain ⟨p, hp⟩ : ∃ p, l[k]? = some p := ⟨_, List.getElem?_eq_getElem hk⟩
        have hdrop : l.drop k = p :: l.drop (k + 1) := by rw [List.drop_eq_getElem_cons hk, ← (List.getElem?_eq_some_iff.1 hp).2]
        obtain ⟨bb, bo, rfl, hbb, _⟩ := RdR.elem tiC_sz HR.out hG hp
        have HW := Lib.hid (tiRow HR.out hG hp)
        have HP := Lib.hid hp
        have HS : Hid (tiErr (prevAt l k) (l.drop k) = if inB p.1 1 5761440 = false then 1 else if inB p.2 0 1000 = false then 1 else if tiAfter (prevAt l k) p = true then 7 else tiErr (some p) (l.drop (k + 1))) := Lib.hid (by rw [hdrop]; rfl)
        have hB5 := Bk.new wr 122 (tiC p)
        have hG5 := hG.alloc (.cells (tiC p) 122)
        clear hdrop hp hG
        go_wp2_with (refine wpList_load_at rfl 122 _ rfl ⟨bb, bo + k * 2, none⟩ rfl #[.int .i64 p.1, .int .i64 p.2] _ HW.out Tryd.underlying122 rfl (ti_info p) ?_)
        have hB5 : Bk (wr.alloc (.cells #[.int .i64 p.1, .int .i64 p.2] 122)) wr.heap.size 122 (tiC p) := hB5
        have hG5 : G w (wr.alloc (.cells #[.int .i64 p.1, .int .i64 p.2] 122)) none := hG5
        clear HW
        have hg5 := hB5.lt
        generalize wr.alloc (.cells #[.int .i64 p.1, .int .i64 p.2] 122) = w5 at hB5 hG5 hg5 ⊢
        generalize wr.heap.size = g at hB5 hg5 ⊢
        have c0 : w5.cell? ⟨g, 0, none⟩ = some (.int .i64 p.1) := hB5.cell 0
        have c1 : w5.cell? ⟨g, 1, none⟩ = some (.int .i64 p.2) := hB5.cell 1
        refine (in_c _ _ _ _).mono ?_; rintro e w' ⟨rfl, rfl⟩
        cases h1 : inB p.1 1 5761440 with
        | false =>
          have HF : Hid (tiE l = 1) := Lib.hid (by rw [H.out, HE.out, HS.out, if_pos h1])
          go_wp2_with fail
          go_ret
          exact ⟨by rw [HF.out]; rfl, hG5⟩
        | true =>
          have H1 := Lib.hid h1
          clear h1
          go_wp2_with fail
          refine (in_c _ _ _ _).mono ?_; rintro e w' ⟨rfl, rfl⟩
          cases h2 : inB p.2 0 1000 with
          | false =>
            have HF : Hid (tiE l = 1) := Lib.hid (by rw [H.out, HE.out, HS.out, if_neg (by simp [H1.out]), if_pos h2])
            go_wp2_with fail
            go_ret
            exact ⟨by rw [HF.out]; rfl, hG5⟩
          | true =>
            have HS2 : Hid (tiErr none l = if tiAfter (prevAt l k) p = true then 7 else tiErr (some p) (l.drop (k + 1))) := Lib.hid (by rw [HE.out, HS.out, if_neg (by simp [H1.out]), if_neg (by simp [h2])])
            clear h2 HS HE
            go_wp2_with fail
            cases k with
            | zero =>
              have HF : Hid (tiErr none l = tiErr (prevAt l (0 + 1)) (l.drop (0 + 1))) := Lib.hid (by rw [HS2.out, if_neg (by simp [prevAt, tiAfter]), prevAt_succ l 0 p HP.out])
              clear HS2
              go_quiet (fail)
              have hGq := hG5.drewN nq
              go_wp2_with fail
              go_roundw
              case rel => exact ⟨0 + 1, by omega, by go_num, HF.out, hGq⟩
              case measure => simp [intOf]; omega
            | succ m =>
              obtain ⟨q, hq2⟩ : ∃ q, l[m]? = some q := ⟨_, List.getElem?_eq_getElem (by omega)⟩
              have HA : Hid (tiAfter (prevAt l (m + 1)) p = (decide (q.1 ≤ p.1) || decide (p.2 < q.2))) := Lib.hid (by rw [prevAt_succ l m q hq2]; rfl)
              have hsub : IntKind.i64.wrap (((m + 1 : Nat) : Int) - 1) = (m : Int) := by rw [show ((m + 1 : Nat) : Int) - 1 = (m : Int) by omega]; rw [IntKind.wrap_i64]; omega
              have d0 := RdR.cell tiC_sz HR.out hG5 hq2 0 (.int .i64 q.1) rfl
              have d1 := RdR.cell tiC_sz HR.out hG5 hq2 1 (.int .i64 q.2) rfl
              have hsub2 : IntKind.i64.wrap (m : Int) = (m : Int) := by rw [IntKind.wrap_i64]; omega
              have hsub3 : IntKind.i64.wrap ((m : Int) + 1 - 1) = (m : Int) := by rw [IntKind.wrap_i64]; omega
              have hm0 : (0 : Int) ≤ (m : Int) := Int.natCast_nonneg m
              have hml : (m : Int) < (l.length : Int) := by omega
              simp only [Nat.add_zero] at d0
              clear hq2
              rcases (show q.1 ≤ p.1 ∨ (p.1 < q.1 ∧ p.2 < q.2) ∨ (p.1 < q.1 ∧ q.2 ≤ p.2) by omega) with t1 | ⟨t1, t2⟩ | ⟨t1, t2⟩
              · have HF : Hid (tiE l = 7) := Lib.hid (by rw [H.out, HS2.out, if_pos (by rw [HA.out, decide_eq_true t1]; rfl)])
                go_quiet (fail)
                have hGq := hG5.drewN nq
                go_wp2_with fail
                go_ret
                exact ⟨by rw [HF.out]; rfl, hGq⟩
              · have HF : Hid (tiE l = 7) := Lib.hid (by rw [H.out, HS2.out, if_pos (by rw [HA.out, decide_eq_true t2, Bool.or_true])])
                have hd : decide (q.1 ≤ p.1) = false := decide_eq_false (by omega)
                go_quiet (fail)
                have hGq := hG5.drewN nq
                go_wp2_with fail
                go_ret
                exact ⟨by rw [HF.out]; rfl, hGq⟩
              · have HF : Hid (tiErr none l = tiErr (prevAt l (m + 1 + 1)) (l.drop (m + 1 + 1))) := Lib.hid (by rw [HS2.out, if_neg (by rw [HA.out, decide_eq_false (show ¬ q.1 ≤ p.1 by omega), decide_eq_false (show ¬ p.2 < q.2 by omega)]; decide), prevAt_succ l (m + 1) p HP.out])
                have hd : decide (q.1 ≤ p.1) = false := decide_eq_false (by omega)
                have hd2 : decide (p.2 < q.2) = false := decide_eq_false (by omega)
                go_quiet (fail)
                have hGq := hG5.drewN nq
                go_wp2_with fail
                go_roundw
                case rel => exact ⟨m + 1 + 1, by omega, by go_num, HF.out, hGq⟩
                case measure => simp [intOf]; omega
      · obtain rfl : k = l.length := by omega
        have HE2 : Hid (tiE l = 0) := Lib.hid (by rw [H.out, HE.out, List.drop_length]; rfl)
        go_wp2_with fail
        go_ret
        exact ⟨by rw [HE2.out]; rfl, hG⟩
end Go.Proofs.YtndeidcddlmhbaaDoor

/- CancelFee; the reference's CancelOf. -/
namespace Go.Proofs.YtndeidcddlmhbaaDoor
open Go.RowKit

/-- The permille of the last tier that is meant. -/
def cnS (d a : Int) (x : Ti) : Int := if d < x.1 then x.2 else a
def cnP (l : List Ti) (d : Int) : Int := l.foldl (cnS d) 0
theorem cnP_succ {l : List Ti} {k : Nat} {p : Ti} (d : Int) (hp : l[k]? = some p) : cnP (l.take (k + 1)) d = cnS d (cnP (l.take k) d) p := by
  have hk : k < l.length := (List.getElem?_eq_some_iff.1 hp).1
  have e : l.take (k + 1) = l.take k ++ [p] := by
    rw [List.take_succ_eq_append_getElem hk, (List.getElem?_eq_some_iff.1 hp).2]
  unfold cnP
  rw [e, List.foldl_append]
  rfl
theorem cnP_rng {l : List Ti} (h : ∀ x ∈ l, 0 ≤ x.2 ∧ x.2 ≤ 1000) (d : Int) : 0 ≤ cnP l d ∧ cnP l d ≤ 1000 := by
  have : ∀ (r : List Ti) (a : Int), (∀ x ∈ r, 0 ≤ x.2 ∧ x.2 ≤ 1000) → 0 ≤ a ∧ a ≤ 1000 → 0 ≤ r.foldl (cnS d) a ∧ r.foldl (cnS d) a ≤ 1000 := by
    intro r
    induction r with
    | nil => intro a _ ha; exact ha
    | cons x r ih =>
      intro a hx ha
      refine ih _ (fun y hy => hx y (List.mem_cons_of_mem _ hy)) ?_
      unfold cnS
      split
      · exact hx x (List.mem_cons_self ..)
      · exact ha
  exact this l 0 h (by omega)
theorem tiErr_ok {l : List Ti} : ∀ {b : Option Ti}, tiErr b l = 0 → ∀ x ∈ l, 0 ≤ x.2 ∧ x.2 ≤ 1000 := by
  induction l with
  | nil => intro b _ x hx; cases hx
  | cons y r ih =>
    intro b h
    unfold tiErr at h
    split at h
    · exact absurd h (by decide)
    · split at h
      · exact absurd h (by decide)
      · rename_i h2
        split at h
        · exact absurd h (by decide)
        · intro x hx
          rcases List.mem_cons.1 hx with rfl | hx
          · simp only [inB, Bool.not_eq_false, Bool.and_eq_true, decide_eq_true_eq] at h2
            omega
          · exact ih h x hx
theorem tiE_ok {l : List Ti} (h : tiE l = 0) : ∀ x ∈ l, 0 ≤ x.2 ∧ x.2 ≤ 1000 := by
  unfold tiE at h
  split at h
  · exact absurd h (by decide)
  · exact tiErr_ok h
theorem boE_ok {b : Bo} (h : boE [b] = 0) : 0 ≤ b.2.2.1 ∧ b.2.2.1 < 5761440 := by
  have h1 : boErr ⟨#[]⟩ [b] = 0 := h
  unfold boErr at h1
  split at h1
  · exact absurd h1 (by decide)
  · split at h1
    · exact absurd h1 (by decide)
    · split at h1
      · exact absurd h1 (by decide)
      · split at h1
        · exact absurd h1 (by decide)
        · rename_i h2
          simp only [boT, Bool.not_eq_false, Bool.and_eq_true] at h2
          have := (timB_iff _ _).1 h2.1
          omega
theorem one_len (b : Bo) : ([b] : List Bo).length ≤ 1000 := by simp
theorem RdR.one {w : World} {g : Nat} {b : Bo} (h : Bk w g 31 (boC b)) : RdR w 6 boC (.slice (some ⟨g, 0, none⟩) 1 1) [b] := h.rd 6 1 rfl (by omega)
theorem BoOk.one {b : Bo} (h : boB b) : BoOk [b] := fun x hx => by
  obtain rfl := List.mem_singleton.1 hx
  exact h
def cfE (l : List Ti) (b : Bo) (c t : Int) : Int := if tiE l = 0 then (if boE [b] = 0 then (if inB c 0 1000000000 = false then 1 else if momB t = false then 1 else 0) else boE [b]) else tiE l
def cfN (l : List Ti) (b : Bo) (c t : Int) : Int := if cfE l b c t = 0 then c * cnP l (b.2.2.1 - t) / 1000 else 0
def CfRel (w : World) (l : List Ti) (d : Int) (g : Nat) (b : Bo) (s i : Value) (wr : World) : Prop :=
  ∃ k : Nat, k ≤ l.length ∧ i = .int .i64 k ∧ s = .int .i64 (cnP (l.take k) d) ∧ Bk wr g 31 (boC b) ∧ G w wr none
set_option maxRecDepth 100000 in
set_option maxHeartbeats 4000000 in
theorem cancelFee_c (v : Value) (l : List Ti) (b : Bo) (c t : Int) (w : World) (hr : RdR w 2 tiC v l) (hn : l.length ≤ 1000) (hb : boB b) :
    Calls Tryd.prog 15 #[v, .agg (boC b), .int .i64 c, .int .i64 t] w fun e w' => e = .returned (.tuple #[.int .i64 (cfN l b c t), .int .i64 (cfE l b c t)]) ∧ G w w' none := by
  have HR := Lib.hid hr
  have HB : Hid (boB b) := Lib.hid hb
  have hB0 := Bk.new w 31 (boC b)
  have hG0 := (G.refl w none).alloc (.cells (boC b) 31)
  obtain ⟨a, cap, rfl, hcap, hm⟩ := RdR.form hr
  clear hr hb
  go_enter Tryd.func15, Tryd.ntmps15
  go_wp2_with fail
  refine (checkTiers_c _ l _ (HR.out.quiet hG0) hn).mono ?_; rintro e w1 ⟨rfl, hG1⟩
  have hB := hB0.quiet hG1
  have hG := hG0.trans hG1
  clear hB0 hG0 hG1
  by_cases h0 : tiE l = 0
  · have HE : Hid (cfE l b c t = if boE [b] = 0 then (if inB c 0 1000000000 = false then 1 else if momB t = false then 1 else 0) else boE [b]) := Lib.hid (by rw [cfE, if_pos h0])
    have HOK := Lib.hid (tiE_ok h0)
    rw [h0]
    clear h0
    go_wp2_with (refine wpList_load_row rfl 31 _ rfl w.heap.size rfl 31 #[.string b.1, .string b.2.1, .int .i64 b.2.2.1, .int .i64 b.2.2.2.1, .int .i64 b.2.2.2.2.1, .int .i64 b.2.2.2.2.2] (0, 0) _ hB Tryd.underlying31 rfl (bo_info b) ?_)
    have hN2 : Bk (w1.alloc (.cells #[.string b.1, .string b.2.1, .int .i64 b.2.2.1, .int .i64 b.2.2.2.1, .int .i64 b.2.2.2.2.1, .int .i64 b.2.2.2.2.2] 31)) w1.heap.size 31 (boC b) := Bk.new w1 31 (boC b)
    have hG2 := hG.alloc (.cells #[.string b.1, .string b.2.1, .int .i64 b.2.2.1, .int .i64 b.2.2.2.1, .int .i64 b.2.2.2.2.1, .int .i64 b.2.2.2.2.2] 31)
    have hB2 := hB.alloc (.cells #[.string b.1, .string b.2.1, .int .i64 b.2.2.1, .int .i64 b.2.2.2.1, .int .i64 b.2.2.2.2.1, .int .i64 b.2.2.2.2.2] 31)
    clear hB hG
    refine (checkForm_c _ [b] _ (RdR.one hN2) (BoOk.one HB.out) (one_len b)).mono ?_; rintro e w3 ⟨rfl, hG3⟩
    have hB := hB2.quiet hG3
    have hG := hG2.trans hG3
    clear hN2 hB2 hG2 hG3
    by_cases h1 : boE [b] = 0
    · have HE2 : Hid (cfE l b c t = if inB c 0 1000000000 = false then 1 else if momB t = false then 1 else 0) := Lib.hid (by rw [HE.out, if_pos h1])
      obtain ⟨a0, a1⟩ := boE_ok h1
      rw [h1]
      clear h1 HE
      go_wp2_with fail
      refine (within_c _ _ _ _).mono ?_; rintro e w' ⟨rfl, rfl⟩
      cases hc : inB c 0 1000000000 with
      | false =>
        have HF : Hid (cfE l b c t = 1) := Lib.hid (by rw [HE2.out, if_pos hc])
        have HN : Hid (cfN l b c t = 0) := Lib.hid (by rw [cfN, if_neg (by rw [HF.out]; decide)])
        go_wp2_with fail
        go_ret2
        exact ⟨by rw [HF.out, HN.out]; rfl, hG⟩
      | true =>
        have HC := Lib.hid hc
        clear hc
        go_wp2_with fail
        refine (isMoment_c _ _).mono ?_; rintro e w' ⟨rfl, rfl⟩
        cases ht : momB t with
        | false =>
          have HF : Hid (cfE l b c t = 1) := Lib.hid (by rw [HE2.out, if_neg (by simp [HC.out]), if_pos ht])
          have HN : Hid (cfN l b c t = 0) := Lib.hid (by rw [cfN, if_neg (by rw [HF.out]; decide)])
          go_wp2_with fail
          go_ret2
          exact ⟨by rw [HF.out, HN.out]; rfl, hG⟩
        | true =>
          have HF : Hid (cfE l b c t = 0) := Lib.hid (by rw [HE2.out, if_neg (by simp [HC.out]), if_neg (by simp [ht])])
          have HN : Hid (cfN l b c t = c * cnP l (b.2.2.1 - t) / 1000) := Lib.hid (by rw [cfN, if_pos HF.out])
          obtain ⟨t0, t1⟩ : 0 ≤ t ∧ t < 5761440 := by simpa [momB] using ht
          obtain ⟨c0, c1⟩ : 0 ≤ c ∧ c ≤ 1000000000 := by simpa [inB] using HC.out
          clear ht HE2
          go_wp2_with fail
          go_loopw [12, 36] (CfRel w l (b.2.2.1 - t) w.heap.size b) (fun _ i _ => l.length - (intOf i).toNat)
          case atStart => exact ⟨0, by omega, rfl, rfl, hB, hG⟩
          case round =>
            clear hB hG
            obtain ⟨k, hkl, rfl, rfl, hB, hG⟩ := hrel
            by_cases hk : k < l.length
            · obtain ⟨p, hp⟩ : ∃ p, l[k]? = some p := ⟨_, List.getElem?_eq_getElem hk⟩
              have HP : Hid (cnP (l.take (k + 1)) (b.2.2.1 - t) = if b.2.2.1 - t < p.1 then p.2 else cnP (l.take k) (b.2.2.1 - t)) := Lib.hid (cnP_succ _ hp)
              obtain ⟨bb, bo, rfl, hbb, _⟩ := RdR.elem tiC_sz HR.out hG hp
              have HW := Lib.hid (tiRow HR.out hG hp)
              have hB5 := Bk.new wr 122 (tiC p)
              have hG5 := hG.alloc (.cells (tiC p) 122)
              have hB6 := hB.alloc (.cells (tiC p) 122)
              have cb : wr.cell? ⟨w.heap.size, 2, none⟩ = some (.int .i64 b.2.2.1) := hB.cell 2
              have hlt := hB.lt
              have HB6 := Lib.hid hB6
              have HG5 := Lib.hid hG5
              clear hp hG hB hB5 hB6 hG5
              rcases (show b.2.2.1 - t < p.1 ∨ p.1 ≤ b.2.2.1 - t by omega) with h2 | h2
              · have HQ : Hid (p.2 = cnP (l.take (k + 1)) (b.2.2.1 - t)) := Lib.hid (by rw [HP.out, if_pos h2])
                clear HP
                generalize cnP (l.take k) (b.2.2.1 - t) = N0
                go_wp2_with (refine wpList_load_at rfl 122 _ rfl ⟨bb, bo + k * 2, none⟩ rfl #[.int .i64 p.1, .int .i64 p.2] _ HW.out Tryd.underlying122 rfl (ti_info p) ?_)
                go_roundw
                case rel => exact ⟨k + 1, by omega, by go_num, by rw [← HQ.out], HB6.out, HG5.out⟩
                case measure => simp [intOf]; omega
              · have HQ : Hid (cnP (l.take k) (b.2.2.1 - t) = cnP (l.take (k + 1)) (b.2.2.1 - t)) := Lib.hid (by rw [HP.out, if_neg (by omega)])
                have h3 : ¬ b.2.2.1 - t < p.1 := by omega
                clear HP
                go_wp2_with (refine wpList_load_at rfl 122 _ rfl ⟨bb, bo + k * 2, none⟩ rfl #[.int .i64 p.1, .int .i64 p.2] _ HW.out Tryd.underlying122 rfl (ti_info p) ?_)
                go_roundw
                case rel => exact ⟨k + 1, by omega, by go_num, by rw [← HQ.out], HB6.out, HG5.out⟩
                case measure => simp [intOf]; omega
            · obtain rfl : k = l.length := by omega
              rw [List.take_length] at *
              obtain ⟨n0, n1⟩ := cnP_rng HOK.out (b.2.2.1 - t)
              generalize cnP l (b.2.2.1 - t) = N at HN n0 n1 ⊢
              have m0 : 0 ≤ c * N := Int.mul_nonneg c0 n0
              have m1 : c * N ≤ 1000000000000 := by
                have := Int.mul_le_mul c1 n1 n0 (by omega)
                omega
              go_wp2_with fail
              go_ret2
              exact ⟨by rw [HF.out, HN.out]; rfl, hG⟩
    · have HF : Hid (cfE l b c t = boE [b]) := Lib.hid (by rw [HE.out, if_neg h1])
      have HN : Hid (cfN l b c t = 0) := Lib.hid (by rw [cfN, if_neg (by rw [HF.out]; exact h1)])
      have h1' : (boE [b] != 0) = true := by rw [bne_iff_ne]; exact h1
      clear h1 HE
      generalize boE [b] = E at h1' HF ⊢
      go_wp2_with fail
      go_ret2
      exact ⟨by rw [HF.out, HN.out]; rfl, hG⟩
  · have HF : Hid (cfE l b c t = tiE l) := Lib.hid (by rw [cfE, if_neg h0])
    have HN : Hid (cfN l b c t = 0) := Lib.hid (by rw [cfN, if_neg (by rw [HF.out]; exact h0)])
    have h0' : (tiE l != 0) = true := by rw [bne_iff_ne]; exact h0
    clear h0
    generalize tiE l = E at h0' HF ⊢
    go_wp2_with fail
    go_ret2
    exact ⟨by rw [HF.out, HN.out]; rfl, hG⟩
def CcoRel (w : World) (l : List Ti) (d c : Int) (g : Nat) (b : Bo) (s i : Value) (wr : World) : Prop :=
  ∃ k : Nat, k ≤ l.length ∧ i = .int .i64 k ∧ s = .int .i64 (c * cnP (l.take k) d / 1000) ∧ Bk wr g 31 (boC b) ∧ G w wr none
set_option maxRecDepth 100000 in
set_option maxHeartbeats 4000000 in
theorem cancelOf_c (v : Value) (l : List Ti) (b : Bo) (c t : Int) (w : World) (hr : RdR w 2 tiC v l) (hn : l.length ≤ 1000) (h0 : tiE l = 0) (a0 : 0 ≤ b.2.2.1) (a1 : b.2.2.1 < 5761440) (t0 : 0 ≤ t) (t1 : t < 5761440) (c0 : 0 ≤ c) (c1 : c ≤ 1000000000) :
    Calls Tryd.prog 22 #[v, .agg (boC b), .int .i64 c, .int .i64 t] w fun e w' => e = .returned (.int .i64 (c * cnP l (b.2.2.1 - t) / 1000)) ∧ G w w' none := by
  have HR := Lib.hid hr
  have hB := Bk.new w 31 (boC b)
  have hG := (G.refl w none).alloc (.cells (boC b) 31)
  have HOK := Lib.hid (tiE_ok h0)
  obtain ⟨a, cap, rfl, hcap, hm⟩ := RdR.form hr
  clear hr h0
  go_enter Tryd.func22, Tryd.ntmps22
  go_wp2_with fail
  go_loopw [9, 14] (CcoRel w l (b.2.2.1 - t) c w.heap.size b) (fun _ i _ => l.length - (intOf i).toNat)
  case atStart => exact ⟨0, by omega, rfl, by rw [List.take_zero, show cnP [] (b.2.2.1 - t) = 0 from rfl, Int.mul_zero]; rfl, hB, hG⟩
  case round =>
    clear hB hG
    obtain ⟨k, hkl, rfl, rfl, hB, hG⟩ := hrel
    by_cases hk : k < l.length
    · obtain ⟨p, hp⟩ : ∃ p, l[k]? = some p := ⟨_, List.getElem?_eq_getElem hk⟩
      have HP : Hid (cnP (l.take (k + 1)) (b.2.2.1 - t) = if b.2.2.1 - t < p.1 then p.2 else cnP (l.take k) (b.2.2.1 - t)) := Lib.hid (cnP_succ _ hp)
      obtain ⟨n0, n1⟩ := HOK.out p (List.mem_of_getElem? hp)
      have m0 : 0 ≤ c * p.2 := Int.mul_nonneg c0 n0
      have m1 : c * p.2 ≤ 1000000000000 := by
        have := Int.mul_le_mul c1 n1 n0 (by omega)
        omega
      obtain ⟨bb, bo, rfl, hbb, _⟩ := RdR.elem tiC_sz HR.out hG hp
      have HW := Lib.hid (tiRow HR.out hG hp)
      have HB6 := Lib.hid (hB.alloc (.cells (tiC p) 122))
      have HG5 := Lib.hid (hG.alloc (.cells (tiC p) 122))
      have cb : wr.cell? ⟨w.heap.size, 2, none⟩ = some (.int .i64 b.2.2.1) := hB.cell 2
      have hlt := hB.lt
      clear hp hG hB
      rcases (show b.2.2.1 - t < p.1 ∨ p.1 ≤ b.2.2.1 - t by omega) with h2 | h2
      · have HQ : Hid (p.2 = cnP (l.take (k + 1)) (b.2.2.1 - t)) := Lib.hid (by rw [HP.out, if_pos h2])
        clear HP
        generalize c * cnP (l.take k) (b.2.2.1 - t) / 1000 = N0
        go_wp2_with (refine wpList_load_at rfl 122 _ rfl ⟨bb, bo + k * 2, none⟩ rfl #[.int .i64 p.1, .int .i64 p.2] _ HW.out Tryd.underlying122 rfl (ti_info p) ?_)
        go_roundw
        case rel => exact ⟨k + 1, by omega, by go_num, by rw [← HQ.out], HB6.out, HG5.out⟩
        case measure => simp [intOf]; omega
      · have HQ : Hid (cnP (l.take k) (b.2.2.1 - t) = cnP (l.take (k + 1)) (b.2.2.1 - t)) := Lib.hid (by rw [HP.out, if_neg (by omega)])
        have h3 : ¬ b.2.2.1 - t < p.1 := by omega
        clear HP
        go_wp2_with (refine wpList_load_at rfl 122 _ rfl ⟨bb, bo + k * 2, none⟩ rfl #[.int .i64 p.1, .int .i64 p.2] _ HW.out Tryd.underlying122 rfl (ti_info p) ?_)
        go_roundw
        case rel => exact ⟨k + 1, by omega, by go_num, by rw [← HQ.out], HB6.out, HG5.out⟩
        case measure => simp [intOf]; omega
    · obtain rfl : k = l.length := by omega
      rw [List.take_length] at *
      obtain ⟨N, hN⟩ : ∃ N, c * cnP l (b.2.2.1 - t) / 1000 = N := ⟨_, rfl⟩
      have HN := Lib.hid hN
      rw [hN]
      clear hN
      go_wp2_with fail
      go_ret
      exact ⟨by rw [HN.out]; rfl, hG⟩
end Go.Proofs.YtndeidcddlmhbaaDoor

/- basic.Lowest. -/
namespace Go.Proofs.YtndeidcddlmhbaaDoor
open Go.RowKit

def frC (a b : Int) : Array Value := #[.int .i64 a, .int .i64 b]
theorem fr_info (a b : Int) : (Tryd.prog.info? 134).map (·.size) = some (frC a b).size := (by kernel_rfl : (Tryd.prog.info? 134).map (·.size) = some 2)
theorem fr_one (a b : Int) : (frC a b).all (·.oneCell') = true := by simp [frC, Value.oneCell']
theorem quo_wrap (n a q : Nat) (hn : n ≤ 1000000000000000000) (hq : n / a = q) : IntKind.i64.wrap ((n : Int) / (a : Int)) = (q : Int) := by
  have h2 : q ≤ n := by rw [← hq]; exact Nat.div_le_self n a
  have h1 : (n : Int) / (a : Int) = (q : Int) := by rw [← hq]; rfl
  rw [h1, IntKind.wrap_i64]
  omega
def LowRel (n d : Nat) (s5 s6 : Value) (w wr : World) : Prop :=
  ∃ a b : Nat, s5 = .int .i64 a ∧ s6 = .int .i64 b ∧ Nat.gcd a b = Nat.gcd d n ∧ a ≤ 1000000000000000000 ∧ b ≤ 1000000000000000000 ∧ 0 < a ∧ Bk wr w.heap.size 134 (frC 0 0) ∧ G w wr none
set_option maxRecDepth 100000 in
set_option maxHeartbeats 2000000 in
theorem lowest_c (n d : Nat) (w : World) (hn : n ≤ 1000000000000000000) (hd : d ≤ 1000000000000000000) (h0 : 0 < d) :
    Calls Tryd.prog 135 #[.int .i64 n, .int .i64 d] w fun e w' => e = .returned (.agg (frC (n / Nat.gcd d n : Nat) (d / Nat.gcd d n : Nat))) ∧ G w w' none := by
  go_enter Tryd.func135, Tryd.ntmps135
  go_wp2_with fail
  go_loopw [5, 6] (fun s5 s6 wr => LowRel n d s5 s6 w wr) (fun _ i _ => (intOf i).toNat)
  case atStart => exact ⟨d, n, rfl, rfl, rfl, hd, hn, h0, Bk.new w _ _, (G.refl _ _).alloc _⟩
  case round =>
    obtain ⟨a, b, rfl, rfl, hg, ha, hb, a0, hB, hG⟩ := hrel
    have HG := Lib.hid hg
    clear hg
    by_cases hb0 : b = 0
    · subst hb0
      have hag : a = Nat.gcd d n := by rw [← HG.out]; simp
      have HA := Lib.hid hag
      clear hag
      obtain ⟨q1, hq1⟩ : ∃ q, n / a = q := ⟨_, rfl⟩
      obtain ⟨q2, hq2⟩ : ∃ q, d / a = q := ⟨_, rfl⟩
      have hane : ¬ a = 0 := by omega
      have hw1 := quo_wrap n a q1 hn hq1
      have hw2 := quo_wrap d a q2 hd hq2
      have HQ1 := Lib.hid hq1
      have HQ2 := Lib.hid hq2
      clear hq1 hq2
      go_wp2_with fail
      have HQQ : Hid (Ending.returned (.agg (frC q1 q2)) = .returned (.agg (frC (n / Nat.gcd d n : Nat) (d / Nat.gcd d n : Nat)))) := Lib.hid (by rw [← HA.out, HQ1.out, HQ2.out])
      go_still_tail 7, (by kernel_rfl)
      change wpList _ _ _ _ _ wr.drew
      have hBd := hB.quiet ((G.refl wr none).drew)
      have hGd := hG.drew
      clear hB hG
      generalize wr.drew = w2 at hBd hGd ⊢
      go_wp2_with (refine wpList_store_row rfl 134 _ _ rfl w.heap.size (frC q1 q2) rfl rfl 134 _ hBd (fr_info q1 q2) rfl (fr_one q1 q2) ?_)
      refine bodyPost_ret (results_cell_row rfl _ _ w.heap.size 134 (frC q1 q2) (0, 0) _ rfl (hBd.setRow _) Tryd.underlying134 rfl (fr_info q1 q2)) rfl ?_
      exact ⟨HQQ.out, hGd.setRow (.inl (Nat.le_refl _)) _⟩
    · have hbp : 0 < b := by omega
      have hne : ((b : Int) != 0) = true := by rw [bne_iff_ne]; omega
      have hbq : ((b : Int) == 0) = false := by rw [beq_eq_false_iff_ne]; omega
      have htm : (a : Int).tmod (b : Int) = ((a % b : Nat) : Int) := by rw [Int.tmod_eq_emod_of_nonneg (by omega)]; rfl
      have hmw : IntKind.i64.wrap ((a % b : Nat) : Int) = ((a % b : Nat) : Int) := by have := Nat.mod_lt a hbp; rw [IntKind.wrap_i64]; omega
      have HML := Lib.hid (Nat.mod_lt a hbp)
      go_wp2_with fail
      go_quiet (fail)
      have hGq := hG.drewN nq
      have hBq := hB.drewN nq
      go_wp2_with fail
      go_roundw
      case rel => exact ⟨b, a % b, rfl, rfl, by rw [← HG.out, Nat.gcd_comm a b]; exact (Nat.gcd_rec b a).symm ▸ by rw [Nat.gcd_comm], hb, by have := HML.out; omega, hbp, hBq, hGq⟩
      case measure => have := HML.out; simp [intOf]; omega
end Go.Proofs.YtndeidcddlmhbaaDoor
