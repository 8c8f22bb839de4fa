/- Exg, Exc, Chc, Kpt, Hvk. -/
import Derived.Test.YtdcofbciebkfkaaDoorZa3
import Derived.Test.YtdcofbciebkfkaaDoorZa2
/- Hires: what the functions that Exchange and Extend hand on do with a hire. Written by genexg.py. -/
namespace Go.Proofs.YtdcofbciebkfkaaDoor
open Go.RowKit

theorem cf_exchange : ∀ (args : Array Value) (w : World), (callFunc 92 args).run Tryd.prog w = .ok (.enter 92 args) w := fun args w => by kernel_rfl
theorem cf_exchangeR : ∀ (args : Array Value) (w : World), (callFunc 97 args).run Tryd.prog w = .ok (.enter 97 args) w := fun args w => by kernel_rfl
theorem cf_extend : ∀ (args : Array Value) (w : World), (callFunc 94 args).run Tryd.prog w = .ok (.enter 94 args) w := fun args w => by kernel_rfl
theorem cf_extendR : ∀ (args : Array Value) (w : World), (callFunc 98 args).run Tryd.prog w = .ok (.enter 98 args) w := fun args w => by kernel_rfl
set_option maxRecDepth 100000 in
set_option maxHeartbeats 8000000 in
theorem exchange1_c (h : Hh) (l : List Lg) (r : Rg) (s : ByteArray) (ro : Rg) (b bv bo : Nat) (A : World) (hB : Bk A b 37 (rgC r)) (hBv : Bk A bv 9 #[.string s]) (hBo : Bk A bo 37 (rgC ro)) (h0 : 0 < l.length) (hn : l.length ≤ 1000) :
    ChFn 92 #[.pointer (some ⟨b, 0, none⟩), .pointer (some ⟨bv, 0, none⟩), .pointer (some ⟨bo, 0, none⟩)] h l h (inL l r ++ [(s, ro, noIn)]) A := by
  intro w1 g base v1 hG hown hH hg hgb hbs
  have hb := hB.lt
  have hbv := hBv.lt
  have hbo := hBo.lt
  have hB1 := hB.quiet hG
  have hV1 := hBv.quiet hG
  have hO1 := hBo.quiet hG
  obtain ⟨g1, cap, cur, rfl, -, hg1⟩ := OwnX.form hown h0
  obtain ⟨p, hp⟩ : ∃ p, l[l.length - 1]? = some p := ⟨_, List.getElem?_eq_getElem (by omega)⟩
  have hne : g ≠ g1 := by omega
  have hnb : b ≠ g1 := by omega
  have hnv : bv ≠ g1 := by omega
  have hno : bo ≠ g1 := by omega
  clear hB hBv hBo
  simp only [hiC, rgC] at hH hB1 hO1 ⊢
  go_enter Tryd.func92, Tryd.ntmps92
  go_upto_region 0 with fail
  have hH2 := hH.quiet ((G.refl w1 none).drew)
  have hB2 := hB1.quiet ((G.refl w1 none).drew)
  have hV2 := hV1.quiet ((G.refl w1 none).drew)
  have hO2 := hO1.quiet ((G.refl w1 none).drew)
  have hG02 : G w1 w1.drew none := (G.refl w1 none).drew
  have HP := Lib.hid hp
  have HO2 := Lib.hid (OwnX.drew hown)
  clear hp
  refine wp_region_held_drew (S := (fun w' => w'.cell? ⟨g, 0, none⟩ = some (.string h.1) ∧ w'.cell? ⟨g, 1, none⟩ = some (.string h.2.1) ∧ w'.cell? ⟨g, 2, none⟩ = some (.int .i64 h.2.2.1) ∧ w'.cell? ⟨g, 3, none⟩ = some (.int .i64 h.2.2.2) ∧ w'.cell? ⟨g, 4, none⟩ = some (.slice (some ⟨g1, 0, none⟩) l.length cap) ∧ w'.cell? ⟨b, 0, none⟩ = some (.int .i64 r.1) ∧ w'.cell? ⟨b, 1, none⟩ = some (.string r.2.1) ∧ w'.cell? ⟨b, 2, none⟩ = some (.int .i64 r.2.2.1) ∧ w'.cell? ⟨b, 3, none⟩ = some (.int .i64 r.2.2.2))) (by kernel_rfl) ?_ (fun hHeld => ?_)
  · exact ⟨hH2.cell 0, hH2.cell 1, hH2.cell 2, hH2.cell 3, hH2.cell 4, hB2.cell 0, hB2.cell 1, hB2.cell 2, hB2.cell 3⟩
  refine wpAnyH_take (i := 0) (oi := { dst := some 5, op := Op.move (Operand.tmp 0), type := 134, pos := _, after := #[], guard := none }) (v := ?_) rfl (by kernel_rfl) (by kernel_rfl) (by kernel_rfl) (fun _ _ _ h => h) (Or.inl ⟨by rfl, ?_⟩) (by assumption) ?_
  rotate_left
  · (intro w hSw; obtain ⟨s0, s1, s2, s3, s4, s5, s6, s7, s8⟩ := hSw; (go_simp <;> with_reducible rfl))
  try simp only [Act.put, List.setIfInBounds_toArray, List.set_cons_zero, List.set_cons_succ]
  refine wpAnyH_take (i := 1) (oi := { dst := some 6, op := Op.nilCheck (Operand.tmp 5), type := 0, pos := _, after := #[{ on := 0, ground := Ground.data }], guard := none }) (v := ?_) rfl (by kernel_rfl) (by kernel_rfl) (by kernel_rfl) (fun _ _ _ h => h) (Or.inl ⟨by rfl, ?_⟩) (by assumption) ?_
  rotate_left
  · (intro w hSw; obtain ⟨s0, s1, s2, s3, s4, s5, s6, s7, s8⟩ := hSw; (go_simp <;> with_reducible rfl))
  try simp only [Act.put, List.setIfInBounds_toArray, List.set_cons_zero, List.set_cons_succ]
  refine wpAnyH_take (i := 2) (oi := { dst := some 7, op := Op.load 33 (Operand.tmp 6), type := 33, pos := _, after := #[{ on := 1, ground := Ground.data }], guard := none }) (v := ?_) rfl (by kernel_rfl) (by kernel_rfl) (by kernel_rfl) (fun _ _ _ h => h) (Or.inl ⟨by rfl, ?_⟩) (by assumption) ?_
  rotate_left
  · (intro w hSw; obtain ⟨s0, s1, s2, s3, s4, s5, s6, s7, s8⟩ := hSw; (go_simp <;> with_reducible rfl))
  try simp only [Act.put, List.setIfInBounds_toArray, List.set_cons_zero, List.set_cons_succ]
  refine wpAnyH_take (i := 4) (oi := { dst := some 9, op := Op.load 37 (Operand.tmp 1), type := 37, pos := _, after := #[], guard := none }) (v := ?_) rfl (by kernel_rfl) (by kernel_rfl) (by kernel_rfl) (fun _ _ _ h => h) (Or.inl ⟨by rfl, ?_⟩) (by assumption) ?_
  rotate_left
  · (intro w hSw; obtain ⟨s0, s1, s2, s3, s4, s5, s6, s7, s8⟩ := hSw; (go_simp <;> with_reducible rfl))
  try simp only [Act.put, List.setIfInBounds_toArray, List.set_cons_zero, List.set_cons_succ]
  refine wpAnyH_ready (rs := [3]) (by kernel_rfl) (by simp) ?_
  refine AllReadyH.cons (o := { dst := some 8, op := Op.call { callee := Callee.value (Operand.func 93), args := #[Operand.tmp 7], argTypes := #[33] }, type := 123, pos := _, after := #[{ on := 2, ground := Ground.data }], guard := none }) rfl (fun K hK => ?_) AllReadyH.nil
  go_simp
  refine (lastOf_c h g1 0 l.length cap _ h0 hn).mono ?_
  rintro e w3 ⟨rfl, hG3⟩
  have hH3 := hH2.quiet hG3
  have hB3 := hB2.quiet hG3
  have hV3 := hV2.quiet hG3
  have hO3 := hO2.quiet hG3
  have HO := Lib.hid (OwnX.quiet HO2.out hG3)
  have hG03 := hG02.trans hG3
  clear hG3
  refine hK.out _ _ ?_ (fun hHeld => ?_)
  · exact ⟨hH3.cell 0, hH3.cell 1, hH3.cell 2, hH3.cell 3, hH3.cell 4, hB3.cell 0, hB3.cell 1, hB3.cell 2, hB3.cell 3⟩
  clear hK K
  try simp only [Act.put, List.setIfInBounds_toArray, List.set_cons_zero, List.set_cons_succ]
  refine wpAnyH_take (i := 5) (oi := { dst := some 10, op := Op.nilCheck (Operand.tmp 8), type := 0, pos := _, after := #[{ on := 3, ground := Ground.data }, { on := 0, ground := Ground.phase }, { on := 1, ground := Ground.phase }, { on := 2, ground := Ground.phase }, { on := 3, ground := Ground.phase }, { on := 4, ground := Ground.phase }], guard := none }) (v := ?_) rfl (by kernel_rfl) (by kernel_rfl) (by kernel_rfl) (fun _ _ _ h => h) (Or.inl ⟨by rfl, ?_⟩) (by assumption) ?_
  rotate_left
  · (intro w hSw; obtain ⟨s0, s1, s2, s3, s4, s5, s6, s7, s8⟩ := hSw; (go_simp <;> with_reducible rfl))
  try simp only [Act.put, List.setIfInBounds_toArray, List.set_cons_zero, List.set_cons_succ]
  refine wpAnyH_take (i := 6) (oi := { dst := some 11, op := Op.fieldAddr 79 (Operand.tmp 10) 2, type := 0, pos := _, after := #[{ on := 5, ground := Ground.data }, { on := 0, ground := Ground.phase }, { on := 1, ground := Ground.phase }, { on := 2, ground := Ground.phase }, { on := 3, ground := Ground.phase }, { on := 4, ground := Ground.phase }], guard := none }) (v := ?_) rfl (by kernel_rfl) (by kernel_rfl) (by kernel_rfl) (fun _ _ _ h => h) (Or.inl ⟨by rfl, ?_⟩) (by assumption) ?_
  rotate_left
  · (intro w hSw; obtain ⟨s0, s1, s2, s3, s4, s5, s6, s7, s8⟩ := hSw; (go_simp <;> with_reducible rfl))
  try simp only [Act.put, List.setIfInBounds_toArray, List.set_cons_zero, List.set_cons_succ]
  refine wpAnyH_ready (rs := [7]) (by kernel_rfl) (by simp) ?_
  refine AllReadyH.cons (o := { dst := none, op := Op.store 37 (Operand.tmp 11) (Operand.tmp 9), type := 0, pos := _, after := #[{ on := 6, ground := Ground.data }, { on := 4, ground := Ground.data }, { on := 3, ground := Ground.chain }, { on := 0, ground := Ground.phase }, { on := 1, ground := Ground.phase }, { on := 2, ground := Ground.phase }, { on := 3, ground := Ground.phase }, { on := 4, ground := Ground.phase }], guard := none }) rfl (fun K hK => ?_) AllReadyH.nil
  refine st_wp rfl (wp_store_mid 37 _ _ rfl g1 ((l.length - 1) * 9 + 5) #[.int .i64 r.1, .string r.2.1, .int .i64 r.2.2.1, .int .i64 r.2.2.2] rfl rfl (there_lg HO.out HP.out) (rg_info r) (rg_one r) ?_)
  have hQ := own_inL HO.out HP.out r
  have hGs := G.setCells g1 (#[.int .i64 r.1, .string r.2.1, .int .i64 r.2.2.1, .int .i64 r.2.2.2] : Array Value).toList ((l.length - 1) * 9 + 5) w3
  have hH4 := hH3.grown hGs (fun e => hne (Option.some.inj e))
  have hB4 := hB3.grown hGs (fun e => hnb (Option.some.inj e))
  have hV4 := hV3.grown hGs (fun e => hnv (Option.some.inj e))
  have hO4 := hO3.grown hGs (fun e => hno (Option.some.inj e))
  refine hK.out _ _ ?_ (fun hHeld => ?_)
  · exact ⟨hH4.cell 0, hH4.cell 1, hH4.cell 2, hH4.cell 3, hH4.cell 4, hB4.cell 0, hB4.cell 1, hB4.cell 2, hB4.cell 3⟩
  clear hK K
  try simp only [Act.put, List.setIfInBounds_toArray, List.set_cons_zero, List.set_cons_succ]
  refine wpAnyH_done (by kernel_rfl) ?_ _
  have hS4 : GS (S2 g (.slice (some ⟨g1, 0, none⟩) l.length cap)) w1 (w3.setCells g1 ((l.length - 1) * 9 + 5) (#[.int .i64 r.1, .string r.2.1, .int .i64 r.2.2.1, .int .i64 r.2.2.2] : Array Value).toList) := (GS.of_G hG03).trans (GS.of_Gs hGs (.inr rfl))
  have hz4 : base ≤ (w3.setCells g1 ((l.length - 1) * 9 + 5) (#[.int .i64 r.1, .string r.2.1, .int .i64 r.2.2.1, .int .i64 r.2.2.2] : Array Value).toList).heap.size := Nat.le_trans hbs hS4.size
  have hW4 := hQ
  clear hGs hQ hB4
  go_upto_region 1 with fail
  generalize w3.setCells g1 ((l.length - 1) * 9 + 5) (#[.int .i64 r.1, .string r.2.1, .int .i64 r.2.2.1, .int .i64 r.2.2.2] : Array Value).toList = w4 at hH4 hV4 hO4 hW4 hS4 hz4 ⊢
  have hq := (G.refl w4 none).drew
  have hH0 := hH4.quiet hq
  have hV0 := hV4.quiet hq
  have hO0 := hO4.quiet hq
  have hW0 := OwnX.quiet hW4 hq
  have hS0 := hS4.trans (GS.of_G hq)
  have hz0 := Nat.le_trans hz4 hq.size
  clear hq hH4 hV4 hO4 hW4 hS4 hz4
  refine wp_region_held_drew (S := (fun w' => w'.cell? ⟨bv, 0, none⟩ = some (.string s) ∧ w'.cell? ⟨bo, 0, none⟩ = some (.int .i64 ro.1) ∧ w'.cell? ⟨bo, 1, none⟩ = some (.string ro.2.1) ∧ w'.cell? ⟨bo, 2, none⟩ = some (.int .i64 ro.2.2.1) ∧ w'.cell? ⟨bo, 3, none⟩ = some (.int .i64 ro.2.2.2))) (by kernel_rfl) ?_ (fun hHeld => ?_)
  · exact ⟨hV0.cell 0, hO0.cell 0, hO0.cell 1, hO0.cell 2, hO0.cell 3⟩
  refine wpAnyH_take (i := 0) (oi := { dst := some 12, op := Op.move (Operand.tmp 0), type := 134, pos := _, after := #[], guard := none }) (v := ?_) rfl (by kernel_rfl) (by kernel_rfl) (by kernel_rfl) (fun _ _ _ h => h) (Or.inl ⟨by rfl, ?_⟩) (by assumption) ?_
  rotate_left
  · (intro w hSw; obtain ⟨s0, s1, s2, s3, s4⟩ := hSw; (go_simp <;> with_reducible rfl))
  try simp only [Act.put, List.setIfInBounds_toArray, List.set_cons_zero, List.set_cons_succ]
  refine wpAnyH_take (i := 1) (oi := { dst := some 13, op := Op.move (Operand.tmp 0), type := 134, pos := _, after := #[], guard := none }) (v := ?_) rfl (by kernel_rfl) (by kernel_rfl) (by kernel_rfl) (fun _ _ _ h => h) (Or.inl ⟨by rfl, ?_⟩) (by assumption) ?_
  rotate_left
  · (intro w hSw; obtain ⟨s0, s1, s2, s3, s4⟩ := hSw; (go_simp <;> with_reducible rfl))
  try simp only [Act.put, List.setIfInBounds_toArray, List.set_cons_zero, List.set_cons_succ]
  refine wpAnyH_take (i := 2) (oi := { dst := some 14, op := Op.nilCheck (Operand.tmp 13), type := 0, pos := _, after := #[{ on := 1, ground := Ground.data }], guard := none }) (v := ?_) rfl (by kernel_rfl) (by kernel_rfl) (by kernel_rfl) (fun _ _ _ h => h) (Or.inl ⟨by rfl, ?_⟩) (by assumption) ?_
  rotate_left
  · (intro w hSw; obtain ⟨s0, s1, s2, s3, s4⟩ := hSw; (go_simp <;> with_reducible rfl))
  try simp only [Act.put, List.setIfInBounds_toArray, List.set_cons_zero, List.set_cons_succ]
  refine wpAnyH_take (i := 3) (oi := { dst := some 15, op := Op.fieldAddr 33 (Operand.tmp 14) 3, type := 0, pos := _, after := #[{ on := 2, ground := Ground.data }], guard := none }) (v := ?_) rfl (by kernel_rfl) (by kernel_rfl) (by kernel_rfl) (fun _ _ _ h => h) (Or.inl ⟨by rfl, ?_⟩) (by assumption) ?_
  rotate_left
  · (intro w hSw; obtain ⟨s0, s1, s2, s3, s4⟩ := hSw; (go_simp <;> with_reducible rfl))
  try simp only [Act.put, List.setIfInBounds_toArray, List.set_cons_zero, List.set_cons_succ]
  refine wpAnyH_take (i := 5) (oi := { dst := some 17, op := Op.load 9 (Operand.tmp 2), type := 9, pos := _, after := #[], guard := none }) (v := ?_) rfl (by kernel_rfl) (by kernel_rfl) (by kernel_rfl) (fun _ _ _ h => h) (Or.inl ⟨by rfl, ?_⟩) (by assumption) ?_
  rotate_left
  · (intro w hSw; obtain ⟨s0, s1, s2, s3, s4⟩ := hSw; (go_simp <;> with_reducible rfl))
  try simp only [Act.put, List.setIfInBounds_toArray, List.set_cons_zero, List.set_cons_succ]
  refine wpAnyH_take (i := 6) (oi := { dst := some 18, op := Op.load 37 (Operand.tmp 3), type := 37, pos := _, after := #[], guard := none }) (v := ?_) rfl (by kernel_rfl) (by kernel_rfl) (by kernel_rfl) (fun _ _ _ h => h) (Or.inl ⟨by rfl, ?_⟩) (by assumption) ?_
  rotate_left
  · (intro w hSw; obtain ⟨s0, s1, s2, s3, s4⟩ := hSw; (go_simp <;> with_reducible rfl))
  try simp only [Act.put, List.setIfInBounds_toArray, List.set_cons_zero, List.set_cons_succ]
  refine wpAnyH_ready (rs := [4, 7]) (by kernel_rfl) (by simp) ?_
  refine (AllReadyH.cons (o := { dst := some 16, op := Op.load 31 (Operand.tmp 15), type := 31, pos := _, after := #[{ on := 3, ground := Ground.data }], guard := none }) rfl (fun K hK => ?_) (AllReadyH.cons (o := { dst := some 19, op := Op.call { callee := Callee.value (Operand.func 90), args := #[Operand.tmp 17, Operand.tmp 18], argTypes := #[9, 37] }, type := 79, pos := _, after := #[{ on := 5, ground := Ground.data }, { on := 6, ground := Ground.data }], guard := none }) rfl (fun K hK => ?_) AllReadyH.nil))
  · have c4 : w4.drew.cell? ⟨g, 4, none⟩ = some (.slice (some ⟨g1, 0, none⟩) l.length cap) := hH0.cell 4
    go_simp
    clear c4
    refine hK.out _ _ ?_ (fun hHeld => ?_)
    · exact ⟨hV0.cell 0, hO0.cell 0, hO0.cell 1, hO0.cell 2, hO0.cell 3⟩
    clear hK K
    try simp only [Act.put, List.setIfInBounds_toArray, List.set_cons_zero, List.set_cons_succ]
    refine wpAnyH_ready (rs := [7]) (by kernel_rfl) (by simp) ?_
    refine (AllReadyH.cons (o := { dst := some 19, op := Op.call { callee := Callee.value (Operand.func 90), args := #[Operand.tmp 17, Operand.tmp 18], argTypes := #[9, 37] }, type := 79, pos := _, after := #[{ on := 5, ground := Ground.data }, { on := 6, ground := Ground.data }], guard := none }) rfl (fun K hK => ?_) AllReadyH.nil)
    go_simp
    refine (openLeg_l s ro _).mono ?_
    rintro e w1_o ⟨rfl, hh⟩
    have hH1 := hH0.quiet hh
    have hV1 := hV0.quiet hh
    have hO1 := hO0.quiet hh
    have hW1 := OwnX.quiet hW0 hh
    have hS1 := hS0.trans (GS.of_G hh)
    have hz1 := Nat.le_trans hz0 hh.size
    clear hh hH0 hV0 hO0 hW0 hS0 hz0
    refine hK.out _ _ ?_ (fun hHeld => ?_)
    · exact ⟨hV1.cell 0, hO1.cell 0, hO1.cell 1, hO1.cell 2, hO1.cell 3⟩
    clear hK K
    try simp only [Act.put, List.setIfInBounds_toArray, List.set_cons_zero, List.set_cons_succ]
    refine wpAnyH_ready (rs := [8]) (by kernel_rfl) (by simp) ?_
    refine (AllReadyH.cons (o := { dst := some 20, op := Op.buildSlice 31 1 #[(0, Operand.tmp 19)], type := 31, pos := _, after := #[{ on := 7, ground := Ground.data }], guard := none }) rfl (fun K hK => ?_) AllReadyH.nil)
    go_simp
    have hh := (G.refl w1_o none).alloc (.cells #[.string s, .int .i64 ro.1, .string ro.2.1, .int .i64 ro.2.2.1, .int .i64 ro.2.2.2, .int .i64 (-1), .string ⟨#[]⟩, .int .i64 0, .int .i64 0] 79)
    have hH2 := hH1.quiet hh
    have hV2 := hV1.quiet hh
    have hO2 := hO1.quiet hh
    have hW2 := OwnX.quiet hW1 hh
    have hS2 := hS1.trans (GS.of_G hh)
    have hz2 := Nat.le_trans hz1 hh.size
    have hN := Bk.new w1_o 79 (lgC (s, ro, noIn))
    clear hh hH1 hV1 hO1 hW1 hS1 hz1
    refine hK.out _ _ ?_ (fun hHeld => ?_)
    · exact ⟨hV2.cell 0, hO2.cell 0, hO2.cell 1, hO2.cell 2, hO2.cell 3⟩
    clear hK K
    try simp only [Act.put, List.setIfInBounds_toArray, List.set_cons_zero, List.set_cons_succ]
    refine wpAnyH_ready (rs := [9]) (by kernel_rfl) (by simp) ?_
    refine (AllReadyH.cons (o := { dst := some 21, op := Op.call { callee := Callee.builtin Builtin.append, args := #[Operand.tmp 16, Operand.tmp 20], argTypes := #[31, 31] }, type := 31, pos := _, after := #[{ on := 4, ground := Ground.data }, { on := 8, ground := Ground.data }, { on := 7, ground := Ground.chain }], guard := none }) rfl (fun K hK => ?_) AllReadyH.nil)
    refine st_wp rfl (wp_append_x lg_rowOk _ _ rfl base (.slice (some ⟨g1, 0, none⟩) l.length cap) (inL l r) rfl hW2 (w1_o.heap.size) (s, ro, noIn) rfl hN (by rw [inL_len]; omega) hz2 ?_)
    intro v8 w3_a hW3 hgrow
    obtain ⟨a8, cap8, rfl, -, -⟩ := RdR.form (Rd.of_owns hW3)
    have hH3 := hH2.grown hgrow (fun e => hne (Option.some.inj e))
    have hV3 := hV2.grown hgrow (fun e => hnv (Option.some.inj e))
    have hO3 := hO2.grown hgrow (fun e => hno (Option.some.inj e))
    have hS3 := hS2.trans (GS.of_Gs hgrow (.inr rfl))
    have hz3 := Nat.le_trans hz2 hgrow.size
    clear hgrow hN hH2 hV2 hO2 hW2 hS2 hz2
    refine hK.out _ _ ?_ (fun hHeld => ?_)
    · exact ⟨hV3.cell 0, hO3.cell 0, hO3.cell 1, hO3.cell 2, hO3.cell 3⟩
    clear hK K
    try simp only [Act.put, List.setIfInBounds_toArray, List.set_cons_zero, List.set_cons_succ]
    refine wpAnyH_take (i := 10) (oi := { dst := some 22, op := Op.nilCheck (Operand.tmp 12), type := 0, pos := _, after := #[{ on := 0, ground := Ground.data }, { on := 0, ground := Ground.phase }, { on := 1, ground := Ground.phase }, { on := 2, ground := Ground.phase }, { on := 3, ground := Ground.phase }, { on := 4, ground := Ground.phase }, { on := 5, ground := Ground.phase }, { on := 6, ground := Ground.phase }, { on := 7, ground := Ground.phase }, { on := 8, ground := Ground.phase }, { on := 9, ground := Ground.phase }], guard := none }) (v := ?_) rfl (by kernel_rfl) (by kernel_rfl) (by kernel_rfl) (fun _ _ _ h => h) (Or.inl ⟨by rfl, ?_⟩) (by assumption) ?_
    rotate_left
    · (intro w hSw; obtain ⟨s0, s1, s2, s3, s4⟩ := hSw; (go_simp <;> with_reducible rfl))
    try simp only [Act.put, List.setIfInBounds_toArray, List.set_cons_zero, List.set_cons_succ]
    refine wpAnyH_take (i := 11) (oi := { dst := some 23, op := Op.fieldAddr 33 (Operand.tmp 22) 3, type := 0, pos := _, after := #[{ on := 10, ground := Ground.data }, { on := 0, ground := Ground.phase }, { on := 1, ground := Ground.phase }, { on := 2, ground := Ground.phase }, { on := 3, ground := Ground.phase }, { on := 4, ground := Ground.phase }, { on := 5, ground := Ground.phase }, { on := 6, ground := Ground.phase }, { on := 7, ground := Ground.phase }, { on := 8, ground := Ground.phase }, { on := 9, ground := Ground.phase }], guard := none }) (v := ?_) rfl (by kernel_rfl) (by kernel_rfl) (by kernel_rfl) (fun _ _ _ h => h) (Or.inl ⟨by rfl, ?_⟩) (by assumption) ?_
    rotate_left
    · (intro w hSw; obtain ⟨s0, s1, s2, s3, s4⟩ := hSw; (go_simp <;> with_reducible rfl))
    try simp only [Act.put, List.setIfInBounds_toArray, List.set_cons_zero, List.set_cons_succ]
    refine wpAnyH_ready (rs := [12]) (by kernel_rfl) (by simp) ?_
    refine (AllReadyH.cons (o := { dst := none, op := Op.store 31 (Operand.tmp 23) (Operand.tmp 21), type := 0, pos := _, after := #[{ on := 11, ground := Ground.data }, { on := 9, ground := Ground.data }, { on := 9, ground := Ground.chain }, { on := 0, ground := Ground.phase }, { on := 1, ground := Ground.phase }, { on := 2, ground := Ground.phase }, { on := 3, ground := Ground.phase }, { on := 4, ground := Ground.phase }, { on := 5, ground := Ground.phase }, { on := 6, ground := Ground.phase }, { on := 7, ground := Ground.phase }, { on := 8, ground := Ground.phase }, { on := 9, ground := Ground.phase }], guard := none }) rfl (fun K hK => ?_) AllReadyH.nil)
    have f8 := hH3.free 4
    have d8 : w3_a.cell? ⟨g, 4, none⟩ = some (.slice (some ⟨g1, 0, none⟩) l.length cap) := hH3.cell 4
    generalize hLL : (inL l r ++ [(s, ro, noIn)]).length = LL at hW3 ⊢
    go_simp
    have hH4 := hH3.set 4 (.slice a8 LL cap8)
    have hV4 := hV3.far (p := ⟨g, 4, none⟩) (show bv ≠ g by omega) (.slice a8 LL cap8)
    have hO4 := hO3.far (p := ⟨g, 4, none⟩) (show bo ≠ g by omega) (.slice a8 LL cap8)
    have hW4 := World.ownsRow.kept hW3 (grownBy_setCell_row w3_a ⟨g, 4, none⟩ (.slice a8 LL cap8)) (.inr fun e => by have := (World.ownsRow.lt hW3 g e).1; omega)
    have hS4 := hS3.trans (GS.of_Gs ((G.refl w3_a (some g)).setCell (p := ⟨g, 4, none⟩) (.inr rfl) (.slice a8 LL cap8)) (.inl rfl))
    clear d8 f8
    refine hK.out _ _ ?_ (fun hHeld => ?_)
    · exact ⟨hV4.cell 0, hO4.cell 0, hO4.cell 1, hO4.cell 2, hO4.cell 3⟩
    clear hK K
    try simp only [Act.put, List.setIfInBounds_toArray, List.set_cons_zero, List.set_cons_succ]
    refine wpAnyH_done (by kernel_rfl) ?_ _
    go_wp2_with fail
    (try simp only [Exit.inBlock, Exit.then])
    refine bodyPost_end (results_none rfl _ _ _) rfl ?_
    subst hLL
    exact ⟨rfl, _, hH4, Rd.of_owns hW4, fun k e => (World.ownsRow.lt hW4 k e).1, hS4⟩
  · go_simp
    refine (openLeg_l s ro _).mono ?_
    rintro e w1_o ⟨rfl, hh⟩
    have hH1 := hH0.quiet hh
    have hV1 := hV0.quiet hh
    have hO1 := hO0.quiet hh
    have hW1 := OwnX.quiet hW0 hh
    have hS1 := hS0.trans (GS.of_G hh)
    have hz1 := Nat.le_trans hz0 hh.size
    clear hh hH0 hV0 hO0 hW0 hS0 hz0
    refine hK.out _ _ ?_ (fun hHeld => ?_)
    · exact ⟨hV1.cell 0, hO1.cell 0, hO1.cell 1, hO1.cell 2, hO1.cell 3⟩
    clear hK K
    try simp only [Act.put, List.setIfInBounds_toArray, List.set_cons_zero, List.set_cons_succ]
    refine wpAnyH_ready (rs := [4, 8]) (by kernel_rfl) (by simp) ?_
    refine (AllReadyH.cons (o := { dst := some 16, op := Op.load 31 (Operand.tmp 15), type := 31, pos := _, after := #[{ on := 3, ground := Ground.data }], guard := none }) rfl (fun K hK => ?_) (AllReadyH.cons (o := { dst := some 20, op := Op.buildSlice 31 1 #[(0, Operand.tmp 19)], type := 31, pos := _, after := #[{ on := 7, ground := Ground.data }], guard := none }) rfl (fun K hK => ?_) AllReadyH.nil))
    · have c4 : w1_o.cell? ⟨g, 4, none⟩ = some (.slice (some ⟨g1, 0, none⟩) l.length cap) := hH1.cell 4
      go_simp
      clear c4
      refine hK.out _ _ ?_ (fun hHeld => ?_)
      · exact ⟨hV1.cell 0, hO1.cell 0, hO1.cell 1, hO1.cell 2, hO1.cell 3⟩
      clear hK K
      try simp only [Act.put, List.setIfInBounds_toArray, List.set_cons_zero, List.set_cons_succ]
      refine wpAnyH_ready (rs := [8]) (by kernel_rfl) (by simp) ?_
      refine (AllReadyH.cons (o := { dst := some 20, op := Op.buildSlice 31 1 #[(0, Operand.tmp 19)], type := 31, pos := _, after := #[{ on := 7, ground := Ground.data }], guard := none }) rfl (fun K hK => ?_) AllReadyH.nil)
      go_simp
      have hh := (G.refl w1_o none).alloc (.cells #[.string s, .int .i64 ro.1, .string ro.2.1, .int .i64 ro.2.2.1, .int .i64 ro.2.2.2, .int .i64 (-1), .string ⟨#[]⟩, .int .i64 0, .int .i64 0] 79)
      have hH2 := hH1.quiet hh
      have hV2 := hV1.quiet hh
      have hO2 := hO1.quiet hh
      have hW2 := OwnX.quiet hW1 hh
      have hS2 := hS1.trans (GS.of_G hh)
      have hz2 := Nat.le_trans hz1 hh.size
      have hN := Bk.new w1_o 79 (lgC (s, ro, noIn))
      clear hh hH1 hV1 hO1 hW1 hS1 hz1
      refine hK.out _ _ ?_ (fun hHeld => ?_)
      · exact ⟨hV2.cell 0, hO2.cell 0, hO2.cell 1, hO2.cell 2, hO2.cell 3⟩
      clear hK K
      try simp only [Act.put, List.setIfInBounds_toArray, List.set_cons_zero, List.set_cons_succ]
      refine wpAnyH_ready (rs := [9]) (by kernel_rfl) (by simp) ?_
      refine (AllReadyH.cons (o := { dst := some 21, op := Op.call { callee := Callee.builtin Builtin.append, args := #[Operand.tmp 16, Operand.tmp 20], argTypes := #[31, 31] }, type := 31, pos := _, after := #[{ on := 4, ground := Ground.data }, { on := 8, ground := Ground.data }, { on := 7, ground := Ground.chain }], guard := none }) rfl (fun K hK => ?_) AllReadyH.nil)
      refine st_wp rfl (wp_append_x lg_rowOk _ _ rfl base (.slice (some ⟨g1, 0, none⟩) l.length cap) (inL l r) rfl hW2 (w1_o.heap.size) (s, ro, noIn) rfl hN (by rw [inL_len]; omega) hz2 ?_)
      intro v8 w3_a hW3 hgrow
      obtain ⟨a8, cap8, rfl, -, -⟩ := RdR.form (Rd.of_owns hW3)
      have hH3 := hH2.grown hgrow (fun e => hne (Option.some.inj e))
      have hV3 := hV2.grown hgrow (fun e => hnv (Option.some.inj e))
      have hO3 := hO2.grown hgrow (fun e => hno (Option.some.inj e))
      have hS3 := hS2.trans (GS.of_Gs hgrow (.inr rfl))
      have hz3 := Nat.le_trans hz2 hgrow.size
      clear hgrow hN hH2 hV2 hO2 hW2 hS2 hz2
      refine hK.out _ _ ?_ (fun hHeld => ?_)
      · exact ⟨hV3.cell 0, hO3.cell 0, hO3.cell 1, hO3.cell 2, hO3.cell 3⟩
      clear hK K
      try simp only [Act.put, List.setIfInBounds_toArray, List.set_cons_zero, List.set_cons_succ]
      refine wpAnyH_take (i := 10) (oi := { dst := some 22, op := Op.nilCheck (Operand.tmp 12), type := 0, pos := _, after := #[{ on := 0, ground := Ground.data }, { on := 0, ground := Ground.phase }, { on := 1, ground := Ground.phase }, { on := 2, ground := Ground.phase }, { on := 3, ground := Ground.phase }, { on := 4, ground := Ground.phase }, { on := 5, ground := Ground.phase }, { on := 6, ground := Ground.phase }, { on := 7, ground := Ground.phase }, { on := 8, ground := Ground.phase }, { on := 9, ground := Ground.phase }], guard := none }) (v := ?_) rfl (by kernel_rfl) (by kernel_rfl) (by kernel_rfl) (fun _ _ _ h => h) (Or.inl ⟨by rfl, ?_⟩) (by assumption) ?_
      rotate_left
      · (intro w hSw; obtain ⟨s0, s1, s2, s3, s4⟩ := hSw; (go_simp <;> with_reducible rfl))
      try simp only [Act.put, List.setIfInBounds_toArray, List.set_cons_zero, List.set_cons_succ]
      refine wpAnyH_take (i := 11) (oi := { dst := some 23, op := Op.fieldAddr 33 (Operand.tmp 22) 3, type := 0, pos := _, after := #[{ on := 10, ground := Ground.data }, { on := 0, ground := Ground.phase }, { on := 1, ground := Ground.phase }, { on := 2, ground := Ground.phase }, { on := 3, ground := Ground.phase }, { on := 4, ground := Ground.phase }, { on := 5, ground := Ground.phase }, { on := 6, ground := Ground.phase }, { on := 7, ground := Ground.phase }, { on := 8, ground := Ground.phase }, { on := 9, ground := Ground.phase }], guard := none }) (v := ?_) rfl (by kernel_rfl) (by kernel_rfl) (by kernel_rfl) (fun _ _ _ h => h) (Or.inl ⟨by rfl, ?_⟩) (by assumption) ?_
      rotate_left
      · (intro w hSw; obtain ⟨s0, s1, s2, s3, s4⟩ := hSw; (go_simp <;> with_reducible rfl))
      try simp only [Act.put, List.setIfInBounds_toArray, List.set_cons_zero, List.set_cons_succ]
      refine wpAnyH_ready (rs := [12]) (by kernel_rfl) (by simp) ?_
      refine (AllReadyH.cons (o := { dst := none, op := Op.store 31 (Operand.tmp 23) (Operand.tmp 21), type := 0, pos := _, after := #[{ on := 11, ground := Ground.data }, { on := 9, ground := Ground.data }, { on := 9, ground := Ground.chain }, { on := 0, ground := Ground.phase }, { on := 1, ground := Ground.phase }, { on := 2, ground := Ground.phase }, { on := 3, ground := Ground.phase }, { on := 4, ground := Ground.phase }, { on := 5, ground := Ground.phase }, { on := 6, ground := Ground.phase }, { on := 7, ground := Ground.phase }, { on := 8, ground := Ground.phase }, { on := 9, ground := Ground.phase }], guard := none }) rfl (fun K hK => ?_) AllReadyH.nil)
      have f8 := hH3.free 4
      have d8 : w3_a.cell? ⟨g, 4, none⟩ = some (.slice (some ⟨g1, 0, none⟩) l.length cap) := hH3.cell 4
      generalize hLL : (inL l r ++ [(s, ro, noIn)]).length = LL at hW3 ⊢
      go_simp
      have hH4 := hH3.set 4 (.slice a8 LL cap8)
      have hV4 := hV3.far (p := ⟨g, 4, none⟩) (show bv ≠ g by omega) (.slice a8 LL cap8)
      have hO4 := hO3.far (p := ⟨g, 4, none⟩) (show bo ≠ g by omega) (.slice a8 LL cap8)
      have hW4 := World.ownsRow.kept hW3 (grownBy_setCell_row w3_a ⟨g, 4, none⟩ (.slice a8 LL cap8)) (.inr fun e => by have := (World.ownsRow.lt hW3 g e).1; omega)
      have hS4 := hS3.trans (GS.of_Gs ((G.refl w3_a (some g)).setCell (p := ⟨g, 4, none⟩) (.inr rfl) (.slice a8 LL cap8)) (.inl rfl))
      clear d8 f8
      refine hK.out _ _ ?_ (fun hHeld => ?_)
      · exact ⟨hV4.cell 0, hO4.cell 0, hO4.cell 1, hO4.cell 2, hO4.cell 3⟩
      clear hK K
      try simp only [Act.put, List.setIfInBounds_toArray, List.set_cons_zero, List.set_cons_succ]
      refine wpAnyH_done (by kernel_rfl) ?_ _
      go_wp2_with fail
      (try simp only [Exit.inBlock, Exit.then])
      refine bodyPost_end (results_none rfl _ _ _) rfl ?_
      subst hLL
      exact ⟨rfl, _, hH4, Rd.of_owns hW4, fun k e => (World.ownsRow.lt hW4 k e).1, hS4⟩
    · go_simp
      have hh := (G.refl w1_o none).alloc (.cells #[.string s, .int .i64 ro.1, .string ro.2.1, .int .i64 ro.2.2.1, .int .i64 ro.2.2.2, .int .i64 (-1), .string ⟨#[]⟩, .int .i64 0, .int .i64 0] 79)
      have hH2 := hH1.quiet hh
      have hV2 := hV1.quiet hh
      have hO2 := hO1.quiet hh
      have hW2 := OwnX.quiet hW1 hh
      have hS2 := hS1.trans (GS.of_G hh)
      have hz2 := Nat.le_trans hz1 hh.size
      have hN := Bk.new w1_o 79 (lgC (s, ro, noIn))
      clear hh hH1 hV1 hO1 hW1 hS1 hz1
      refine hK.out _ _ ?_ (fun hHeld => ?_)
      · exact ⟨hV2.cell 0, hO2.cell 0, hO2.cell 1, hO2.cell 2, hO2.cell 3⟩
      clear hK K
      try simp only [Act.put, List.setIfInBounds_toArray, List.set_cons_zero, List.set_cons_succ]
      refine wpAnyH_ready (rs := [4]) (by kernel_rfl) (by simp) ?_
      refine (AllReadyH.cons (o := { dst := some 16, op := Op.load 31 (Operand.tmp 15), type := 31, pos := _, after := #[{ on := 3, ground := Ground.data }], guard := none }) rfl (fun K hK => ?_) AllReadyH.nil)
      have c4 : (w1_o.alloc (.cells #[.string s, .int .i64 ro.1, .string ro.2.1, .int .i64 ro.2.2.1, .int .i64 ro.2.2.2, .int .i64 (-1), .string ⟨#[]⟩, .int .i64 0, .int .i64 0] 79)).cell? ⟨g, 4, none⟩ = some (.slice (some ⟨g1, 0, none⟩) l.length cap) := hH2.cell 4
      go_simp
      clear c4
      refine hK.out _ _ ?_ (fun hHeld => ?_)
      · exact ⟨hV2.cell 0, hO2.cell 0, hO2.cell 1, hO2.cell 2, hO2.cell 3⟩
      clear hK K
      try simp only [Act.put, List.setIfInBounds_toArray, List.set_cons_zero, List.set_cons_succ]
      refine wpAnyH_ready (rs := [9]) (by kernel_rfl) (by simp) ?_
      refine (AllReadyH.cons (o := { dst := some 21, op := Op.call { callee := Callee.builtin Builtin.append, args := #[Operand.tmp 16, Operand.tmp 20], argTypes := #[31, 31] }, type := 31, pos := _, after := #[{ on := 4, ground := Ground.data }, { on := 8, ground := Ground.data }, { on := 7, ground := Ground.chain }], guard := none }) rfl (fun K hK => ?_) AllReadyH.nil)
      refine st_wp rfl (wp_append_x lg_rowOk _ _ rfl base (.slice (some ⟨g1, 0, none⟩) l.length cap) (inL l r) rfl hW2 (w1_o.heap.size) (s, ro, noIn) rfl hN (by rw [inL_len]; omega) hz2 ?_)
      intro v8 w3_a hW3 hgrow
      obtain ⟨a8, cap8, rfl, -, -⟩ := RdR.form (Rd.of_owns hW3)
      have hH3 := hH2.grown hgrow (fun e => hne (Option.some.inj e))
      have hV3 := hV2.grown hgrow (fun e => hnv (Option.some.inj e))
      have hO3 := hO2.grown hgrow (fun e => hno (Option.some.inj e))
      have hS3 := hS2.trans (GS.of_Gs hgrow (.inr rfl))
      have hz3 := Nat.le_trans hz2 hgrow.size
      clear hgrow hN hH2 hV2 hO2 hW2 hS2 hz2
      refine hK.out _ _ ?_ (fun hHeld => ?_)
      · exact ⟨hV3.cell 0, hO3.cell 0, hO3.cell 1, hO3.cell 2, hO3.cell 3⟩
      clear hK K
      try simp only [Act.put, List.setIfInBounds_toArray, List.set_cons_zero, List.set_cons_succ]
      refine wpAnyH_take (i := 10) (oi := { dst := some 22, op := Op.nilCheck (Operand.tmp 12), type := 0, pos := _, after := #[{ on := 0, ground := Ground.data }, { on := 0, ground := Ground.phase }, { on := 1, ground := Ground.phase }, { on := 2, ground := Ground.phase }, { on := 3, ground := Ground.phase }, { on := 4, ground := Ground.phase }, { on := 5, ground := Ground.phase }, { on := 6, ground := Ground.phase }, { on := 7, ground := Ground.phase }, { on := 8, ground := Ground.phase }, { on := 9, ground := Ground.phase }], guard := none }) (v := ?_) rfl (by kernel_rfl) (by kernel_rfl) (by kernel_rfl) (fun _ _ _ h => h) (Or.inl ⟨by rfl, ?_⟩) (by assumption) ?_
      rotate_left
      · (intro w hSw; obtain ⟨s0, s1, s2, s3, s4⟩ := hSw; (go_simp <;> with_reducible rfl))
      try simp only [Act.put, List.setIfInBounds_toArray, List.set_cons_zero, List.set_cons_succ]
      refine wpAnyH_take (i := 11) (oi := { dst := some 23, op := Op.fieldAddr 33 (Operand.tmp 22) 3, type := 0, pos := _, after := #[{ on := 10, ground := Ground.data }, { on := 0, ground := Ground.phase }, { on := 1, ground := Ground.phase }, { on := 2, ground := Ground.phase }, { on := 3, ground := Ground.phase }, { on := 4, ground := Ground.phase }, { on := 5, ground := Ground.phase }, { on := 6, ground := Ground.phase }, { on := 7, ground := Ground.phase }, { on := 8, ground := Ground.phase }, { on := 9, ground := Ground.phase }], guard := none }) (v := ?_) rfl (by kernel_rfl) (by kernel_rfl) (by kernel_rfl) (fun _ _ _ h => h) (Or.inl ⟨by rfl, ?_⟩) (by assumption) ?_
      rotate_left
      · (intro w hSw; obtain ⟨s0, s1, s2, s3, s4⟩ := hSw; (go_simp <;> with_reducible rfl))
      try simp only [Act.put, List.setIfInBounds_toArray, List.set_cons_zero, List.set_cons_succ]
      refine wpAnyH_ready (rs := [12]) (by kernel_rfl) (by simp) ?_
      refine (AllReadyH.cons (o := { dst := none, op := Op.store 31 (Operand.tmp 23) (Operand.tmp 21), type := 0, pos := _, after := #[{ on := 11, ground := Ground.data }, { on := 9, ground := Ground.data }, { on := 9, ground := Ground.chain }, { on := 0, ground := Ground.phase }, { on := 1, ground := Ground.phase }, { on := 2, ground := Ground.phase }, { on := 3, ground := Ground.phase }, { on := 4, ground := Ground.phase }, { on := 5, ground := Ground.phase }, { on := 6, ground := Ground.phase }, { on := 7, ground := Ground.phase }, { on := 8, ground := Ground.phase }, { on := 9, ground := Ground.phase }], guard := none }) rfl (fun K hK => ?_) AllReadyH.nil)
      have f8 := hH3.free 4
      have d8 : w3_a.cell? ⟨g, 4, none⟩ = some (.slice (some ⟨g1, 0, none⟩) l.length cap) := hH3.cell 4
      generalize hLL : (inL l r ++ [(s, ro, noIn)]).length = LL at hW3 ⊢
      go_simp
      have hH4 := hH3.set 4 (.slice a8 LL cap8)
      have hV4 := hV3.far (p := ⟨g, 4, none⟩) (show bv ≠ g by omega) (.slice a8 LL cap8)
      have hO4 := hO3.far (p := ⟨g, 4, none⟩) (show bo ≠ g by omega) (.slice a8 LL cap8)
      have hW4 := World.ownsRow.kept hW3 (grownBy_setCell_row w3_a ⟨g, 4, none⟩ (.slice a8 LL cap8)) (.inr fun e => by have := (World.ownsRow.lt hW3 g e).1; omega)
      have hS4 := hS3.trans (GS.of_Gs ((G.refl w3_a (some g)).setCell (p := ⟨g, 4, none⟩) (.inr rfl) (.slice a8 LL cap8)) (.inl rfl))
      clear d8 f8
      refine hK.out _ _ ?_ (fun hHeld => ?_)
      · exact ⟨hV4.cell 0, hO4.cell 0, hO4.cell 1, hO4.cell 2, hO4.cell 3⟩
      clear hK K
      try simp only [Act.put, List.setIfInBounds_toArray, List.set_cons_zero, List.set_cons_succ]
      refine wpAnyH_done (by kernel_rfl) ?_ _
      go_wp2_with fail
      (try simp only [Exit.inBlock, Exit.then])
      refine bodyPost_end (results_none rfl _ _ _) rfl ?_
      subst hLL
      exact ⟨rfl, _, hH4, Rd.of_owns hW4, fun k e => (World.ownsRow.lt hW4 k e).1, hS4⟩
set_option maxRecDepth 100000 in
set_option maxHeartbeats 8000000 in
theorem exchangeR1_c (h : Hh) (l : List Lg) (r : Rg) (s : ByteArray) (ro : Rg) (b bv bo : Nat) (A : World) (hB : Bk A b 37 (rgC r)) (hBv : Bk A bv 9 #[.string s]) (hBo : Bk A bo 37 (rgC ro)) (h0 : 0 < l.length) (hn : l.length ≤ 1000) :
    ChFn 97 #[.pointer (some ⟨b, 0, none⟩), .pointer (some ⟨bv, 0, none⟩), .pointer (some ⟨bo, 0, none⟩)] h l h (inL l r ++ [(s, ro, noIn)]) A := by
  intro w1 g base v1 hG hown hH hg hgb hbs
  have hb := hB.lt
  have hbv := hBv.lt
  have hbo := hBo.lt
  have hB1 := hB.quiet hG
  have hV1 := hBv.quiet hG
  have hO1 := hBo.quiet hG
  obtain ⟨g1, cap, cur, rfl, -, hg1⟩ := OwnX.form hown h0
  obtain ⟨p, hp⟩ : ∃ p, l[l.length - 1]? = some p := ⟨_, List.getElem?_eq_getElem (by omega)⟩
  have hne : g ≠ g1 := by omega
  have hnb : b ≠ g1 := by omega
  have hnv : bv ≠ g1 := by omega
  have hno : bo ≠ g1 := by omega
  clear hB hBv hBo
  simp only [hiC, rgC] at hH hB1 hO1 ⊢
  go_enter Tryd.func97, Tryd.ntmps97
  go_upto_region 0 with fail
  have hH2 := hH.quiet ((G.refl w1 none).drew)
  have hB2 := hB1.quiet ((G.refl w1 none).drew)
  have hV2 := hV1.quiet ((G.refl w1 none).drew)
  have hO2 := hO1.quiet ((G.refl w1 none).drew)
  have hG02 : G w1 w1.drew none := (G.refl w1 none).drew
  have HTH := Lib.hid (there_lg (OwnX.drew hown) hp)
  have hQ0 := Lib.hid (own_inL (OwnX.drew hown) hp r)
  obtain ⟨m, hm⟩ : ∃ m, l.length - 1 = m := ⟨_, rfl⟩
  have hw : IntKind.i64.wrap ((l.length : Int) - 1) = (m : Int) := by rw [IntKind.wrap_i64]; omega
  have hlt : m < l.length := by omega
  rw [hm] at HTH hQ0
  clear hm hp
  refine wp_region_held_drew (S := (fun w' => w'.cell? ⟨g, 0, none⟩ = some (.string h.1) ∧ w'.cell? ⟨g, 1, none⟩ = some (.string h.2.1) ∧ w'.cell? ⟨g, 2, none⟩ = some (.int .i64 h.2.2.1) ∧ w'.cell? ⟨g, 3, none⟩ = some (.int .i64 h.2.2.2) ∧ w'.cell? ⟨g, 4, none⟩ = some (.slice (some ⟨g1, 0, none⟩) l.length cap) ∧ w'.cell? ⟨b, 0, none⟩ = some (.int .i64 r.1) ∧ w'.cell? ⟨b, 1, none⟩ = some (.string r.2.1) ∧ w'.cell? ⟨b, 2, none⟩ = some (.int .i64 r.2.2.1) ∧ w'.cell? ⟨b, 3, none⟩ = some (.int .i64 r.2.2.2))) (by kernel_rfl) ?_ (fun hHeld => ?_)
  · exact ⟨hH2.cell 0, hH2.cell 1, hH2.cell 2, hH2.cell 3, hH2.cell 4, hB2.cell 0, hB2.cell 1, hB2.cell 2, hB2.cell 3⟩
  refine wpAnyH_take (i := 0) (oi := { dst := some 5, op := Op.move (Operand.tmp 0), type := 134, pos := _, after := #[], guard := none }) (v := ?_) rfl (by kernel_rfl) (by kernel_rfl) (by kernel_rfl) (fun _ _ _ h => h) (Or.inl ⟨by rfl, ?_⟩) (by assumption) ?_
  rotate_left
  · (intro w hSw; obtain ⟨s0, s1, s2, s3, s4, s5, s6, s7, s8⟩ := hSw; (go_simp <;> with_reducible rfl))
  try simp only [Act.put, List.setIfInBounds_toArray, List.set_cons_zero, List.set_cons_succ]
  refine wpAnyH_take (i := 1) (oi := { dst := some 6, op := Op.nilCheck (Operand.tmp 5), type := 0, pos := _, after := #[{ on := 0, ground := Ground.data }], guard := none }) (v := ?_) rfl (by kernel_rfl) (by kernel_rfl) (by kernel_rfl) (fun _ _ _ h => h) (Or.inl ⟨by rfl, ?_⟩) (by assumption) ?_
  rotate_left
  · (intro w hSw; obtain ⟨s0, s1, s2, s3, s4, s5, s6, s7, s8⟩ := hSw; (go_simp <;> with_reducible rfl))
  try simp only [Act.put, List.setIfInBounds_toArray, List.set_cons_zero, List.set_cons_succ]
  refine wpAnyH_take (i := 2) (oi := { dst := some 7, op := Op.fieldAddr 33 (Operand.tmp 6) 3, type := 0, pos := _, after := #[{ on := 1, ground := Ground.data }], guard := none }) (v := ?_) rfl (by kernel_rfl) (by kernel_rfl) (by kernel_rfl) (fun _ _ _ h => h) (Or.inl ⟨by rfl, ?_⟩) (by assumption) ?_
  rotate_left
  · (intro w hSw; obtain ⟨s0, s1, s2, s3, s4, s5, s6, s7, s8⟩ := hSw; (go_simp <;> with_reducible rfl))
  try simp only [Act.put, List.setIfInBounds_toArray, List.set_cons_zero, List.set_cons_succ]
  refine wpAnyH_take (i := 3) (oi := { dst := some 8, op := Op.load 31 (Operand.tmp 7), type := 31, pos := _, after := #[{ on := 2, ground := Ground.data }], guard := none }) (v := ?_) rfl (by kernel_rfl) (by kernel_rfl) (by kernel_rfl) (fun _ _ _ h => h) (Or.inl ⟨by rfl, ?_⟩) (by assumption) ?_
  rotate_left
  · (intro w hSw; obtain ⟨s0, s1, s2, s3, s4, s5, s6, s7, s8⟩ := hSw; (go_simp <;> with_reducible rfl))
  try simp only [Act.put, List.setIfInBounds_toArray, List.set_cons_zero, List.set_cons_succ]
  refine wpAnyH_take (i := 4) (oi := { dst := some 9, op := Op.move (Operand.tmp 0), type := 134, pos := _, after := #[], guard := none }) (v := ?_) rfl (by kernel_rfl) (by kernel_rfl) (by kernel_rfl) (fun _ _ _ h => h) (Or.inl ⟨by rfl, ?_⟩) (by assumption) ?_
  rotate_left
  · (intro w hSw; obtain ⟨s0, s1, s2, s3, s4, s5, s6, s7, s8⟩ := hSw; (go_simp <;> with_reducible rfl))
  try simp only [Act.put, List.setIfInBounds_toArray, List.set_cons_zero, List.set_cons_succ]
  refine wpAnyH_take (i := 5) (oi := { dst := some 10, op := Op.nilCheck (Operand.tmp 9), type := 0, pos := _, after := #[{ on := 4, ground := Ground.data }], guard := none }) (v := ?_) rfl (by kernel_rfl) (by kernel_rfl) (by kernel_rfl) (fun _ _ _ h => h) (Or.inl ⟨by rfl, ?_⟩) (by assumption) ?_
  rotate_left
  · (intro w hSw; obtain ⟨s0, s1, s2, s3, s4, s5, s6, s7, s8⟩ := hSw; (go_simp <;> with_reducible rfl))
  try simp only [Act.put, List.setIfInBounds_toArray, List.set_cons_zero, List.set_cons_succ]
  refine wpAnyH_take (i := 6) (oi := { dst := some 11, op := Op.fieldAddr 33 (Operand.tmp 10) 3, type := 0, pos := _, after := #[{ on := 5, ground := Ground.data }], guard := none }) (v := ?_) rfl (by kernel_rfl) (by kernel_rfl) (by kernel_rfl) (fun _ _ _ h => h) (Or.inl ⟨by rfl, ?_⟩) (by assumption) ?_
  rotate_left
  · (intro w hSw; obtain ⟨s0, s1, s2, s3, s4, s5, s6, s7, s8⟩ := hSw; (go_simp <;> with_reducible rfl))
  try simp only [Act.put, List.setIfInBounds_toArray, List.set_cons_zero, List.set_cons_succ]
  refine wpAnyH_take (i := 7) (oi := { dst := some 12, op := Op.load 31 (Operand.tmp 11), type := 31, pos := _, after := #[{ on := 6, ground := Ground.data }], guard := none }) (v := ?_) rfl (by kernel_rfl) (by kernel_rfl) (by kernel_rfl) (fun _ _ _ h => h) (Or.inl ⟨by rfl, ?_⟩) (by assumption) ?_
  rotate_left
  · (intro w hSw; obtain ⟨s0, s1, s2, s3, s4, s5, s6, s7, s8⟩ := hSw; (go_simp <;> with_reducible rfl))
  try simp only [Act.put, List.setIfInBounds_toArray, List.set_cons_zero, List.set_cons_succ]
  refine wpAnyH_take (i := 8) (oi := { dst := some 13, op := Op.call { callee := Callee.builtin Builtin.len, args := #[Operand.tmp 12], argTypes := #[31] }, type := 3, pos := _, after := #[{ on := 7, ground := Ground.data }], guard := none }) (v := ?_) rfl (by kernel_rfl) (by kernel_rfl) (by kernel_rfl) (fun _ _ _ h => h) (Or.inl ⟨by rfl, ?_⟩) (by assumption) ?_
  rotate_left
  · (intro w hSw; obtain ⟨s0, s1, s2, s3, s4, s5, s6, s7, s8⟩ := hSw; (go_simp <;> with_reducible rfl))
  try simp only [Act.put, List.setIfInBounds_toArray, List.set_cons_zero, List.set_cons_succ]
  refine wpAnyH_take (i := 9) (oi := { dst := some 14, op := Op.binOp BinOp.sub 3 (Operand.tmp 13) (Operand.const (Value.int IntKind.i64 1)) 3, type := 3, pos := _, after := #[{ on := 8, ground := Ground.data }], guard := none }) (v := ?_) rfl (by kernel_rfl) (by kernel_rfl) (by kernel_rfl) (fun _ _ _ h => h) (Or.inl ⟨by rfl, ?_⟩) (by assumption) ?_
  rotate_left
  · (intro w hSw; obtain ⟨s0, s1, s2, s3, s4, s5, s6, s7, s8⟩ := hSw; (go_simp <;> with_reducible rfl))
  try simp only [Act.put, List.setIfInBounds_toArray, List.set_cons_zero, List.set_cons_succ]
  refine wpAnyH_take (i := 10) (oi := { dst := some 15, op := Op.load 37 (Operand.tmp 1), type := 37, pos := _, after := #[], guard := none }) (v := ?_) rfl (by kernel_rfl) (by kernel_rfl) (by kernel_rfl) (fun _ _ _ h => h) (Or.inl ⟨by rfl, ?_⟩) (by assumption) ?_
  rotate_left
  · (intro w hSw; obtain ⟨s0, s1, s2, s3, s4, s5, s6, s7, s8⟩ := hSw; (go_simp <;> with_reducible rfl))
  try simp only [Act.put, List.setIfInBounds_toArray, List.set_cons_zero, List.set_cons_succ]
  refine wpAnyH_take (i := 11) (oi := { dst := some 16, op := Op.indexAddr 31 (Operand.tmp 8) (Operand.tmp 14), type := 0, pos := _, after := #[{ on := 3, ground := Ground.data }, { on := 9, ground := Ground.data }, { on := 0, ground := Ground.phase }, { on := 1, ground := Ground.phase }, { on := 2, ground := Ground.phase }, { on := 3, ground := Ground.phase }, { on := 4, ground := Ground.phase }, { on := 5, ground := Ground.phase }, { on := 6, ground := Ground.phase }, { on := 7, ground := Ground.phase }, { on := 8, ground := Ground.phase }, { on := 9, ground := Ground.phase }, { on := 10, ground := Ground.phase }], guard := none }) (v := ?_) rfl (by kernel_rfl) (by kernel_rfl) (by kernel_rfl) (fun _ _ _ h => h) (Or.inl ⟨by rfl, ?_⟩) (by assumption) ?_
  rotate_left
  · (intro w hSw; obtain ⟨s0, s1, s2, s3, s4, s5, s6, s7, s8⟩ := hSw; (go_simp <;> with_reducible rfl))
  try simp only [Act.put, List.setIfInBounds_toArray, List.set_cons_zero, List.set_cons_succ]
  refine wpAnyH_take (i := 12) (oi := { dst := some 17, op := Op.fieldAddr 79 (Operand.tmp 16) 2, type := 0, pos := _, after := #[{ on := 11, ground := Ground.data }, { on := 0, ground := Ground.phase }, { on := 1, ground := Ground.phase }, { on := 2, ground := Ground.phase }, { on := 3, ground := Ground.phase }, { on := 4, ground := Ground.phase }, { on := 5, ground := Ground.phase }, { on := 6, ground := Ground.phase }, { on := 7, ground := Ground.phase }, { on := 8, ground := Ground.phase }, { on := 9, ground := Ground.phase }, { on := 10, ground := Ground.phase }], guard := none }) (v := ?_) rfl (by kernel_rfl) (by kernel_rfl) (by kernel_rfl) (fun _ _ _ h => h) (Or.inl ⟨by rfl, ?_⟩) (by assumption) ?_
  rotate_left
  · (intro w hSw; obtain ⟨s0, s1, s2, s3, s4, s5, s6, s7, s8⟩ := hSw; (go_simp <;> with_reducible rfl))
  try simp only [Act.put, List.setIfInBounds_toArray, List.set_cons_zero, List.set_cons_succ]
  refine wpAnyH_ready (rs := [13]) (by kernel_rfl) (by simp) ?_
  refine AllReadyH.cons (o := { dst := none, op := Op.store 37 (Operand.tmp 17) (Operand.tmp 15), type := 0, pos := _, after := #[{ on := 12, ground := Ground.data }, { on := 10, ground := Ground.data }, { on := 0, ground := Ground.phase }, { on := 1, ground := Ground.phase }, { on := 2, ground := Ground.phase }, { on := 3, ground := Ground.phase }, { on := 4, ground := Ground.phase }, { on := 5, ground := Ground.phase }, { on := 6, ground := Ground.phase }, { on := 7, ground := Ground.phase }, { on := 8, ground := Ground.phase }, { on := 9, ground := Ground.phase }, { on := 10, ground := Ground.phase }], guard := none }) rfl (fun K hK => ?_) AllReadyH.nil
  refine st_wp rfl (wp_store_mid 37 _ _ rfl g1 (m * 9 + 5) #[.int .i64 r.1, .string r.2.1, .int .i64 r.2.2.1, .int .i64 r.2.2.2] rfl rfl HTH.out (rg_info r) (rg_one r) ?_)
  have hQ := hQ0.out
  have hGs := G.setCells g1 (#[.int .i64 r.1, .string r.2.1, .int .i64 r.2.2.1, .int .i64 r.2.2.2] : Array Value).toList (m * 9 + 5) w1.drew
  have hH4 := hH2.grown hGs (fun e => hne (Option.some.inj e))
  have hB4 := hB2.grown hGs (fun e => hnb (Option.some.inj e))
  have hV4 := hV2.grown hGs (fun e => hnv (Option.some.inj e))
  have hO4 := hO2.grown hGs (fun e => hno (Option.some.inj e))
  refine hK.out _ _ ?_ (fun hHeld => ?_)
  · exact ⟨hH4.cell 0, hH4.cell 1, hH4.cell 2, hH4.cell 3, hH4.cell 4, hB4.cell 0, hB4.cell 1, hB4.cell 2, hB4.cell 3⟩
  clear hK K
  try simp only [Act.put, List.setIfInBounds_toArray, List.set_cons_zero, List.set_cons_succ]
  refine wpAnyH_done (by kernel_rfl) ?_ _
  have hS4 : GS (S2 g (.slice (some ⟨g1, 0, none⟩) l.length cap)) w1 (w1.drew.setCells g1 (m * 9 + 5) (#[.int .i64 r.1, .string r.2.1, .int .i64 r.2.2.1, .int .i64 r.2.2.2] : Array Value).toList) := (GS.of_G hG02).trans (GS.of_Gs hGs (.inr rfl))
  have hz4 : base ≤ (w1.drew.setCells g1 (m * 9 + 5) (#[.int .i64 r.1, .string r.2.1, .int .i64 r.2.2.1, .int .i64 r.2.2.2] : Array Value).toList).heap.size := Nat.le_trans hbs hS4.size
  have hW4 := hQ
  clear hGs hQ hB4
  go_upto_region 1 with fail
  generalize w1.drew.setCells g1 (m * 9 + 5) (#[.int .i64 r.1, .string r.2.1, .int .i64 r.2.2.1, .int .i64 r.2.2.2] : Array Value).toList = w4 at hH4 hV4 hO4 hW4 hS4 hz4 ⊢
  have hq := (G.refl w4 none).drew
  have hH0 := hH4.quiet hq
  have hV0 := hV4.quiet hq
  have hO0 := hO4.quiet hq
  have hW0 := OwnX.quiet hW4 hq
  have hS0 := hS4.trans (GS.of_G hq)
  have hz0 := Nat.le_trans hz4 hq.size
  clear hq hH4 hV4 hO4 hW4 hS4 hz4
  refine wp_region_held_drew (S := (fun w' => w'.cell? ⟨bv, 0, none⟩ = some (.string s) ∧ w'.cell? ⟨bo, 0, none⟩ = some (.int .i64 ro.1) ∧ w'.cell? ⟨bo, 1, none⟩ = some (.string ro.2.1) ∧ w'.cell? ⟨bo, 2, none⟩ = some (.int .i64 ro.2.2.1) ∧ w'.cell? ⟨bo, 3, none⟩ = some (.int .i64 ro.2.2.2))) (by kernel_rfl) ?_ (fun hHeld => ?_)
  · exact ⟨hV0.cell 0, hO0.cell 0, hO0.cell 1, hO0.cell 2, hO0.cell 3⟩
  refine wpAnyH_take (i := 0) (oi := { dst := some 18, op := Op.move (Operand.tmp 0), type := 134, pos := _, after := #[], guard := none }) (v := ?_) rfl (by kernel_rfl) (by kernel_rfl) (by kernel_rfl) (fun _ _ _ h => h) (Or.inl ⟨by rfl, ?_⟩) (by assumption) ?_
  rotate_left
  · (intro w hSw; obtain ⟨s0, s1, s2, s3, s4⟩ := hSw; (go_simp <;> with_reducible rfl))
  try simp only [Act.put, List.setIfInBounds_toArray, List.set_cons_zero, List.set_cons_succ]
  refine wpAnyH_take (i := 1) (oi := { dst := some 19, op := Op.move (Operand.tmp 0), type := 134, pos := _, after := #[], guard := none }) (v := ?_) rfl (by kernel_rfl) (by kernel_rfl) (by kernel_rfl) (fun _ _ _ h => h) (Or.inl ⟨by rfl, ?_⟩) (by assumption) ?_
  rotate_left
  · (intro w hSw; obtain ⟨s0, s1, s2, s3, s4⟩ := hSw; (go_simp <;> with_reducible rfl))
  try simp only [Act.put, List.setIfInBounds_toArray, List.set_cons_zero, List.set_cons_succ]
  refine wpAnyH_take (i := 2) (oi := { dst := some 20, op := Op.nilCheck (Operand.tmp 19), type := 0, pos := _, after := #[{ on := 1, ground := Ground.data }], guard := none }) (v := ?_) rfl (by kernel_rfl) (by kernel_rfl) (by kernel_rfl) (fun _ _ _ h => h) (Or.inl ⟨by rfl, ?_⟩) (by assumption) ?_
  rotate_left
  · (intro w hSw; obtain ⟨s0, s1, s2, s3, s4⟩ := hSw; (go_simp <;> with_reducible rfl))
  try simp only [Act.put, List.setIfInBounds_toArray, List.set_cons_zero, List.set_cons_succ]
  refine wpAnyH_take (i := 3) (oi := { dst := some 21, op := Op.fieldAddr 33 (Operand.tmp 20) 3, type := 0, pos := _, after := #[{ on := 2, ground := Ground.data }], guard := none }) (v := ?_) rfl (by kernel_rfl) (by kernel_rfl) (by kernel_rfl) (fun _ _ _ h => h) (Or.inl ⟨by rfl, ?_⟩) (by assumption) ?_
  rotate_left
  · (intro w hSw; obtain ⟨s0, s1, s2, s3, s4⟩ := hSw; (go_simp <;> with_reducible rfl))
  try simp only [Act.put, List.setIfInBounds_toArray, List.set_cons_zero, List.set_cons_succ]
  refine wpAnyH_take (i := 5) (oi := { dst := some 23, op := Op.load 9 (Operand.tmp 2), type := 9, pos := _, after := #[], guard := none }) (v := ?_) rfl (by kernel_rfl) (by kernel_rfl) (by kernel_rfl) (fun _ _ _ h => h) (Or.inl ⟨by rfl, ?_⟩) (by assumption) ?_
  rotate_left
  · (intro w hSw; obtain ⟨s0, s1, s2, s3, s4⟩ := hSw; (go_simp <;> with_reducible rfl))
  try simp only [Act.put, List.setIfInBounds_toArray, List.set_cons_zero, List.set_cons_succ]
  refine wpAnyH_take (i := 6) (oi := { dst := some 24, op := Op.load 37 (Operand.tmp 3), type := 37, pos := _, after := #[], guard := none }) (v := ?_) rfl (by kernel_rfl) (by kernel_rfl) (by kernel_rfl) (fun _ _ _ h => h) (Or.inl ⟨by rfl, ?_⟩) (by assumption) ?_
  rotate_left
  · (intro w hSw; obtain ⟨s0, s1, s2, s3, s4⟩ := hSw; (go_simp <;> with_reducible rfl))
  try simp only [Act.put, List.setIfInBounds_toArray, List.set_cons_zero, List.set_cons_succ]
  refine wpAnyH_take (i := 7) (oi := { dst := some 25, op := Op.build 37 #[(0, Operand.const (Value.int IntKind.i64 (-1)))], type := 37, pos := _, after := #[], guard := none }) (v := ?_) rfl (by kernel_rfl) (by kernel_rfl) (by kernel_rfl) (fun _ _ _ h => h) (Or.inl ⟨by rfl, ?_⟩) (by assumption) ?_
  rotate_left
  · (intro w hSw; obtain ⟨s0, s1, s2, s3, s4⟩ := hSw; (go_simp <;> with_reducible rfl))
  try simp only [Act.put, List.setIfInBounds_toArray, List.set_cons_zero, List.set_cons_succ]
  refine wpAnyH_take (i := 8) (oi := { dst := some 26, op := Op.build 79 #[(0, Operand.tmp 23), (1, Operand.tmp 24), (2, Operand.tmp 25)], type := 79, pos := _, after := #[{ on := 5, ground := Ground.data }, { on := 6, ground := Ground.data }, { on := 7, ground := Ground.data }], guard := none }) (v := ?_) rfl (by kernel_rfl) (by kernel_rfl) (by kernel_rfl) (fun _ _ _ h => h) (Or.inl ⟨by rfl, ?_⟩) (by assumption) ?_
  rotate_left
  · (intro w hSw; obtain ⟨s0, s1, s2, s3, s4⟩ := hSw; (go_simp <;> with_reducible rfl))
  try simp only [Act.put, List.setIfInBounds_toArray, List.set_cons_zero, List.set_cons_succ]
  refine wpAnyH_ready (rs := [4, 9]) (by kernel_rfl) (by simp) ?_
  refine (AllReadyH.cons (o := { dst := some 22, op := Op.load 31 (Operand.tmp 21), type := 31, pos := _, after := #[{ on := 3, ground := Ground.data }], guard := none }) rfl (fun K hK => ?_) (AllReadyH.cons (o := { dst := some 27, op := Op.buildSlice 31 1 #[(0, Operand.tmp 26)], type := 31, pos := _, after := #[{ on := 8, ground := Ground.data }], guard := none }) rfl (fun K hK => ?_) AllReadyH.nil))
  · have c4 : w4.drew.cell? ⟨g, 4, none⟩ = some (.slice (some ⟨g1, 0, none⟩) l.length cap) := hH0.cell 4
    go_simp
    clear c4
    refine hK.out _ _ ?_ (fun hHeld => ?_)
    · exact ⟨hV0.cell 0, hO0.cell 0, hO0.cell 1, hO0.cell 2, hO0.cell 3⟩
    clear hK K
    try simp only [Act.put, List.setIfInBounds_toArray, List.set_cons_zero, List.set_cons_succ]
    refine wpAnyH_ready (rs := [9]) (by kernel_rfl) (by simp) ?_
    refine (AllReadyH.cons (o := { dst := some 27, op := Op.buildSlice 31 1 #[(0, Operand.tmp 26)], type := 31, pos := _, after := #[{ on := 8, ground := Ground.data }], guard := none }) rfl (fun K hK => ?_) AllReadyH.nil)
    go_simp
    have hh := (G.refl w4.drew none).alloc (.cells #[.string s, .int .i64 ro.1, .string ro.2.1, .int .i64 ro.2.2.1, .int .i64 ro.2.2.2, .int .i64 (-1), .string ⟨#[]⟩, .int .i64 0, .int .i64 0] 79)
    have hH1 := hH0.quiet hh
    have hV1 := hV0.quiet hh
    have hO1 := hO0.quiet hh
    have hW1 := OwnX.quiet hW0 hh
    have hS1 := hS0.trans (GS.of_G hh)
    have hz1 := Nat.le_trans hz0 hh.size
    have hN := Bk.new w4.drew 79 (lgC (s, ro, noIn))
    clear hh hH0 hV0 hO0 hW0 hS0 hz0
    refine hK.out _ _ ?_ (fun hHeld => ?_)
    · exact ⟨hV1.cell 0, hO1.cell 0, hO1.cell 1, hO1.cell 2, hO1.cell 3⟩
    clear hK K
    try simp only [Act.put, List.setIfInBounds_toArray, List.set_cons_zero, List.set_cons_succ]
    refine wpAnyH_ready (rs := [10]) (by kernel_rfl) (by simp) ?_
    refine (AllReadyH.cons (o := { dst := some 28, op := Op.call { callee := Callee.builtin Builtin.append, args := #[Operand.tmp 22, Operand.tmp 27], argTypes := #[31, 31] }, type := 31, pos := _, after := #[{ on := 4, ground := Ground.data }, { on := 9, ground := Ground.data }], guard := none }) rfl (fun K hK => ?_) AllReadyH.nil)
    refine st_wp rfl (wp_append_x lg_rowOk _ _ rfl base (.slice (some ⟨g1, 0, none⟩) l.length cap) (inL l r) rfl hW1 (w4.drew.heap.size) (s, ro, noIn) rfl hN (by rw [inL_len]; omega) hz1 ?_)
    intro v8 w2_a hW2 hgrow
    obtain ⟨a8, cap8, rfl, -, -⟩ := RdR.form (Rd.of_owns hW2)
    have hH2 := hH1.grown hgrow (fun e => hne (Option.some.inj e))
    have hV2 := hV1.grown hgrow (fun e => hnv (Option.some.inj e))
    have hO2 := hO1.grown hgrow (fun e => hno (Option.some.inj e))
    have hS2 := hS1.trans (GS.of_Gs hgrow (.inr rfl))
    have hz2 := Nat.le_trans hz1 hgrow.size
    clear hgrow hN hH1 hV1 hO1 hW1 hS1 hz1
    refine hK.out _ _ ?_ (fun hHeld => ?_)
    · exact ⟨hV2.cell 0, hO2.cell 0, hO2.cell 1, hO2.cell 2, hO2.cell 3⟩
    clear hK K
    try simp only [Act.put, List.setIfInBounds_toArray, List.set_cons_zero, List.set_cons_succ]
    refine wpAnyH_take (i := 11) (oi := { dst := some 29, op := Op.nilCheck (Operand.tmp 18), type := 0, pos := _, after := #[{ on := 0, ground := Ground.data }, { on := 0, ground := Ground.phase }, { on := 1, ground := Ground.phase }, { on := 2, ground := Ground.phase }, { on := 3, ground := Ground.phase }, { on := 4, ground := Ground.phase }, { on := 5, ground := Ground.phase }, { on := 6, ground := Ground.phase }, { on := 7, ground := Ground.phase }, { on := 8, ground := Ground.phase }, { on := 9, ground := Ground.phase }, { on := 10, ground := Ground.phase }], guard := none }) (v := ?_) rfl (by kernel_rfl) (by kernel_rfl) (by kernel_rfl) (fun _ _ _ h => h) (Or.inl ⟨by rfl, ?_⟩) (by assumption) ?_
    rotate_left
    · (intro w hSw; obtain ⟨s0, s1, s2, s3, s4⟩ := hSw; (go_simp <;> with_reducible rfl))
    try simp only [Act.put, List.setIfInBounds_toArray, List.set_cons_zero, List.set_cons_succ]
    refine wpAnyH_take (i := 12) (oi := { dst := some 30, op := Op.fieldAddr 33 (Operand.tmp 29) 3, type := 0, pos := _, after := #[{ on := 11, ground := Ground.data }, { on := 0, ground := Ground.phase }, { on := 1, ground := Ground.phase }, { on := 2, ground := Ground.phase }, { on := 3, ground := Ground.phase }, { on := 4, ground := Ground.phase }, { on := 5, ground := Ground.phase }, { on := 6, ground := Ground.phase }, { on := 7, ground := Ground.phase }, { on := 8, ground := Ground.phase }, { on := 9, ground := Ground.phase }, { on := 10, ground := Ground.phase }], guard := none }) (v := ?_) rfl (by kernel_rfl) (by kernel_rfl) (by kernel_rfl) (fun _ _ _ h => h) (Or.inl ⟨by rfl, ?_⟩) (by assumption) ?_
    rotate_left
    · (intro w hSw; obtain ⟨s0, s1, s2, s3, s4⟩ := hSw; (go_simp <;> with_reducible rfl))
    try simp only [Act.put, List.setIfInBounds_toArray, List.set_cons_zero, List.set_cons_succ]
    refine wpAnyH_ready (rs := [13]) (by kernel_rfl) (by simp) ?_
    refine (AllReadyH.cons (o := { dst := none, op := Op.store 31 (Operand.tmp 30) (Operand.tmp 28), type := 0, pos := _, after := #[{ on := 12, ground := Ground.data }, { on := 10, ground := Ground.data }, { on := 10, ground := Ground.chain }, { on := 0, ground := Ground.phase }, { on := 1, ground := Ground.phase }, { on := 2, ground := Ground.phase }, { on := 3, ground := Ground.phase }, { on := 4, ground := Ground.phase }, { on := 5, ground := Ground.phase }, { on := 6, ground := Ground.phase }, { on := 7, ground := Ground.phase }, { on := 8, ground := Ground.phase }, { on := 9, ground := Ground.phase }, { on := 10, ground := Ground.phase }], guard := none }) rfl (fun K hK => ?_) AllReadyH.nil)
    have f8 := hH2.free 4
    have d8 : w2_a.cell? ⟨g, 4, none⟩ = some (.slice (some ⟨g1, 0, none⟩) l.length cap) := hH2.cell 4
    generalize hLL : (inL l r ++ [(s, ro, noIn)]).length = LL at hW2 ⊢
    go_simp
    have hH3 := hH2.set 4 (.slice a8 LL cap8)
    have hV3 := hV2.far (p := ⟨g, 4, none⟩) (show bv ≠ g by omega) (.slice a8 LL cap8)
    have hO3 := hO2.far (p := ⟨g, 4, none⟩) (show bo ≠ g by omega) (.slice a8 LL cap8)
    have hW3 := World.ownsRow.kept hW2 (grownBy_setCell_row w2_a ⟨g, 4, none⟩ (.slice a8 LL cap8)) (.inr fun e => by have := (World.ownsRow.lt hW2 g e).1; omega)
    have hS3 := hS2.trans (GS.of_Gs ((G.refl w2_a (some g)).setCell (p := ⟨g, 4, none⟩) (.inr rfl) (.slice a8 LL cap8)) (.inl rfl))
    clear d8 f8
    refine hK.out _ _ ?_ (fun hHeld => ?_)
    · exact ⟨hV3.cell 0, hO3.cell 0, hO3.cell 1, hO3.cell 2, hO3.cell 3⟩
    clear hK K
    try simp only [Act.put, List.setIfInBounds_toArray, List.set_cons_zero, List.set_cons_succ]
    refine wpAnyH_done (by kernel_rfl) ?_ _
    go_wp2_with fail
    (try simp only [Exit.inBlock, Exit.then])
    refine bodyPost_end (results_none rfl _ _ _) rfl ?_
    subst hLL
    exact ⟨rfl, _, hH3, Rd.of_owns hW3, fun k e => (World.ownsRow.lt hW3 k e).1, hS3⟩
  · go_simp
    have hh := (G.refl w4.drew none).alloc (.cells #[.string s, .int .i64 ro.1, .string ro.2.1, .int .i64 ro.2.2.1, .int .i64 ro.2.2.2, .int .i64 (-1), .string ⟨#[]⟩, .int .i64 0, .int .i64 0] 79)
    have hH1 := hH0.quiet hh
    have hV1 := hV0.quiet hh
    have hO1 := hO0.quiet hh
    have hW1 := OwnX.quiet hW0 hh
    have hS1 := hS0.trans (GS.of_G hh)
    have hz1 := Nat.le_trans hz0 hh.size
    have hN := Bk.new w4.drew 79 (lgC (s, ro, noIn))
    clear hh hH0 hV0 hO0 hW0 hS0 hz0
    refine hK.out _ _ ?_ (fun hHeld => ?_)
    · exact ⟨hV1.cell 0, hO1.cell 0, hO1.cell 1, hO1.cell 2, hO1.cell 3⟩
    clear hK K
    try simp only [Act.put, List.setIfInBounds_toArray, List.set_cons_zero, List.set_cons_succ]
    refine wpAnyH_ready (rs := [4]) (by kernel_rfl) (by simp) ?_
    refine (AllReadyH.cons (o := { dst := some 22, op := Op.load 31 (Operand.tmp 21), type := 31, pos := _, after := #[{ on := 3, ground := Ground.data }], guard := none }) rfl (fun K hK => ?_) AllReadyH.nil)
    have c4 : (w4.alloc (.cells #[.string s, .int .i64 ro.1, .string ro.2.1, .int .i64 ro.2.2.1, .int .i64 ro.2.2.2, .int .i64 (-1), .string ⟨#[]⟩, .int .i64 0, .int .i64 0] 79)).drew.cell? ⟨g, 4, none⟩ = some (.slice (some ⟨g1, 0, none⟩) l.length cap) := hH1.cell 4
    go_simp
    clear c4
    refine hK.out _ _ ?_ (fun hHeld => ?_)
    · exact ⟨hV1.cell 0, hO1.cell 0, hO1.cell 1, hO1.cell 2, hO1.cell 3⟩
    clear hK K
    try simp only [Act.put, List.setIfInBounds_toArray, List.set_cons_zero, List.set_cons_succ]
    refine wpAnyH_ready (rs := [10]) (by kernel_rfl) (by simp) ?_
    refine (AllReadyH.cons (o := { dst := some 28, op := Op.call { callee := Callee.builtin Builtin.append, args := #[Operand.tmp 22, Operand.tmp 27], argTypes := #[31, 31] }, type := 31, pos := _, after := #[{ on := 4, ground := Ground.data }, { on := 9, ground := Ground.data }], guard := none }) rfl (fun K hK => ?_) AllReadyH.nil)
    refine st_wp rfl (wp_append_x lg_rowOk _ _ rfl base (.slice (some ⟨g1, 0, none⟩) l.length cap) (inL l r) rfl hW1 (w4.drew.heap.size) (s, ro, noIn) rfl hN (by rw [inL_len]; omega) hz1 ?_)
    intro v8 w2_a hW2 hgrow
    obtain ⟨a8, cap8, rfl, -, -⟩ := RdR.form (Rd.of_owns hW2)
    have hH2 := hH1.grown hgrow (fun e => hne (Option.some.inj e))
    have hV2 := hV1.grown hgrow (fun e => hnv (Option.some.inj e))
    have hO2 := hO1.grown hgrow (fun e => hno (Option.some.inj e))
    have hS2 := hS1.trans (GS.of_Gs hgrow (.inr rfl))
    have hz2 := Nat.le_trans hz1 hgrow.size
    clear hgrow hN hH1 hV1 hO1 hW1 hS1 hz1
    refine hK.out _ _ ?_ (fun hHeld => ?_)
    · exact ⟨hV2.cell 0, hO2.cell 0, hO2.cell 1, hO2.cell 2, hO2.cell 3⟩
    clear hK K
    try simp only [Act.put, List.setIfInBounds_toArray, List.set_cons_zero, List.set_cons_succ]
    refine wpAnyH_take (i := 11) (oi := { dst := some 29, op := Op.nilCheck (Operand.tmp 18), type := 0, pos := _, after := #[{ on := 0, ground := Ground.data }, { on := 0, ground := Ground.phase }, { on := 1, ground := Ground.phase }, { on := 2, ground := Ground.phase }, { on := 3, ground := Ground.phase }, { on := 4, ground := Ground.phase }, { on := 5, ground := Ground.phase }, { on := 6, ground := Ground.phase }, { on := 7, ground := Ground.phase }, { on := 8, ground := Ground.phase }, { on := 9, ground := Ground.phase }, { on := 10, ground := Ground.phase }], guard := none }) (v := ?_) rfl (by kernel_rfl) (by kernel_rfl) (by kernel_rfl) (fun _ _ _ h => h) (Or.inl ⟨by rfl, ?_⟩) (by assumption) ?_
    rotate_left
    · (intro w hSw; obtain ⟨s0, s1, s2, s3, s4⟩ := hSw; (go_simp <;> with_reducible rfl))
    try simp only [Act.put, List.setIfInBounds_toArray, List.set_cons_zero, List.set_cons_succ]
    refine wpAnyH_take (i := 12) (oi := { dst := some 30, op := Op.fieldAddr 33 (Operand.tmp 29) 3, type := 0, pos := _, after := #[{ on := 11, ground := Ground.data }, { on := 0, ground := Ground.phase }, { on := 1, ground := Ground.phase }, { on := 2, ground := Ground.phase }, { on := 3, ground := Ground.phase }, { on := 4, ground := Ground.phase }, { on := 5, ground := Ground.phase }, { on := 6, ground := Ground.phase }, { on := 7, ground := Ground.phase }, { on := 8, ground := Ground.phase }, { on := 9, ground := Ground.phase }, { on := 10, ground := Ground.phase }], guard := none }) (v := ?_) rfl (by kernel_rfl) (by kernel_rfl) (by kernel_rfl) (fun _ _ _ h => h) (Or.inl ⟨by rfl, ?_⟩) (by assumption) ?_
    rotate_left
    · (intro w hSw; obtain ⟨s0, s1, s2, s3, s4⟩ := hSw; (go_simp <;> with_reducible rfl))
    try simp only [Act.put, List.setIfInBounds_toArray, List.set_cons_zero, List.set_cons_succ]
    refine wpAnyH_ready (rs := [13]) (by kernel_rfl) (by simp) ?_
    refine (AllReadyH.cons (o := { dst := none, op := Op.store 31 (Operand.tmp 30) (Operand.tmp 28), type := 0, pos := _, after := #[{ on := 12, ground := Ground.data }, { on := 10, ground := Ground.data }, { on := 10, ground := Ground.chain }, { on := 0, ground := Ground.phase }, { on := 1, ground := Ground.phase }, { on := 2, ground := Ground.phase }, { on := 3, ground := Ground.phase }, { on := 4, ground := Ground.phase }, { on := 5, ground := Ground.phase }, { on := 6, ground := Ground.phase }, { on := 7, ground := Ground.phase }, { on := 8, ground := Ground.phase }, { on := 9, ground := Ground.phase }, { on := 10, ground := Ground.phase }], guard := none }) rfl (fun K hK => ?_) AllReadyH.nil)
    have f8 := hH2.free 4
    have d8 : w2_a.cell? ⟨g, 4, none⟩ = some (.slice (some ⟨g1, 0, none⟩) l.length cap) := hH2.cell 4
    generalize hLL : (inL l r ++ [(s, ro, noIn)]).length = LL at hW2 ⊢
    go_simp
    have hH3 := hH2.set 4 (.slice a8 LL cap8)
    have hV3 := hV2.far (p := ⟨g, 4, none⟩) (show bv ≠ g by omega) (.slice a8 LL cap8)
    have hO3 := hO2.far (p := ⟨g, 4, none⟩) (show bo ≠ g by omega) (.slice a8 LL cap8)
    have hW3 := World.ownsRow.kept hW2 (grownBy_setCell_row w2_a ⟨g, 4, none⟩ (.slice a8 LL cap8)) (.inr fun e => by have := (World.ownsRow.lt hW2 g e).1; omega)
    have hS3 := hS2.trans (GS.of_Gs ((G.refl w2_a (some g)).setCell (p := ⟨g, 4, none⟩) (.inr rfl) (.slice a8 LL cap8)) (.inl rfl))
    clear d8 f8
    refine hK.out _ _ ?_ (fun hHeld => ?_)
    · exact ⟨hV3.cell 0, hO3.cell 0, hO3.cell 1, hO3.cell 2, hO3.cell 3⟩
    clear hK K
    try simp only [Act.put, List.setIfInBounds_toArray, List.set_cons_zero, List.set_cons_succ]
    refine wpAnyH_done (by kernel_rfl) ?_ _
    go_wp2_with fail
    (try simp only [Exit.inBlock, Exit.then])
    refine bodyPost_end (results_none rfl _ _ _) rfl ?_
    subst hLL
    exact ⟨rfl, _, hH3, Rd.of_owns hW3, fun k e => (World.ownsRow.lt hW3 k e).1, hS3⟩
set_option maxRecDepth 100000 in
set_option maxHeartbeats 2000000 in
theorem extend1_c (h : Hh) (l : List Lg) (z : Int) (b : Nat) (A : World) (hB : Bk A b 3 #[.int .i64 z]) : ChFn 94 #[.pointer (some ⟨b, 0, none⟩)] h l (h.1, h.2.1, h.2.2.1, z) l A := by
  intro w1 g base v1 hG hown hH hg hgb hbs
  have hb := hB.lt
  have hB1 := hB.quiet hG
  have b0 : w1.cell? ⟨b, 0, none⟩ = some (.int .i64 z) := hB1.cell 0
  have d3 : w1.cell? ⟨g, 3, none⟩ = some (.int .i64 h.2.2.2) := hH.cell 3
  have f3 := hH.free 3
  simp only [hiC] at hH ⊢
  go_enter Tryd.func94, Tryd.ntmps94
  go_wp2_with fail
  (try simp only [Exit.inBlock, Exit.then])
  refine bodyPost_end (results_none rfl _ _ _) rfl ?_
  refine ⟨rfl, v1, hH.set 3 _, Rd.of_owns (OwnX.far hown (p := ⟨g, 3, none⟩) (OwnX.ne hown (.inl hgb)) _), fun k e => (World.ownsRow.lt hown k e).1, GS.of_Gs ((G.refl w1 (some g)).setCell (p := ⟨g, 3, none⟩) (.inr rfl) _) (.inl rfl)⟩
set_option maxRecDepth 100000 in
set_option maxHeartbeats 2000000 in
theorem extendR1_c (h : Hh) (l : List Lg) (z : Int) (b : Nat) (A : World) (hB : Bk A b 3 #[.int .i64 z]) : ChFn 98 #[.pointer (some ⟨b, 0, none⟩)] h l (h.1, h.2.1, h.2.2.1, z) l A := by
  intro w1 g base v1 hG hown hH hg hgb hbs
  have hb := hB.lt
  have hB1 := hB.quiet hG
  have b0 : w1.cell? ⟨b, 0, none⟩ = some (.int .i64 z) := hB1.cell 0
  have d3 : w1.cell? ⟨g, 3, none⟩ = some (.int .i64 h.2.2.2) := hH.cell 3
  have f3 := hH.free 3
  simp only [hiC] at hH ⊢
  go_enter Tryd.func98, Tryd.ntmps98
  go_wp2_with fail
  (try simp only [Exit.inBlock, Exit.then])
  refine bodyPost_end (results_none rfl _ _ _) rfl ?_
  refine ⟨rfl, v1, hH.set 3 _, Rd.of_owns (OwnX.far hown (p := ⟨g, 3, none⟩) (OwnX.ne hown (.inl hgb)) _), fun k e => (World.ownsRow.lt hown k e).1, GS.of_Gs ((G.refl w1 (some g)).setCell (p := ⟨g, 3, none⟩) (.inr rfl) _) (.inl rfl)⟩
end Go.Proofs.YtdcofbciebkfkaaDoor

/- Hires: Exchange, ExchangeOf, Extend, ExtendOf. Written by genexc.py. -/
namespace Go.Proofs.YtdcofbciebkfkaaDoor
open Go.RowKit

theorem LgOk.snoc {l : List Lg} {x : Lg} (h : LgOk l) (hx : lgB x) : LgOk (l ++ [x]) := fun y hy => by
  rcases List.mem_append.1 hy with hy | hy
  · exact h y hy
  · obtain rfl := List.mem_singleton.1 hy
    exact hx
theorem small_nil : Small ⟨#[]⟩ := small_of (by decide)
set_option maxRecDepth 100000 in
set_option maxHeartbeats 4000000 in
theorem exchange_c (h : Hh) (v : Value) (l : List Lg) (r : Rg) (s : ByteArray) (ro : Rg) (w : World) (hr : RdR w 9 lgC v l) (hl : LgOk l) (hs1 : Small h.1) (hs2 : Small h.2.1) (hb1 : bnd h.2.2.1) (hb2 : bnd h.2.2.2) (hn : l.length ≤ 900) (hsr : Small r.2.1) (hss : Small s) (hso : Small ro.2.1) :
    Calls Tryd.prog 22 #[.agg (hiC h v), .agg (rgC r), .string s, .agg (rgC ro)] w (ChPost (chE h l h (inL l r ++ [(s, ro, noIn)])) h (inL l r ++ [(s, ro, noIn)]) w) := by
  have hH := (((((Bk.newAt (w := w) (b := w.heap.size) (by simp) 33 (hiC h v)).alloc (.cells (rgC r) 37)).alloc (.cells #[.string s] 9)).alloc (.cells (rgC ro) 37)).alloc (.cells hiZ 33))
  have hB1 := ((((Bk.newAt (w := (w.alloc (.cells (hiC h v) 33))) (b := w.heap.size + 1) (by simp) 37 (rgC r)).alloc (.cells #[.string s] 9)).alloc (.cells (rgC ro) 37)).alloc (.cells hiZ 33))
  have hB2 := (((Bk.newAt (w := ((w.alloc (.cells (hiC h v) 33)).alloc (.cells (rgC r) 37))) (b := w.heap.size + 2) (by simp) 9 #[.string s]).alloc (.cells (rgC ro) 37)).alloc (.cells hiZ 33))
  have hB3 := ((Bk.newAt (w := (((w.alloc (.cells (hiC h v) 33)).alloc (.cells (rgC r) 37)).alloc (.cells #[.string s] 9))) (b := w.heap.size + 3) (by simp) 37 (rgC ro)).alloc (.cells hiZ 33))
  have hZ := Bk.newAt (w := ((((w.alloc (.cells (hiC h v) 33)).alloc (.cells (rgC r) 37)).alloc (.cells #[.string s] 9)).alloc (.cells (rgC ro) 37))) (b := w.heap.size + 4) (by simp) 33 hiZ
  have hG := ((((((G.refl w none).alloc (.cells (hiC h v) 33)).alloc (.cells (rgC r) 37)).alloc (.cells #[.string s] 9)).alloc (.cells (rgC ro) 37)).alloc (.cells hiZ 33))
  have hR := hr.quiet hG
  have hz2 := hZ.lt
  obtain ⟨a, cap, rfl, hcap, hm⟩ := RdR.form hr
  have HC := Lib.hid (fun (w' : World) (q1 : Bk w' (w.heap.size + 1) 37 (rgC r)) (q2 : Bk w' (w.heap.size + 2) 9 #[.string s]) (q3 : Bk w' (w.heap.size + 3) 37 (rgC ro)) (hR' : RdR w' 9 lgC (.slice a l.length cap) l) =>
    changed_c 92 #[.pointer (some ⟨w.heap.size + 1, 0, none⟩), .pointer (some ⟨w.heap.size + 2, 0, none⟩), .pointer (some ⟨w.heap.size + 3, 0, none⟩)] h (.slice a l.length cap) l h (inL l r ++ [(s, ro, noIn)]) w' cf_exchange (fun h0 => exchange1_c h l r s ro (w.heap.size + 1) (w.heap.size + 2) (w.heap.size + 3) w' q1 q2 q3 h0 (by omega)) hR' hl hs1 hs2 hb1 hb2 (by omega) ((hl.inL hsr).snoc ⟨hss, hso, small_nil⟩) hs1 hs2 hb1 hb2 (by rw [List.length_append, inL_len, List.length_singleton]; omega))
  clear hr
  simp only [hiC, hiZ, rgC] at hH hB1 hB2 hB3 hG hR hZ hz2 HC ⊢
  go_enter Tryd.func22, Tryd.ntmps22
  go_upto_region 1 with fail
  generalize ((((w.alloc (.cells #[.string h.1, .string h.2.1, .int .i64 h.2.2.1, .int .i64 h.2.2.2, .slice a l.length cap] 33)).alloc (.cells #[.int .i64 r.1, .string r.2.1, .int .i64 r.2.2.1, .int .i64 r.2.2.2] 37)).alloc (.cells #[.string s] 9)).alloc (.cells #[.int .i64 ro.1, .string ro.2.1, .int .i64 ro.2.2.1, .int .i64 ro.2.2.2] 37)).alloc (.cells #[.string ⟨#[]⟩, .string ⟨#[]⟩, .int .i64 0, .int .i64 0, .slice none 0 0] 33) = w2 at hH hB1 hB2 hB3 hG hR hZ hz2 ⊢
  go_wp2_with (refine wpList_load_row rfl 33 _ rfl w.heap.size rfl 33 #[.string h.1, .string h.2.1, .int .i64 h.2.2.1, .int .i64 h.2.2.2, .slice a l.length cap] (0, 0) _ hH Tryd.underlying33 rfl (hi_info h _) ?_)
  refine (HC.out w2 hB1 hB2 hB3 hR).mono ?_; rintro e w3 ⟨H, a3, n3, c3, rfl, hHH, hBB, hR3, hG3⟩
  have hZ3 := hZ.quiet hG3
  have hG03 := hG.trans hG3
  have HHH := Lib.hid hHH
  have HB3 := Lib.hid hBB
  have HR3 := Lib.hid hR3
  clear hHH hBB hR3 hG3 hG hZ hR HC hH hB1 hB2 hB3
  go_wp2_with (refine wpList_store_row rfl 33 _ _ rfl (w.heap.size + 4) #[.string H.1, .string H.2.1, .int .i64 H.2.2.1, .int .i64 H.2.2.2, .slice a3 n3 c3] rfl rfl 33 _ hZ3 (hi_info H _) rfl (hi_one H _ _ _) ?_)
  refine bodyPost_ret (results_cell_hi rfl _ _ (w.heap.size + 4) 33 #[.string H.1, .string H.2.1, .int .i64 H.2.2.1, .int .i64 H.2.2.2, .slice a3 n3 c3] (0, 0) _ rfl (hZ3.setRow _) Tryd.underlying33 rfl (hi_info H _)) rfl ?_
  exact ⟨H, a3, n3, c3, rfl, HHH.out, fun k e => by have := HB3.out k e; omega, Rd.grown HR3.out ((G.refl w3 (some (w.heap.size + 4))).setRow (.inr rfl) _) (fun k e hk => by cases e; have := HB3.out _ hk; omega), hG03.setRow (.inl (by omega)) _⟩
set_option maxRecDepth 100000 in
set_option maxHeartbeats 4000000 in
theorem exchangeOf_c (h : Hh) (v : Value) (l : List Lg) (r : Rg) (s : ByteArray) (ro : Rg) (w : World) (hr : RdR w 9 lgC v l) (hl : LgOk l) (hs1 : Small h.1) (hs2 : Small h.2.1) (hb1 : bnd h.2.2.1) (hb2 : bnd h.2.2.2) (hn : l.length ≤ 900) (hsr : Small r.2.1) (hss : Small s) (hso : Small ro.2.1) :
    Calls Tryd.prog 25 #[.agg (hiC h v), .agg (rgC r), .string s, .agg (rgC ro)] w (ChPost (chR l h (inL l r ++ [(s, ro, noIn)])) h (inL l r ++ [(s, ro, noIn)]) w) := by
  have hH := (((((Bk.newAt (w := w) (b := w.heap.size) (by simp) 33 (hiC h v)).alloc (.cells (rgC r) 37)).alloc (.cells #[.string s] 9)).alloc (.cells (rgC ro) 37)).alloc (.cells hiZ 33))
  have hB1 := ((((Bk.newAt (w := (w.alloc (.cells (hiC h v) 33))) (b := w.heap.size + 1) (by simp) 37 (rgC r)).alloc (.cells #[.string s] 9)).alloc (.cells (rgC ro) 37)).alloc (.cells hiZ 33))
  have hB2 := (((Bk.newAt (w := ((w.alloc (.cells (hiC h v) 33)).alloc (.cells (rgC r) 37))) (b := w.heap.size + 2) (by simp) 9 #[.string s]).alloc (.cells (rgC ro) 37)).alloc (.cells hiZ 33))
  have hB3 := ((Bk.newAt (w := (((w.alloc (.cells (hiC h v) 33)).alloc (.cells (rgC r) 37)).alloc (.cells #[.string s] 9))) (b := w.heap.size + 3) (by simp) 37 (rgC ro)).alloc (.cells hiZ 33))
  have hZ := Bk.newAt (w := ((((w.alloc (.cells (hiC h v) 33)).alloc (.cells (rgC r) 37)).alloc (.cells #[.string s] 9)).alloc (.cells (rgC ro) 37))) (b := w.heap.size + 4) (by simp) 33 hiZ
  have hG := ((((((G.refl w none).alloc (.cells (hiC h v) 33)).alloc (.cells (rgC r) 37)).alloc (.cells #[.string s] 9)).alloc (.cells (rgC ro) 37)).alloc (.cells hiZ 33))
  have hR := hr.quiet hG
  have hz2 := hZ.lt
  obtain ⟨a, cap, rfl, hcap, hm⟩ := RdR.form hr
  have HC := Lib.hid (fun (w' : World) (q1 : Bk w' (w.heap.size + 1) 37 (rgC r)) (q2 : Bk w' (w.heap.size + 2) 9 #[.string s]) (q3 : Bk w' (w.heap.size + 3) 37 (rgC ro)) (hR' : RdR w' 9 lgC (.slice a l.length cap) l) =>
    changedR_c 97 #[.pointer (some ⟨w.heap.size + 1, 0, none⟩), .pointer (some ⟨w.heap.size + 2, 0, none⟩), .pointer (some ⟨w.heap.size + 3, 0, none⟩)] h (.slice a l.length cap) l h (inL l r ++ [(s, ro, noIn)]) w' cf_exchangeR (fun h0 => exchangeR1_c h l r s ro (w.heap.size + 1) (w.heap.size + 2) (w.heap.size + 3) w' q1 q2 q3 h0 (by omega)) hR' (by omega) ((hl.inL hsr).snoc ⟨hss, hso, small_nil⟩) hs1 hs2 hb1 hb2 (by rw [List.length_append, inL_len, List.length_singleton]; omega))
  clear hr
  simp only [hiC, hiZ, rgC] at hH hB1 hB2 hB3 hG hR hZ hz2 HC ⊢
  go_enter Tryd.func25, Tryd.ntmps25
  go_upto_region 1 with fail
  generalize ((((w.alloc (.cells #[.string h.1, .string h.2.1, .int .i64 h.2.2.1, .int .i64 h.2.2.2, .slice a l.length cap] 33)).alloc (.cells #[.int .i64 r.1, .string r.2.1, .int .i64 r.2.2.1, .int .i64 r.2.2.2] 37)).alloc (.cells #[.string s] 9)).alloc (.cells #[.int .i64 ro.1, .string ro.2.1, .int .i64 ro.2.2.1, .int .i64 ro.2.2.2] 37)).alloc (.cells #[.string ⟨#[]⟩, .string ⟨#[]⟩, .int .i64 0, .int .i64 0, .slice none 0 0] 33) = w2 at hH hB1 hB2 hB3 hG hR hZ hz2 ⊢
  go_wp2_with (refine wpList_load_row rfl 33 _ rfl w.heap.size rfl 33 #[.string h.1, .string h.2.1, .int .i64 h.2.2.1, .int .i64 h.2.2.2, .slice a l.length cap] (0, 0) _ hH Tryd.underlying33 rfl (hi_info h _) ?_)
  refine (HC.out w2 hB1 hB2 hB3 hR).mono ?_; rintro e w3 ⟨H, a3, n3, c3, rfl, hHH, hBB, hR3, hG3⟩
  have hZ3 := hZ.quiet hG3
  have hG03 := hG.trans hG3
  have HHH := Lib.hid hHH
  have HB3 := Lib.hid hBB
  have HR3 := Lib.hid hR3
  clear hHH hBB hR3 hG3 hG hZ hR HC hH hB1 hB2 hB3
  go_wp2_with (refine wpList_store_row rfl 33 _ _ rfl (w.heap.size + 4) #[.string H.1, .string H.2.1, .int .i64 H.2.2.1, .int .i64 H.2.2.2, .slice a3 n3 c3] rfl rfl 33 _ hZ3 (hi_info H _) rfl (hi_one H _ _ _) ?_)
  refine bodyPost_ret (results_cell_hi rfl _ _ (w.heap.size + 4) 33 #[.string H.1, .string H.2.1, .int .i64 H.2.2.1, .int .i64 H.2.2.2, .slice a3 n3 c3] (0, 0) _ rfl (hZ3.setRow _) Tryd.underlying33 rfl (hi_info H _)) rfl ?_
  exact ⟨H, a3, n3, c3, rfl, HHH.out, fun k e => by have := HB3.out k e; omega, Rd.grown HR3.out ((G.refl w3 (some (w.heap.size + 4))).setRow (.inr rfl) _) (fun k e hk => by cases e; have := HB3.out _ hk; omega), hG03.setRow (.inl (by omega)) _⟩
set_option maxRecDepth 100000 in
set_option maxHeartbeats 4000000 in
theorem extend_c (h : Hh) (v : Value) (l : List Lg) (z : Int) (w : World) (hr : RdR w 9 lgC v l) (hl : LgOk l) (hs1 : Small h.1) (hs2 : Small h.2.1) (hb1 : bnd h.2.2.1) (hb2 : bnd h.2.2.2) (hn : l.length ≤ 900) (hbz : bnd z) :
    Calls Tryd.prog 23 #[.agg (hiC h v), .int .i64 z] w (ChPost (chE h l (h.1, h.2.1, h.2.2.1, z) l) (h.1, h.2.1, h.2.2.1, z) (l) w) := by
  have hH := (((Bk.newAt (w := w) (b := w.heap.size) (by simp) 33 (hiC h v)).alloc (.cells #[.int .i64 z] 3)).alloc (.cells hiZ 33))
  have hB1 := ((Bk.newAt (w := (w.alloc (.cells (hiC h v) 33))) (b := w.heap.size + 1) (by simp) 3 #[.int .i64 z]).alloc (.cells hiZ 33))
  have hZ := Bk.newAt (w := ((w.alloc (.cells (hiC h v) 33)).alloc (.cells #[.int .i64 z] 3))) (b := w.heap.size + 2) (by simp) 33 hiZ
  have hG := ((((G.refl w none).alloc (.cells (hiC h v) 33)).alloc (.cells #[.int .i64 z] 3)).alloc (.cells hiZ 33))
  have hR := hr.quiet hG
  have hz2 := hZ.lt
  obtain ⟨a, cap, rfl, hcap, hm⟩ := RdR.form hr
  have HC := Lib.hid (fun (w' : World) (q1 : Bk w' (w.heap.size + 1) 3 #[.int .i64 z]) (hR' : RdR w' 9 lgC (.slice a l.length cap) l) =>
    changed_c 94 #[.pointer (some ⟨w.heap.size + 1, 0, none⟩)] h (.slice a l.length cap) l (h.1, h.2.1, h.2.2.1, z) (l) w' cf_extend (fun h0 => extend1_c h l z (w.heap.size + 1) w' q1) hR' hl hs1 hs2 hb1 hb2 (by omega) hl hs1 hs2 hb1 hbz (by omega))
  clear hr
  simp only [hiC, hiZ, rgC] at hH hB1 hG hR hZ hz2 HC ⊢
  go_enter Tryd.func23, Tryd.ntmps23
  go_upto_region 1 with fail
  generalize ((w.alloc (.cells #[.string h.1, .string h.2.1, .int .i64 h.2.2.1, .int .i64 h.2.2.2, .slice a l.length cap] 33)).alloc (.cells #[.int .i64 z] 3)).alloc (.cells #[.string ⟨#[]⟩, .string ⟨#[]⟩, .int .i64 0, .int .i64 0, .slice none 0 0] 33) = w2 at hH hB1 hG hR hZ hz2 ⊢
  go_wp2_with (refine wpList_load_row rfl 33 _ rfl w.heap.size rfl 33 #[.string h.1, .string h.2.1, .int .i64 h.2.2.1, .int .i64 h.2.2.2, .slice a l.length cap] (0, 0) _ hH Tryd.underlying33 rfl (hi_info h _) ?_)
  refine (HC.out w2 hB1 hR).mono ?_; rintro e w3 ⟨H, a3, n3, c3, rfl, hHH, hBB, hR3, hG3⟩
  have hZ3 := hZ.quiet hG3
  have hG03 := hG.trans hG3
  have HHH := Lib.hid hHH
  have HB3 := Lib.hid hBB
  have HR3 := Lib.hid hR3
  clear hHH hBB hR3 hG3 hG hZ hR HC hH hB1
  go_wp2_with (refine wpList_store_row rfl 33 _ _ rfl (w.heap.size + 2) #[.string H.1, .string H.2.1, .int .i64 H.2.2.1, .int .i64 H.2.2.2, .slice a3 n3 c3] rfl rfl 33 _ hZ3 (hi_info H _) rfl (hi_one H _ _ _) ?_)
  refine bodyPost_ret (results_cell_hi rfl _ _ (w.heap.size + 2) 33 #[.string H.1, .string H.2.1, .int .i64 H.2.2.1, .int .i64 H.2.2.2, .slice a3 n3 c3] (0, 0) _ rfl (hZ3.setRow _) Tryd.underlying33 rfl (hi_info H _)) rfl ?_
  exact ⟨H, a3, n3, c3, rfl, HHH.out, fun k e => by have := HB3.out k e; omega, Rd.grown HR3.out ((G.refl w3 (some (w.heap.size + 2))).setRow (.inr rfl) _) (fun k e hk => by cases e; have := HB3.out _ hk; omega), hG03.setRow (.inl (by omega)) _⟩
set_option maxRecDepth 100000 in
set_option maxHeartbeats 4000000 in
theorem extendOf_c (h : Hh) (v : Value) (l : List Lg) (z : Int) (w : World) (hr : RdR w 9 lgC v l) (hl : LgOk l) (hs1 : Small h.1) (hs2 : Small h.2.1) (hb1 : bnd h.2.2.1) (hb2 : bnd h.2.2.2) (hn : l.length ≤ 900) (hbz : bnd z) :
    Calls Tryd.prog 26 #[.agg (hiC h v), .int .i64 z] w (ChPost (chR l (h.1, h.2.1, h.2.2.1, z) l) (h.1, h.2.1, h.2.2.1, z) (l) w) := by
  have hH := (((Bk.newAt (w := w) (b := w.heap.size) (by simp) 33 (hiC h v)).alloc (.cells #[.int .i64 z] 3)).alloc (.cells hiZ 33))
  have hB1 := ((Bk.newAt (w := (w.alloc (.cells (hiC h v) 33))) (b := w.heap.size + 1) (by simp) 3 #[.int .i64 z]).alloc (.cells hiZ 33))
  have hZ := Bk.newAt (w := ((w.alloc (.cells (hiC h v) 33)).alloc (.cells #[.int .i64 z] 3))) (b := w.heap.size + 2) (by simp) 33 hiZ
  have hG := ((((G.refl w none).alloc (.cells (hiC h v) 33)).alloc (.cells #[.int .i64 z] 3)).alloc (.cells hiZ 33))
  have hR := hr.quiet hG
  have hz2 := hZ.lt
  obtain ⟨a, cap, rfl, hcap, hm⟩ := RdR.form hr
  have HC := Lib.hid (fun (w' : World) (q1 : Bk w' (w.heap.size + 1) 3 #[.int .i64 z]) (hR' : RdR w' 9 lgC (.slice a l.length cap) l) =>
    changedR_c 98 #[.pointer (some ⟨w.heap.size + 1, 0, none⟩)] h (.slice a l.length cap) l (h.1, h.2.1, h.2.2.1, z) (l) w' cf_extendR (fun h0 => extendR1_c h l z (w.heap.size + 1) w' q1) hR' (by omega) hl hs1 hs2 hb1 hbz (by omega))
  clear hr
  simp only [hiC, hiZ, rgC] at hH hB1 hG hR hZ hz2 HC ⊢
  go_enter Tryd.func26, Tryd.ntmps26
  go_upto_region 1 with fail
  generalize ((w.alloc (.cells #[.string h.1, .string h.2.1, .int .i64 h.2.2.1, .int .i64 h.2.2.2, .slice a l.length cap] 33)).alloc (.cells #[.int .i64 z] 3)).alloc (.cells #[.string ⟨#[]⟩, .string ⟨#[]⟩, .int .i64 0, .int .i64 0, .slice none 0 0] 33) = w2 at hH hB1 hG hR hZ hz2 ⊢
  go_wp2_with (refine wpList_load_row rfl 33 _ rfl w.heap.size rfl 33 #[.string h.1, .string h.2.1, .int .i64 h.2.2.1, .int .i64 h.2.2.2, .slice a l.length cap] (0, 0) _ hH Tryd.underlying33 rfl (hi_info h _) ?_)
  refine (HC.out w2 hB1 hR).mono ?_; rintro e w3 ⟨H, a3, n3, c3, rfl, hHH, hBB, hR3, hG3⟩
  have hZ3 := hZ.quiet hG3
  have hG03 := hG.trans hG3
  have HHH := Lib.hid hHH
  have HB3 := Lib.hid hBB
  have HR3 := Lib.hid hR3
  clear hHH hBB hR3 hG3 hG hZ hR HC hH hB1
  go_wp2_with (refine wpList_store_row rfl 33 _ _ rfl (w.heap.size + 2) #[.string H.1, .string H.2.1, .int .i64 H.2.2.1, .int .i64 H.2.2.2, .slice a3 n3 c3] rfl rfl 33 _ hZ3 (hi_info H _) rfl (hi_one H _ _ _) ?_)
  refine bodyPost_ret (results_cell_hi rfl _ _ (w.heap.size + 2) 33 #[.string H.1, .string H.2.1, .int .i64 H.2.2.1, .int .i64 H.2.2.2, .slice a3 n3 c3] (0, 0) _ rfl (hZ3.setRow _) Tryd.underlying33 rfl (hi_info H _)) rfl ?_
  exact ⟨H, a3, n3, c3, rfl, HHH.out, fun k e => by have := HB3.out k e; omega, Rd.grown HR3.out ((G.refl w3 (some (w.heap.size + 2))).setRow (.inr rfl) _) (fun k e hk => by cases e; have := HB3.out _ hk; omega), hG03.setRow (.inl (by omega)) _⟩
end Go.Proofs.YtdcofbciebkfkaaDoor

/- Hires: Close, CloseOf. -/
namespace Go.Proofs.YtdcofbciebkfkaaDoor
open Go.RowKit

set_option maxRecDepth 100000 in
set_option maxHeartbeats 4000000 in
theorem close_c (h : Hh) (v : Value) (l : List Lg) (r : Rg) (w : World) (hr : RdR w 9 lgC v l) (hl : LgOk l) (hs1 : Small h.1) (hs2 : Small h.2.1) (hb1 : bnd h.2.2.1) (hb2 : bnd h.2.2.2) (hn : l.length ≤ 1000) (hsr : Small r.2.1) :
    Calls Tryd.prog 24 #[.agg (hiC h v), .agg (rgC r)] w (ChPost (chE h l h (inL l r)) h (inL l r) w) := by
  have hH := ((Bk.new w 33 (hiC h v)).alloc (.cells (rgC r) 37)).alloc (.cells hiZ 33)
  have hB := (Bk.newAt (w := w.alloc (.cells (hiC h v) 33)) (b := w.heap.size + 1) (by simp) 37 (rgC r)).alloc (.cells hiZ 33)
  have hZ := Bk.newAt (w := (w.alloc (.cells (hiC h v) 33)).alloc (.cells (rgC r) 37)) (b := w.heap.size + 2) (by simp) 33 hiZ
  have hG := (((G.refl w none).alloc (.cells (hiC h v) 33)).alloc (.cells (rgC r) 37)).alloc (.cells hiZ 33)
  have hR := hr.quiet hG
  have hz2 := hZ.lt
  obtain ⟨a, cap, rfl, hcap, hm⟩ := RdR.form hr
  have HC := Lib.hid (fun (w' : World) (hB' : Bk w' (w.heap.size + 1) 37 (rgC r)) (hR' : RdR w' 9 lgC (.slice a l.length cap) l) =>
    changed_c 95 #[.pointer (some ⟨w.heap.size + 1, 0, none⟩)] h (.slice a l.length cap) l h (inL l r) w' cf_close (fun h0 => close1_c h l r (w.heap.size + 1) w' hB' h0 hn) hR' hl hs1 hs2 hb1 hb2 hn (hl.inL hsr) hs1 hs2 hb1 hb2 (by rw [inL_len]; exact hn))
  clear hr
  simp only [hiC, hiZ, rgC] at hH hG hR hZ hB hz2 HC ⊢
  go_enter Tryd.func24, Tryd.ntmps24
  go_upto_region 1 with fail
  generalize ((w.alloc (.cells #[.string h.1, .string h.2.1, .int .i64 h.2.2.1, .int .i64 h.2.2.2, .slice a l.length cap] 33)).alloc (.cells #[.int .i64 r.1, .string r.2.1, .int .i64 r.2.2.1, .int .i64 r.2.2.2] 37)).alloc (.cells #[.string ⟨#[]⟩, .string ⟨#[]⟩, .int .i64 0, .int .i64 0, .slice none 0 0] 33) = w2 at hG hH hR hZ hB hz2 ⊢
  go_wp2_with (refine wpList_load_row rfl 33 _ rfl w.heap.size rfl 33 #[.string h.1, .string h.2.1, .int .i64 h.2.2.1, .int .i64 h.2.2.2, .slice a l.length cap] (0, 0) _ hH Tryd.underlying33 rfl (hi_info h _) ?_)
  refine (HC.out w2 hB hR).mono ?_; rintro e w3 ⟨H, a3, n3, c3, rfl, hHH, hBB, hR3, hG3⟩
  have hZ3 := hZ.quiet hG3
  have hG03 := hG.trans hG3
  have HHH := Lib.hid hHH
  have HB3 := Lib.hid hBB
  have HR3 := Lib.hid hR3
  clear hHH hBB hR3 hG3 hG hZ hH hR hB HC
  go_wp2_with (refine wpList_store_row rfl 33 _ _ rfl (w.heap.size + 2) #[.string H.1, .string H.2.1, .int .i64 H.2.2.1, .int .i64 H.2.2.2, .slice a3 n3 c3] rfl rfl 33 _ hZ3 (hi_info H _) rfl (hi_one H _ _ _) ?_)
  refine bodyPost_ret (results_cell_hi rfl _ _ (w.heap.size + 2) 33 #[.string H.1, .string H.2.1, .int .i64 H.2.2.1, .int .i64 H.2.2.2, .slice a3 n3 c3] (0, 0) _ rfl (hZ3.setRow _) Tryd.underlying33 rfl (hi_info H _)) rfl ?_
  exact ⟨H, a3, n3, c3, rfl, HHH.out, fun k e => by have := HB3.out k e; omega, Rd.grown HR3.out ((G.refl w3 (some (w.heap.size + 2))).setRow (.inr rfl) _) (fun k e hk => by cases e; have := HB3.out _ hk; omega), hG03.setRow (.inl (by omega)) _⟩
set_option maxRecDepth 100000 in
set_option maxHeartbeats 4000000 in
theorem closeOf_c (h : Hh) (v : Value) (l : List Lg) (r : Rg) (w : World) (hr : RdR w 9 lgC v l) (hl : LgOk l) (hs1 : Small h.1) (hs2 : Small h.2.1) (hb1 : bnd h.2.2.1) (hb2 : bnd h.2.2.2) (hn : l.length ≤ 1000) (hsr : Small r.2.1) :
    Calls Tryd.prog 27 #[.agg (hiC h v), .agg (rgC r)] w (ChPost (chR l h (inL l r)) h (inL l r) w) := by
  have hH := ((Bk.new w 33 (hiC h v)).alloc (.cells (rgC r) 37)).alloc (.cells hiZ 33)
  have hB := (Bk.newAt (w := w.alloc (.cells (hiC h v) 33)) (b := w.heap.size + 1) (by simp) 37 (rgC r)).alloc (.cells hiZ 33)
  have hZ := Bk.newAt (w := (w.alloc (.cells (hiC h v) 33)).alloc (.cells (rgC r) 37)) (b := w.heap.size + 2) (by simp) 33 hiZ
  have hG := (((G.refl w none).alloc (.cells (hiC h v) 33)).alloc (.cells (rgC r) 37)).alloc (.cells hiZ 33)
  have hR := hr.quiet hG
  have hz2 := hZ.lt
  obtain ⟨a, cap, rfl, hcap, hm⟩ := RdR.form hr
  have HC := Lib.hid (fun (w' : World) (hB' : Bk w' (w.heap.size + 1) 37 (rgC r)) (hR' : RdR w' 9 lgC (.slice a l.length cap) l) =>
    changedR_c 99 #[.pointer (some ⟨w.heap.size + 1, 0, none⟩)] h (.slice a l.length cap) l h (inL l r) w' cf_closeR (fun h0 => closeR1_c h l r (w.heap.size + 1) w' hB' h0 hn) hR' hn (hl.inL hsr) hs1 hs2 hb1 hb2 (by rw [inL_len]; exact hn))
  clear hr
  simp only [hiC, hiZ, rgC] at hH hG hR hZ hB hz2 HC ⊢
  go_enter Tryd.func27, Tryd.ntmps27
  go_upto_region 1 with fail
  generalize ((w.alloc (.cells #[.string h.1, .string h.2.1, .int .i64 h.2.2.1, .int .i64 h.2.2.2, .slice a l.length cap] 33)).alloc (.cells #[.int .i64 r.1, .string r.2.1, .int .i64 r.2.2.1, .int .i64 r.2.2.2] 37)).alloc (.cells #[.string ⟨#[]⟩, .string ⟨#[]⟩, .int .i64 0, .int .i64 0, .slice none 0 0] 33) = w2 at hG hH hR hZ hB hz2 ⊢
  go_wp2_with (refine wpList_load_row rfl 33 _ rfl w.heap.size rfl 33 #[.string h.1, .string h.2.1, .int .i64 h.2.2.1, .int .i64 h.2.2.2, .slice a l.length cap] (0, 0) _ hH Tryd.underlying33 rfl (hi_info h _) ?_)
  refine (HC.out w2 hB hR).mono ?_; rintro e w3 ⟨H, a3, n3, c3, rfl, hHH, hBB, hR3, hG3⟩
  have hZ3 := hZ.quiet hG3
  have hG03 := hG.trans hG3
  have HHH := Lib.hid hHH
  have HB3 := Lib.hid hBB
  have HR3 := Lib.hid hR3
  clear hHH hBB hR3 hG3 hG hZ hH hR hB HC
  go_wp2_with (refine wpList_store_row rfl 33 _ _ rfl (w.heap.size + 2) #[.string H.1, .string H.2.1, .int .i64 H.2.2.1, .int .i64 H.2.2.2, .slice a3 n3 c3] rfl rfl 33 _ hZ3 (hi_info H _) rfl (hi_one H _ _ _) ?_)
  refine bodyPost_ret (results_cell_hi rfl _ _ (w.heap.size + 2) 33 #[.string H.1, .string H.2.1, .int .i64 H.2.2.1, .int .i64 H.2.2.2, .slice a3 n3 c3] (0, 0) _ rfl (hZ3.setRow _) Tryd.underlying33 rfl (hi_info H _)) rfl ?_
  exact ⟨H, a3, n3, c3, rfl, HHH.out, fun k e => by have := HB3.out k e; omega, Rd.grown HR3.out ((G.refl w3 (some (w.heap.size + 2))).setRow (.inr rfl) _) (fun k e hk => by cases e; have := HB3.out _ hk; omega), hG03.setRow (.inl (by omega)) _⟩
end Go.Proofs.YtdcofbciebkfkaaDoor

/- Facts that stand while only some blocks are written. No program of its own. -/
namespace Go.Proofs.YtdcofbciebkfkaaDoor
open Go.RowKit

theorem Rd.gs {S : Nat → Prop} {w w' : World} {z : Nat} {v : Value} {n : Nat} {cs : List Value} (h : Rd w z v n cs) (hg : GS S w w') (hs : ∀ k, v.ownBlock = some k → ¬ S k) : Rd w' z v n cs :=
  h.of_eq fun b hb hlt => ⟨Nat.lt_of_lt_of_le hlt hg.size, hg.block b hlt (hs b hb)⟩
/-- A fact that stands while only blocks of S are written. -/
def KS (S : Nat → Prop) (w : World) (P : World → Prop) : Prop := ∀ w', GS S w w' → P w'
theorem GS.refl (S : Nat → Prop) (w : World) : GS S w w := GS.of_G (G.refl _ _)
theorem KS.now {S : Nat → Prop} {w : World} {P : World → Prop} (h : KS S w P) : P w := h w (GS.refl _ _)
theorem KS.step {S : Nat → Prop} {w w' : World} {P : World → Prop} (h : KS S w P) (hG : GS S w w') : KS S w' P := fun _ hg => h _ (hG.trans hg)
theorem KS.and {S : Nat → Prop} {w : World} {P Q : World → Prop} (h : KS S w P) (k : KS S w Q) : KS S w (fun w => P w ∧ Q w) := fun w' hg => ⟨h w' hg, k w' hg⟩
theorem KS.bk {S : Nat → Prop} {w : World} {g : Nat} {T : TypeId} {cs : Array Value} (h : Bk w g T cs) (hg : ¬ S g) : KS S w (fun w => Bk w g T cs) := fun _ hG => h.gs hG hg
theorem KS.rd {S : Nat → Prop} {w : World} {z n : Nat} {v : Value} {cs : List Value} (h : Rd w z v n cs) (hb : ∀ k, v.ownBlock = some k → ¬ S k) : KS S w (fun w => Rd w z v n cs) := fun _ hG => h.gs hG hb
/-- The stream's block, and what was made since. -/
def Snew (s N : Nat) (k : Nat) : Prop := k = s ∨ N ≤ k
theorem GS.stream {s N : Nat} {w w' : World} (h : G w w' (some s)) : GS (Snew s N) w w' := GS.of_Gs h (.inl rfl)
theorem GS.row {s N : Nat} {w : World} {g : Nat} (hg : N ≤ g) (cs : Array Value) : GS (Snew s N) w (w.setRow g cs) := GS.of_Gs ((G.refl w (some g)).setRow (.inr rfl) cs) (.inr hg)
theorem GS.cell {s N : Nat} {w : World} {p : Addr} (hg : N ≤ p.block) (u : Value) : GS (Snew s N) w (w.setCell p u) := GS.of_Gs ((G.refl w (some p.block)).setCell (.inr rfl) u) (.inr hg)
/-- The stream alone was there, of what was written. -/
theorem GS.toG {s N : Nat} {A a b : World} (hA : G A a (some s)) (h : GS (Snew s N) a b) (hN : A.heap.size ≤ N) : G A b (some s) :=
  ⟨h.os.trans hA.os, h.tape.trans hA.tape, h.output.trans hA.output, Nat.le_trans hA.size h.size, fun k hk hne => (h.block k (Nat.lt_of_lt_of_le hk hA.size) (fun e => by
    rcases e with e | e
    · exact hne (by rw [e])
    · omega)).trans (hA.block k hk hne)⟩
theorem SB.gs {s N K : Nat} {w w' : World} (h : SB w s K) (hg : G w w' none) : SB w' s K := h.quiet hg
end Go.Proofs.YtdcofbciebkfkaaDoor

/- Hires that a generator keeps in a variable. -/
namespace Go.Proofs.YtdcofbciebkfkaaDoor
open Go.RowKit

/-- A fact that stands while nothing but the stream's block is written. -/
def Kp (s : Nat) (w : World) (P : World → Prop) : Prop := ∀ w', G w w' (some s) → P w'
theorem Kp.now {s : Nat} {w : World} {P : World → Prop} (h : Kp s w P) : P w := h w (G.refl _ _)
theorem Kp.step {s : Nat} {w w' : World} {P : World → Prop} (h : Kp s w P) (hG : G w w' (some s)) : Kp s w' P := fun _ hg => h _ (hG.trans hg)
theorem Kp.quiet {s : Nat} {w w' : World} {P : World → Prop} (h : Kp s w P) (hG : G w w' none) : Kp s w' P := h.step (hG.but _)
theorem Kp.and {s : Nat} {w : World} {P Q : World → Prop} (h : Kp s w P) (k : Kp s w Q) : Kp s w (fun w => P w ∧ Q w) := fun w' hg => ⟨h w' hg, k w' hg⟩
theorem Kp.bk {s : Nat} {w : World} {g : Nat} {T : TypeId} {cs : Array Value} (h : Bk w g T cs) (hg : s < g) : Kp s w (fun w => Bk w g T cs) := fun _ hG => h.grown hG (fun e => by have := Option.some.inj e; omega)
theorem Kp.rd {s : Nat} {w : World} {z n : Nat} {v : Value} {cs : List Value} (h : Rd w z v n cs) (hb : ∀ k, v.ownBlock = some k → s < k) : Kp s w (fun w => Rd w z v n cs) := fun _ hG => h.grown hG (fun k e hk => by cases e; have := hb _ hk; omega)
/-- A list that was just made. -/
theorem Kp.made {s : Nat} {w : World} (n : Nat) (T : TypeId) (cs : Array Value) (hc : cs.size = n * 1) (hn : n ≤ maxLen) (hs : s < w.heap.size) : Kp s (w.alloc (.cells cs T)) (fun w' => Rd w' 1 (.slice (some ⟨w.heap.size, 0, none⟩) n n) n cs.toList) :=
  Kp.rd (Rd.new cs hc hn) (fun k e => by cases e; exact hs)
theorem SB.ne {w : World} {s K g n c : Nat} (_ : SB w s K) (hg : s < g) : (Value.slice (some ⟨g, 0, none⟩) n c).ownBlock ≠ some s := fun e => by
  have : g = s := Option.some.inj e
  omega
/-- A hire that is right, and small. -/
def HOk (H : Hh) (l : List Lg) : Prop := hiE H l = 0 ∧ LgOk l ∧ Small H.1 ∧ Small H.2.1 ∧ bnd H.2.2.1 ∧ bnd H.2.2.2
theorem HOk.len {H : Hh} {l : List Lg} (h : HOk H l) : 0 < l.length ∧ l.length ≤ 20 := hiE_pos h.1
/-- A variable holds a hire; what it holds was made since. -/
def HV (N g x : Nat) (H : Hh) (l : List Lg) (w : World) : Prop :=
  ∃ a c, Bk w g 33 (hiC H (.slice a l.length c)) ∧ RdR w 9 lgC (.slice a l.length c) l ∧ (∀ k, (Value.slice a l.length c).ownBlock = some k → N ≤ k ∧ k ≠ g ∧ k ≠ x) ∧ N ≤ g
theorem HV.ks {N g x s : Nat} {H : Hh} {l : List Lg} {w : World} (h : HV N g x H l w) (hs : s < N) : KS (Snew s w.heap.size) w (HV N g x H l) := by
  obtain ⟨a, c, q1, q2, q3, q4⟩ := h
  intro w' hg
  refine ⟨a, c, q1.gs hg ?_, q2.gs hg ?_, q3, q4⟩
  · rintro (e | e)
    · omega
    · have := q1.lt; omega
  · rintro k hk (e | e)
    · have := q3 k hk; omega
    · have := Rd.blk q2 k hk; omega
theorem KS.old {s g : Nat} {T : TypeId} {cs : Array Value} {w : World} (h : Bk w g T cs) (hs : s < g) : KS (Snew s w.heap.size) w (fun w => Bk w g T cs) := KS.bk h (by
  rintro (e | e)
  · omega
  · have := h.lt; omega)
theorem hv_leaf {E : Int} {H' h : Hh} {l : List Lg} {a : Option Addr} {n c N g x : Nat} {w : World} (hE : E = 0 → hiE h l = 0) (hHH : H' = hiH E h) (hR : RdR w 9 lgC (.slice a n c) (hiL E l)) (hB : Bk w g 33 #[.string H'.1, .string H'.2.1, .int .i64 H'.2.2.1, .int .i64 H'.2.2.2, .slice a n c])
    (hb : ∀ k, (Value.slice a n c).ownBlock = some k → N ≤ k ∧ k ≠ g ∧ k ≠ x) (hg : N ≤ g) (hl : LgOk l) (s1 : Small h.1) (s2 : Small h.2.1) (b1 : bnd h.2.2.1) (b2 : bnd h.2.2.2) : E = 0 → HOk h l ∧ HV N g x h l w := by
  intro e
  subst e
  obtain rfl : H' = h := hHH
  have hR : RdR w 9 lgC (.slice a n c) l := hR
  obtain ⟨a', c', hv, -, -⟩ := RdR.form hR
  cases hv
  exact ⟨⟨hE rfl, hl, s1, s2, b1, b2⟩, a, c, hB, hR, hb, hg⟩
theorem chR_ok {l : List Lg} {h2 : Hh} {l2 : List Lg} (e : chR l h2 l2 = 0) : hiE h2 l2 = 0 := by
  unfold chR at e
  split at e
  · exact e
  · cases e
def RhPost (s K : Nat) (w : World) (e : Ending) (w' : World) : Prop :=
  ∃ (H : Hh) (l : List Lg) (a : Option Addr) (c : Nat), e = .returned (.agg (hiC H (.slice a l.length c))) ∧ HOk H l ∧ RdR w' 9 lgC (.slice a l.length c) l ∧ (∀ k, (Value.slice a l.length c).ownBlock = some k → w.heap.size ≤ k) ∧ SB w' s (K + 700) ∧ G w w' (some s)
/-- The hire that begins at a moment, whatever its key. -/
theorem fall_ok {key : ByteArray} {f : Int} (hk : keyB key = true) (h0 : 0 ≤ f) (h1 : f ≤ 1000000) : hiE (key, ⟨#[97, 110, 110]⟩, f, f + 60) [(⟨#[118, 49]⟩, (f, ⟨#[115, 49]⟩, 0, 0), noIn)] = 0 := by
  have k1 : keyB ⟨#[97, 110, 110]⟩ = true := by decide +kernel
  have k2 : keyB ⟨#[118, 49]⟩ = true := by decide +kernel
  have k3 : keyB ⟨#[115, 49]⟩ = true := by decide +kernel
  have k4 : tE f (f + 60) = 0 := by
    unfold tE
    rw [if_pos (by omega), if_neg (by omega)]
  have k5 : momB f = true := by simp [momB]; omega
  have k6 : rgE (f, ⟨#[115, 49]⟩, 0, 0) = 0 := by
    unfold rgE
    rw [if_neg (by show ¬ momB f = false; rw [k5]; simp), if_neg (by show ¬ keyB ⟨#[115, 49]⟩ = false; rw [k3]; simp), if_neg (by show ¬ inB 0 0 999999 = false; decide), if_neg (by show ¬ inB 0 0 8 = false; decide)]
  unfold hiE
  rw [if_neg (by show ¬ keyB key = false; rw [hk]; simp), if_neg (by show ¬ keyB ⟨#[97, 110, 110]⟩ = false; rw [k1]; simp), if_pos k4, if_neg (by simp), if_neg (by simp)]
  unfold lsE lgE
  rw [if_pos]
  · rfl
  · rw [if_neg (by show ¬ keyB ⟨#[118, 49]⟩ = false; rw [k2]; simp), if_pos (show rgE (f, ⟨#[115, 49]⟩, 0, 0) = 0 from k6), if_pos (show beE f none (⟨#[118, 49]⟩, (f, ⟨#[115, 49]⟩, 0, 0), noIn) = 0 from if_pos rfl)]
    rfl
end Go.Proofs.YtdcofbciebkfkaaDoor
