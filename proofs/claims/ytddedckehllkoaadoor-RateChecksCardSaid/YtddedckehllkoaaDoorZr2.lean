/- PrB, PrC, PrD, PrE, PrF, Fee, Rat, Rac, Rae, Feg, Feb, Feo, Exq. -/
import Derived.Test.YtddedckehllkoaaDoorZr1
import Derived.Laws.AppendOwn
import Derived.Laws.ResultCell
import Derived.LaidEqlPtr
import Derived.Deep.MidRow
import Derived.Deep.RegionHeld3
import Derived.IntWalk
/- The law's own 'priced': the stay of one rental day. -/
namespace Go.Proofs.YtddedckehllkoaaDoor
open Go.RowKit

/-- One season, at the rate's block. -/
def Se (w : World) (v : Value) (b : Nat) : Prop := ∃ g cap, v = .slice (some ⟨g, 0, none⟩) 1 cap ∧ 1 ≤ cap ∧ cap ≤ maxLen ∧ g < w.heap.size ∧ w.cell? ⟨g, 0, none⟩ = some (.pointer (some ⟨b, 0, none⟩))
theorem Se.quiet {w w' : World} {v : Value} {b : Nat} (h : Se w v b) (hG : G w w' none) : Se w' v b := by
  obtain ⟨g, cap, rfl, h1, h2, h3, h4⟩ := h
  exact ⟨g, cap, rfl, h1, h2, Nat.lt_of_lt_of_le h3 hG.size, ((gcell hG).1 g _ h3).trans h4⟩
theorem sp_row : (Tryd.prog.info? 118).map (fun i => (i.zero, i.size, i.bytes)) = some (some (.pointer none), 1, 8) := by kernel_rfl
/-- An address appended to nothing. -/
theorem wp_append_sp {w : World} {o : Oper} {a : Act} {K : Act → World → Prop} {Q : Exit → Act → World → Prop} (s x : Operand)
    (ho : o.op = .call { callee := .builtin .append, args := #[s, x], argTypes := #[177, 177] }) (hs : a.eval s = .slice none 0 0)
    (g b : Nat) (hx : a.eval x = .slice (some ⟨g, 0, none⟩) 1 1) (hb : Bk w g 118 #[.pointer (some ⟨b, 0, none⟩)])
    (hK : ∀ v' w', Se w' v' b → (∀ g, v'.ownBlock = some g → w.heap.size ≤ g) → G w w' none → K (a.put o.dst v') w') : o.wp Tryd.prog a w K Q := by
  obtain ⟨i0, hi, hz0, hz1, hz2⟩ := info_parts sp_row
  refine wp_append_own w s x 177 ho w.heap.size 118 i0 _ 1 8 Tryd.underlying177 hi hz0 hz1 hz2 rfl (by decide) (.slice none 0 0) 0 [] hs (World.ownsRow_nil _ _ _ _) ⟨g, 0, none⟩ 1 1 [.pointer (some ⟨b, 0, none⟩)] hx rfl hb.at_ (by simp [Value.oneCell']) (by unfold maxLen; omega) (by omega) (Nat.le_refl _) ?_
  intro v w7 hown hgrow _
  refine hK v w7 ?_ (fun g e => (World.ownsRow.lt hown g e).1) hgrow
  obtain ⟨o1, o2⟩ := hown
  rcases o2 with ⟨_, o3⟩ | ⟨g, cap, cur, rfl, k1, k2, k3, k4, k5, k6⟩
  · omega
  · refine ⟨g, cap, rfl, by omega, k4, (Array.getElem?_eq_some_iff.1 k2).1, ?_⟩
    rw [cell_of_row w7 g 0 cur _ _ k2]
    have := congrArg (fun l : List Value => l[0]?) k6
    simpa using this
abbrev syC (v : Value) : Array Value := #[.int .i64 0, .int .i64 60, v]
theorem sy_info (v : Value) : (Tryd.prog.info? 179).map (·.size) = some (syC v).size := (by kernel_rfl : (Tryd.prog.info? 179).map (·.size) = some 3)
set_option maxRecDepth 100000 in
set_option maxHeartbeats 4000000 in
theorem stayOf1_c (w : World) (b : Nat) (h : Rt w b) : Calls Tryd.prog 116 #[.slice (some ⟨b, 0, none⟩) 1 1, .string ⟨#[99]⟩, .agg #[.int .i64 0, .int .i64 60]] w fun e w' => ∃ v, e = .returned (.agg (syC v)) ∧ Se w' v b ∧ G w w' none := by
  go_enter Tryd.func116, Tryd.ntmps116
  go_wp2_with fail
  refine wp_loop_rounds 2 ?_
  rw [rounds_succ]
  go_wp2_with fail
  have hB0 : Bk (((w.alloc (.cells #[.int .i64 0, .int .i64 60] 29)).alloc (.cells #[.int .i64 0, .int .i64 0, .slice none 0 0] 179)).alloc (.cells #[.int .i64 0, .int .i64 60, .slice none 0 0] 179)) w.heap.size 29 #[.int .i64 0, .int .i64 60] := ((Bk.new w _ _).alloc _).alloc _
  have hB1 : Bk (((w.alloc (.cells #[.int .i64 0, .int .i64 60] 29)).alloc (.cells #[.int .i64 0, .int .i64 0, .slice none 0 0] 179)).alloc (.cells #[.int .i64 0, .int .i64 60, .slice none 0 0] 179)) (w.heap.size + 1) 179 #[.int .i64 0, .int .i64 0, .slice none 0 0] := (Bk.newAt (by simp) _ _).alloc _
  have hB2 : Bk (((w.alloc (.cells #[.int .i64 0, .int .i64 60] 29)).alloc (.cells #[.int .i64 0, .int .i64 0, .slice none 0 0] 179)).alloc (.cells #[.int .i64 0, .int .i64 60, .slice none 0 0] 179)) (w.heap.size + 1 + 1) 179 #[.int .i64 0, .int .i64 60, .slice none 0 0] := Bk.newAt (by simp) _ _
  have hR : Rt (((w.alloc (.cells #[.int .i64 0, .int .i64 60] 29)).alloc (.cells #[.int .i64 0, .int .i64 0, .slice none 0 0] 179)).alloc (.cells #[.int .i64 0, .int .i64 60, .slice none 0 0] 179)) b := ((h.alloc _).alloc _).alloc _
  have hG : G w (((w.alloc (.cells #[.int .i64 0, .int .i64 60] 29)).alloc (.cells #[.int .i64 0, .int .i64 0, .slice none 0 0] 179)).alloc (.cells #[.int .i64 0, .int .i64 60, .slice none 0 0] 179)) none := (((G.refl w none).alloc _).alloc _).alloc _
  generalize (((w.alloc (.cells #[.int .i64 0, .int .i64 60] 29)).alloc (.cells #[.int .i64 0, .int .i64 0, .slice none 0 0] 179)).alloc (.cells #[.int .i64 0, .int .i64 60, .slice none 0 0] 179)) = w3 at hB0 hB1 hB2 hR hG ⊢
  obtain ⟨g0, hg0⟩ : ∃ g, w.heap.size = g := ⟨_, rfl⟩
  have hg1 : w.heap.size + 1 = g0 + 1 := by omega
  have hg2 : w.heap.size + 1 + 1 = g0 + 1 + 1 := by omega
  rw [hg0] at hB0 hB1 hB2 ⊢
  obtain ⟨g1, h1⟩ : ∃ g, g0 + 1 = g := ⟨_, rfl⟩
  rw [h1] at hB1 hB2 ⊢
  obtain ⟨g2, h2⟩ : ∃ g, g1 + 1 = g := ⟨_, rfl⟩
  rw [h2] at hB2 ⊢
  refine wp_region_any (by kernel_rfl) ?_
  change wpAny _ _ _ _ _ _ _ (World.drew _)
  have hB0 := hB0.quiet ((G.refl w3 none).drew)
  have hB1 := hB1.quiet ((G.refl w3 none).drew)
  have hB2 := hB2.quiet ((G.refl w3 none).drew)
  have hR := hR.quiet ((G.refl w3 none).drew)
  have hG := hG.drew
  generalize w3.drew = w4 at hB0 hB1 hB2 hR hG ⊢
  have hc2 : w4.cell? ⟨g2, 2, none⟩ = some (.slice none 0 0) := hB2.cell 2
  have hw0 : IntKind.i64.wrap 0 = 0 := by rw [IntKind.wrap_i64]; omega
  refine wpAny_of_K (S := fun w' => w'.cell? ⟨g2, 2, none⟩ = some (.slice none 0 0)) (k := 10) _ _ _ _ ?_
  refine wpAnyK_take (i := 0) (v := .pointer (some ⟨g2, 2, none⟩)) rfl (by decide) (by kernel_rfl) (by kernel_rfl) (by kernel_rfl) (fun _ _ _ h => h) (Or.inl ⟨by rfl, fun w _ => by go_simp⟩) hc2 ?_
  refine wpAnyK_load (i := 1) (v := .slice none 0 0) rfl (by decide) (by kernel_rfl) (by kernel_rfl) (by kernel_rfl) (by kernel_rfl) (by kernel_rfl) (fun _ _ _ h => h) (Or.inl ⟨by rfl, fun w hw => by have hw := hw; go_simp⟩) hc2 ?_
  refine wpAnyK_take (i := 2) (v := .slice (some ⟨b, 0, none⟩) 1 1) rfl (by decide) (by kernel_rfl) (by kernel_rfl) (by kernel_rfl) (fun _ _ _ h => h) (Or.inl ⟨by rfl, fun w _ => by go_simp⟩) hc2 ?_
  refine wpAnyK_take (i := 3) (v := .string ⟨#[99]⟩) rfl (by decide) (by kernel_rfl) (by kernel_rfl) (by kernel_rfl) (fun _ _ _ h => h) (Or.inl ⟨by rfl, fun w _ => by go_simp⟩) hc2 ?_
  refine wpAnyK_take (i := 4) (v := .int .i64 0) rfl (by decide) (by kernel_rfl) (by kernel_rfl) (by kernel_rfl) (fun _ _ _ h => h) (Or.inl ⟨by rfl, fun w _ => by go_simp⟩) hc2 ?_
  refine wpAnyK_take (i := 5) (v := .int .i64 0) rfl (by decide) (by kernel_rfl) (by kernel_rfl) (by kernel_rfl) (fun _ _ _ h => h) (Or.inl ⟨by rfl, fun w _ => by go_simp⟩) hc2 ?_
  refine k_one (i := 6) (by kernel_rfl) rfl fun K' hK => ?_
  refine st_call rfl (f := 82) (args := #[.slice (some ⟨b, 0, none⟩) 1 1, .string ⟨#[99]⟩, .int .i64 0]) (w1 := w4) (by go_simp) ?_
  refine (seasonOn1_c w4 b hR).mono ?_; rintro e w5 ⟨rfl, hG5⟩
  have hc5 : w5.cell? ⟨g2, 2, none⟩ = some (.slice none 0 0) := (hB2.quiet hG5).cell 2
  refine ⟨_, rfl, hK _ _ (fun _ => hc5) ?_⟩
  clear hK K'
  have hB0 := hB0.quiet hG5
  have hB1 := hB1.quiet hG5
  have hB2 := hB2.quiet hG5
  have hG := hG.trans hG5
  clear hG5 hR hc2
  refine k_one (i := 7) (by kernel_rfl) rfl fun K' hK => ?_
  refine st_val rfl (v := .slice (some ⟨w5.heap.size, 0, none⟩) 1 1) (w' := w5.alloc (.cells #[.pointer (some ⟨b, 0, none⟩)] 118)) (by go_simp) ?_
  refine hK _ _ (fun _ => (hB2.alloc _).cell 2) ?_
  clear hK K'
  have hP := Bk.new w5 118 #[.pointer (some ⟨b, 0, none⟩)]
  have hB0 := hB0.alloc (.cells #[.pointer (some ⟨b, 0, none⟩)] 118)
  have hB1 := hB1.alloc (.cells #[.pointer (some ⟨b, 0, none⟩)] 118)
  have hB2 := hB2.alloc (.cells #[.pointer (some ⟨b, 0, none⟩)] 118)
  have hG := hG.alloc (.cells #[.pointer (some ⟨b, 0, none⟩)] 118)
  clear hc5
  obtain ⟨g5, hg5⟩ : ∃ g, w5.heap.size = g := ⟨_, rfl⟩
  rw [hg5] at hP ⊢
  generalize w5.alloc (.cells #[.pointer (some ⟨b, 0, none⟩)] 118) = w6 at hP hB0 hB1 hB2 hG ⊢
  clear hg5
  have hl2 := hB2.lt
  refine k_one (i := 8) (by kernel_rfl) rfl fun K' hK => ?_
  refine st_wp rfl (wp_append_sp (.tmp 20) (.tmp 26) rfl (by go_simp) g5 b (by go_simp) hP fun v w7 hSe hvne hG7 => ?_)
  refine hK _ _ (fun _ => (hB2.quiet hG7).cell 2) ?_
  clear hK K'
  have hB0 := hB0.quiet hG7
  have hB1 := hB1.quiet hG7
  have hB2 := hB2.quiet hG7
  have hG := hG.trans hG7
  clear hP hG7
  refine wpAnyK_take (i := 9) (v := .pointer (some ⟨g2, 2, none⟩)) rfl (by decide) (by kernel_rfl) (by kernel_rfl) (by kernel_rfl) (fun _ _ _ h => h) (Or.inl ⟨by rfl, fun w _ => by go_simp⟩) (hB2.cell 2) ?_
  obtain ⟨gs, cap, rfl, q1, q2, q3, q4⟩ := hSe
  have hc1 := hB2.cell 2
  rw [show (#[Value.int .i64 0, .int .i64 60, .slice none 0 0] : Array Value)[2]? = some (.slice none 0 0) from rfl] at hc1
  have hf1 := hB2.free 2
  refine k_one (i := 10) (by kernel_rfl) rfl fun K' hK => ?_
  rw [if_pos (by rfl)]
  go_simp
  refine hK _ _ (fun h => absurd rfl h) ?_
  clear hK K' hc1 hf1
  refine wpAnyK_of_any _ _ _ _ (by kernel_rfl) ?_
  refine wpAny_done (by kernel_rfl) ?_ _
  have hne1 : gs ≠ g1 := by have := hvne gs rfl; omega
  have hne : ∀ g, (Value.slice (some ⟨gs, 0, none⟩) 1 cap).ownBlock = some g → g ≠ g2 := fun g e => by have := hvne g e; omega
  have hSe8 : Se (w7.setCell ⟨g2, 2, none⟩ (.slice (some ⟨gs, 0, none⟩) 1 cap)) (.slice (some ⟨gs, 0, none⟩) 1 cap) b := by
    refine ⟨gs, cap, rfl, q1, q2, by simpa [World.setCell] using q3, ?_⟩
    rw [← q4]
    exact World.cell?_of_block (w := w7) (Below.heap_setCell _ _ _ _ (hne gs rfl))
  have hB0 := hB0.far (p := ⟨g2, 2, none⟩) (by show g0 ≠ g2; omega) (.slice (some ⟨gs, 0, none⟩) 1 cap)
  have hB1 := hB1.far (p := ⟨g2, 2, none⟩) (by show g1 ≠ g2; omega) (.slice (some ⟨gs, 0, none⟩) 1 cap)
  have hB2 : Bk (w7.setCell ⟨g2, 2, none⟩ (.slice (some ⟨gs, 0, none⟩) 1 cap)) g2 179 #[.int .i64 0, .int .i64 60, .slice (some ⟨gs, 0, none⟩) 1 cap] := hB2.set 2 (.slice (some ⟨gs, 0, none⟩) 1 cap)
  have hG := hG.setCell (p := ⟨g2, 2, none⟩) (.inl (by show w.heap.size ≤ g2; omega)) (.slice (some ⟨gs, 0, none⟩) 1 cap)
  clear q3 q4 hvne hl2
  generalize w7.setCell ⟨g2, 2, none⟩ (.slice (some ⟨gs, 0, none⟩) 1 cap) = w8 at hSe8 hB0 hB1 hB2 hG ⊢
  have c1 := hB0.cell 1
  rw [show (#[Value.int .i64 0, .int .i64 60] : Array Value)[1]? = some (.int .i64 60) from rfl] at c1
  go_wp2_with fail
  rw [rounds_succ]
  go_wp2_with (first | (refine wpList_load_row rfl 179 _ rfl g2 rfl 179 #[.int .i64 0, .int .i64 60, .slice (some ⟨gs, 0, none⟩) 1 cap] (0, 0) _ hB2 Tryd.underlying179 rfl (sy_info _) ?_) | (refine wpList_store_row rfl 179 _ _ rfl g1 #[.int .i64 0, .int .i64 60, .slice (some ⟨gs, 0, none⟩) 1 cap] rfl rfl 179 _ hB1 (sy_info _) rfl (by simp [Value.oneCell']) ?_))
  refine bodyPost_ret (results_cell_row rfl _ _ g1 179 (syC (.slice (some ⟨gs, 0, none⟩) 1 cap)) (0, 0) _ rfl (hB1.setRow _) Tryd.underlying179 rfl (sy_info _)) rfl ?_
  refine ⟨_, rfl, ?_, hG.setRow (.inl (by omega)) _⟩
  obtain ⟨g', cap', e', q1', q2', q3', q4'⟩ := hSe8
  obtain ⟨rfl, rfl⟩ : gs = g' ∧ cap = cap' := by cases e'; exact ⟨rfl, rfl⟩
  refine ⟨gs, cap, rfl, q1', q2', by simpa using q3', ?_⟩
  rw [← q4']
  exact World.cell?_of_block (w := w8) (setRow_other w8 g1 gs _ hne1)
end Go.Proofs.YtddedckehllkoaaDoor

/- The law's own 'priced': what a stay of one rental day tells. -/
namespace Go.Proofs.YtddedckehllkoaaDoor
open Go.RowKit

theorem run_neq_ptr_same {P : Program} (w : World) {tp te : TypeId} {j : TypeInfo} (a : Addr) (hp : P.underlying tp = some (.pointer te)) (hte : P.info? te = some j) :
    (binOp .neq tp (.pointer (some a)) (.pointer (some a))).run P w = .ok (.bool false) w := by
  have h : ∀ d : Nat, (Op.equalIn (d + 1) tp (.pointer (some a)) (.pointer (some a))).run P w = .ok true w := fun d => by
    simp [Op.equalIn, run_underlying hp, sizeOf, typeInfo, hte, run_sameAddr_same]
  simp only [binOp]
  simp [Op.equal, Op.maxDepth, h 9999]
set_option maxRecDepth 100000 in
theorem stDays1_c (v : Value) (b : Nat) (w : World) (h : Se w v b) : Calls Tryd.prog 118 #[.agg (syC v)] w fun e w' => e = .returned (.int .i64 1) ∧ G w w' none := by
  obtain ⟨g, cap, rfl, q1, q2, q3, q4⟩ := h
  go_enter Tryd.func118, Tryd.ntmps118
  go_wp2_with fail
  go_ret
  exact ⟨rfl, (G.refl _ _).alloc _⟩
set_option maxRecDepth 100000 in
theorem begins0_c (v : Value) (w : World) : Calls Tryd.prog 151 #[.agg (syC v), .int .i64 0] w fun e w' => e = .returned (.int .i64 0) ∧ G w w' none := by
  go_enter Tryd.func151, Tryd.ntmps151
  go_wp2_with fail
  go_ret
  exact ⟨rfl, (G.refl _ _).alloc _⟩
set_option maxRecDepth 100000 in
theorem begins1_c (v : Value) (w : World) : Calls Tryd.prog 151 #[.agg (syC v), .int .i64 1] w fun e w' => e = .returned (.int .i64 1440) ∧ G w w' none := by
  go_enter Tryd.func151, Tryd.ntmps151
  go_wp2_with fail
  go_ret
  exact ⟨rfl, (G.refl _ _).alloc _⟩
set_option maxRecDepth 100000 in
set_option maxHeartbeats 1000000 in
theorem ends1_c (v : Value) (w : World) : Calls Tryd.prog 150 #[.agg (syC v), .int .i64 0] w fun e w' => e = .returned (.int .i64 60) ∧ G w w' none := by
  have hB := Bk.new w 179 (syC v)
  have hG := (G.refl w none).alloc (.cells (syC v) 179)
  have hw1 : IntKind.i64.wrap (0 + 1) = 1 := by rw [IntKind.wrap_i64]; omega
  have hw2 : IntKind.i64.wrap 1 = 1 := by rw [IntKind.wrap_i64]; omega
  go_enter Tryd.func150, Tryd.ntmps150
  go_wp2_with fail
  have hgl := hB.lt
  generalize w.alloc (.cells (syC v) 179) = w3 at hB hG hgl ⊢
  generalize w.heap.size = g at hB hgl ⊢
  have c0 : w3.cell? ⟨g, 0, none⟩ = some (.int .i64 0) := hB.cell 0
  have c1 : w3.cell? ⟨g, 1, none⟩ = some (.int .i64 60) := hB.cell 1
  have c2 : w3.cell? ⟨g, 2, none⟩ = some v := hB.cell 2
  go_region_held3 (fun w' => w'.cell? ⟨g, 0, none⟩ = some (.int .i64 0) ∧ w'.cell? ⟨g, 1, none⟩ = some (.int .i64 60) ∧ w'.cell? ⟨g, 2, none⟩ = some v) (first | exact ⟨c0, c1, c2⟩ | exact hS | go_keep) (first | (go_at_call 151; refine (begins1_c v _).mono ?_; rintro e w4 ⟨rfl, hG4⟩; have hG04 := hG.drew.trans hG4; have hB4 := (hB.quiet ((G.refl w3 none).drew)).quiet hG4; have hS : w4.cell? ⟨g, 0, none⟩ = some (.int .i64 0) ∧ w4.cell? ⟨g, 1, none⟩ = some (.int .i64 60) ∧ w4.cell? ⟨g, 2, none⟩ = some v := ⟨hB4.cell 0, hB4.cell 1, hB4.cell 2⟩))
  go_wp2_with fail
  go_ret
  exact ⟨rfl, hG04⟩
set_option maxRecDepth 100000 in
set_option maxHeartbeats 4000000 in
theorem weekendDays1_c (v : Value) (b : Nat) (w : World) (h : Se w v b) : Calls Tryd.prog 152 #[.agg (syC v), .int .i64 0] w fun e w' => e = .returned (.int .i64 1) ∧ G w w' none := by
  have h' := h
  obtain ⟨gs, cap, rfl, _, _, _, _⟩ := h'
  have hB := Bk.new w 179 (syC (.slice (some ⟨gs, 0, none⟩) 1 cap))
  have hG := (G.refl w none).alloc (.cells (syC (.slice (some ⟨gs, 0, none⟩) 1 cap)) 179)
  have hS := h.quiet hG
  go_enter Tryd.func152, Tryd.ntmps152
  go_wp2_with fail
  refine (begins0_c _ _).mono ?_; rintro e w1 ⟨rfl, hG1⟩
  have hB1 := hB.quiet hG1
  have hS1 := hS.quiet hG1
  have hG01 := hG.trans hG1
  clear hB hS hG hG1
  have d0 : w1.cell? ⟨w.heap.size, 0, none⟩ = some (.int .i64 0) := hB1.cell 0
  have d1 : w1.cell? ⟨w.heap.size, 1, none⟩ = some (.int .i64 60) := hB1.cell 1
  have d2 : w1.cell? ⟨w.heap.size, 2, none⟩ = some (.slice (some ⟨gs, 0, none⟩) 1 cap) := hB1.cell 2
  go_wp2_with fail
  refine (begins0_c _ _).mono ?_; rintro e w2 ⟨rfl, hG2⟩
  have hB2 := hB1.quiet hG2
  have hS2 := hS1.quiet hG2
  have hG02 := hG01.trans hG2
  clear hB1 hS1 hG01 hG2 d0 d1 d2
  have d0 : w2.cell? ⟨w.heap.size, 0, none⟩ = some (.int .i64 0) := hB2.cell 0
  have d1 : w2.cell? ⟨w.heap.size, 1, none⟩ = some (.int .i64 60) := hB2.cell 1
  have d2 : w2.cell? ⟨w.heap.size, 2, none⟩ = some (.slice (some ⟨gs, 0, none⟩) 1 cap) := hB2.cell 2
  go_wp2_with fail
  refine wp_loop_rounds 2 ?_
  rw [rounds_succ]
  go_wp2_with fail
  refine (stDays1_c _ b _ hS2).mono ?_; rintro e w3 ⟨rfl, hG3⟩
  have hB3 := hB2.quiet hG3
  have hS3 := hS2.quiet hG3
  have hG03 := hG02.trans hG3
  clear hB2 hS2 hG02 hG3 d0 d1 d2
  have d0 : w3.cell? ⟨w.heap.size, 0, none⟩ = some (.int .i64 0) := hB3.cell 0
  have d1 : w3.cell? ⟨w.heap.size, 1, none⟩ = some (.int .i64 60) := hB3.cell 1
  have d2 : w3.cell? ⟨w.heap.size, 2, none⟩ = some (.slice (some ⟨gs, 0, none⟩) 1 cap) := hB3.cell 2
  have hS3' := hS3
  obtain ⟨g', cap', e', q1, q2, q3, q4⟩ := hS3'
  obtain ⟨rfl, rfl⟩ : gs = g' ∧ cap = cap' := by cases e'; exact ⟨rfl, rfl⟩
  go_wp2_with fail
  refine (ends1_c _ _).mono ?_; rintro e w4 ⟨rfl, hG4⟩
  have hB4 := hB3.quiet hG4
  have hS4 := hS3.quiet hG4
  have hG04 := hG03.trans hG4
  clear hB3 hS3 hG03 hG4 d0 d1 d2 q3 q4
  have d0 : w4.cell? ⟨w.heap.size, 0, none⟩ = some (.int .i64 0) := hB4.cell 0
  have d1 : w4.cell? ⟨w.heap.size, 1, none⟩ = some (.int .i64 60) := hB4.cell 1
  have d2 : w4.cell? ⟨w.heap.size, 2, none⟩ = some (.slice (some ⟨gs, 0, none⟩) 1 cap) := hB4.cell 2
  go_wp2_with fail
  rw [rounds_succ]
  go_wp2_with fail
  refine (stDays1_c _ b _ hS4).mono ?_; rintro e w5 ⟨rfl, hG5⟩
  go_wp2_with fail
  go_ret
  exact ⟨rfl, hG04.trans hG5⟩
set_option maxRecDepth 100000 in
set_option maxHeartbeats 4000000 in
theorem sameSeason1_c (v : Value) (b : Nat) (w : World) (h : Se w v b) : Calls Tryd.prog 153 #[.agg (syC v), .int .i64 0, .int .i64 1] w fun e w' => e = .returned (.bool true) ∧ G w w' none := by
  obtain ⟨g, cap, rfl, q1, q2, q3, q4⟩ := h
  have hp : (w.alloc (.cells (syC (.slice (some ⟨g, 0, none⟩) 1 cap)) 179)).cell? ⟨g, 0, none⟩ = some (.pointer (some ⟨b, 0, none⟩)) := ((gcell ((G.refl w none).alloc _)).1 g _ q3).trans q4
  have hnp : ∀ w : World, (binOp .neq 118 (.pointer (some ⟨b, 0, none⟩)) (.pointer (some ⟨b, 0, none⟩))).run Tryd.prog w = .ok (.bool false) w := fun w => by
    obtain ⟨j, hj⟩ := Option.isSome_iff_exists.1 (show (Tryd.prog.info? 54).isSome = true by kernel_rfl)
    exact run_neq_ptr_same w _ Tryd.underlying118 hj
  go_enter Tryd.func153, Tryd.ntmps153
  go_wp2_with fail
  refine wp_loop_rounds 2 ?_
  rw [rounds_succ]
  go_wp2_with fail
  rw [rounds_succ]
  go_wp2_with fail
  go_ret
  exact ⟨rfl, (G.refl _ _).alloc _⟩
end Go.Proofs.YtddedckehllkoaaDoor

/- The law's own 'priced': the pieces of a rental day. -/
namespace Go.Proofs.YtddedckehllkoaaDoor
open Go.RowKit

/-- One piece, a day for 7. -/
def Pc (w : World) (v : Value) : Prop := ∃ g cap, v = .slice (some ⟨g, 0, none⟩) 1 cap ∧ 1 ≤ cap ∧ cap ≤ maxLen ∧ g < w.heap.size ∧ w.cell? ⟨g, 0, none⟩ = some (.int .i64 2) ∧ w.cell? ⟨g, 1, none⟩ = some (.int .i64 1) ∧ w.cell? ⟨g, 2, none⟩ = some (.int .i64 7)
theorem Pc.quiet {w w' : World} {v : Value} (h : Pc w v) (hG : G w w' none) : Pc w' v := by
  obtain ⟨g, cap, rfl, h1, h2, h3, h4, h5, h6⟩ := h
  exact ⟨g, cap, rfl, h1, h2, Nat.lt_of_lt_of_le h3 hG.size, ((gcell hG).1 g _ h3).trans h4, ((gcell hG).1 g _ h3).trans h5, ((gcell hG).1 g _ h3).trans h6⟩
abbrev pcC : Array Value := #[.int .i64 2, .int .i64 1, .int .i64 7]
theorem pc_row : (Tryd.prog.info? 128).map (fun i => (i.zero, i.size, i.bytes)) = some (some (.agg #[.int .i64 0, .int .i64 0, .int .i64 0]), 3, 24) := by kernel_rfl
theorem wp_append_pc {w : World} {o : Oper} {a : Act} {K : Act → World → Prop} {Q : Exit → Act → World → Prop} (s x : Operand)
    (ho : o.op = .call { callee := .builtin .append, args := #[s, x], argTypes := #[123, 123] }) (hs : a.eval s = .slice none 0 0)
    (g : Nat) (hx : a.eval x = .slice (some ⟨g, 0, none⟩) 1 1) (hb : Bk w g 128 pcC)
    (hK : ∀ v' w', Pc w' v' → (∀ g, v'.ownBlock = some g → w.heap.size ≤ g) → G w w' none → K (a.put o.dst v') w') : o.wp Tryd.prog a w K Q := by
  obtain ⟨i0, hi, hz0, hz1, hz2⟩ := info_parts pc_row
  refine wp_append_own w s x 123 ho w.heap.size 128 i0 _ 3 24 Tryd.underlying123 hi hz0 hz1 hz2 rfl (by decide) (.slice none 0 0) 0 [] hs (World.ownsRow_nil _ _ _ _) ⟨g, 0, none⟩ 1 1 pcC.toList hx rfl hb.at_ (by simp [Value.oneCell']) (by unfold maxLen; omega) (by omega) (Nat.le_refl _) ?_
  intro v w7 hown hgrow _
  refine hK v w7 ?_ (fun g e => (World.ownsRow.lt hown g e).1) hgrow
  obtain ⟨o1, o2⟩ := hown
  rcases o2 with ⟨_, o3⟩ | ⟨g, cap, cur, rfl, k1, k2, k3, k4, k5, k6⟩
  · omega
  · have hat : ∀ (i : Nat) (u : Value), (pcC.toList)[i]? = some u → w7.cell? ⟨g, i, none⟩ = some u := fun i u hu => by
      rw [cell_of_row w7 g i cur _ _ k2]
      have h1 := congrArg (fun l : List Value => l[i]?) k6
      simp only [List.nil_append] at h1
      rw [hu] at h1
      rw [List.getElem?_take] at h1
      split at h1
      · simpa using h1
      · cases h1
    exact ⟨g, cap, rfl, by omega, k4, (Array.getElem?_eq_some_iff.1 k2).1, hat 0 _ rfl, hat 1 _ rfl, hat 2 _ rfl⟩
set_option maxRecDepth 100000 in
theorem addNo_c (k d t : Int) (g : Nat) (w : World) : Calls Tryd.prog 149 #[.int .i64 k, .int .i64 d, .int .i64 (-1), .int .i64 t, .pointer (some ⟨g, 0, none⟩)] w fun e w' => e = .returned (.tuple #[]) ∧ w = w' := by
  go_enter Tryd.func149, Tryd.ntmps149
  go_wp2_with fail
  go_end0
  exact ⟨rfl, rfl⟩
set_option maxRecDepth 100000 in
set_option maxHeartbeats 2000000 in
theorem addDay_c (g : Nat) (w : World) (hB : Bk w g 123 #[.slice none 0 0]) : Calls Tryd.prog 149 #[.int .i64 2, .int .i64 1, .int .i64 7, .int .i64 1, .pointer (some ⟨g, 0, none⟩)] w fun e w' => ∃ v, e = .returned (.tuple #[]) ∧ Pc w' v ∧ Bk w' g 123 #[v] ∧ G w w' (some g) := by
  have c0 := hB.cell 0
  have f0 := hB.free 0
  have hgl := hB.lt
  rw [show (#[Value.slice none 0 0] : Array Value)[0]? = some (.slice none 0 0) from rfl] at c0
  go_enter Tryd.func149, Tryd.ntmps149
  go_wp2_with (at_builtin; refine wpList_plain rfl fun K' hK' => wp_append_pc _ _ rfl rfl w.heap.size rfl (Bk.newAt rfl _ _) fun v w7 hpc hvne hG7 => ?_; refine hK' _ _ ?_; clear hK'; obtain ⟨gs, cap, rfl, q1, q2, q3, q4, q5, q6⟩ := hpc; have hB7 := (hB.alloc (.cells #[.int .i64 2, .int .i64 1, .int .i64 7] 128)).quiet hG7; have c7 : w7.cell? ⟨g, 0, none⟩ = some (.slice none 0 0) := hB7.cell 0; have f7 := hB7.free 0)
  go_end0
  have hne : gs ≠ g := by have := hvne gs rfl; simp at this; omega
  have hcell : ∀ i, (w7.setCell ⟨g, 0, none⟩ (.slice (some ⟨gs, 0, none⟩) 1 cap)).cell? ⟨gs, i, none⟩ = w7.cell? ⟨gs, i, none⟩ := fun i => World.cell?_of_block (w := w7) (Below.heap_setCell _ _ _ _ hne)
  refine ⟨_, rfl, ⟨gs, cap, rfl, q1, q2, by simpa [World.setCell] using q3, (hcell 0).trans q4, (hcell 1).trans q5, (hcell 2).trans q6⟩, hB7.set 0 _, ?_⟩
  exact (((G.refl w (some g)).alloc _).trans (hG7.but (some g))).setCell (.inr rfl) _
/-- What stands while the pieces of the day are put together. -/
def PInv (w0 : World) (b g g6 : Nat) (v pv : Value) (w : World) : Prop := Bk w g 179 (syC v) ∧ Bk w g6 123 #[pv] ∧ Se w v b ∧ Rt w b ∧ G w0 w none
theorem PInv.quiet {w0 w w' : World} {b g g6 : Nat} {v pv : Value} (h : PInv w0 b g g6 v pv w) (hG : G w w' none) : PInv w0 b g g6 v pv w' :=
  ⟨h.1.quiet hG, h.2.1.quiet hG, h.2.2.1.quiet hG, h.2.2.2.1.quiet hG, h.2.2.2.2.trans hG⟩
set_option maxRecDepth 100000 in
set_option maxHeartbeats 8000000 in
theorem pieces1_c (v : Value) (b : Nat) (w : World) (h : Se w v b) (hR : Rt w b) : Calls Tryd.prog 135 #[.agg (syC v), .int .i64 0] w fun e w' => ∃ p, e = .returned p ∧ Pc w' p ∧ G w w' none := by
  have hmf : ∀ (fn : Go.Fn) (first cap : Array Value) (w : World), (Instr.makeFunc fn first cap).run Tryd.prog w = .ok (.func fn first cap) w := fun _ _ _ _ => rfl
  have h' := h
  obtain ⟨gs, cap, rfl, q1, q2, q3, q4⟩ := h'
  have hcs : (w.alloc (.cells (syC (.slice (some ⟨gs, 0, none⟩) 1 cap)) 179)).cell? ⟨gs, 0, none⟩ = some (.pointer (some ⟨b, 0, none⟩)) := ((gcell ((G.refl w none).alloc _)).1 gs _ q3).trans q4
  have hbl := hR.lt
  go_enter Tryd.func135, Tryd.ntmps135
  go_wp2_with fail
  clear hcs q4
  have hI : PInv w b w.heap.size (w.heap.size + 1) (.slice (some ⟨gs, 0, none⟩) 1 cap) (.slice none 0 0) ((w.alloc (.cells (syC (.slice (some ⟨gs, 0, none⟩) 1 cap)) 179)).alloc (.cells #[.slice none 0 0] 123)) := ⟨(Bk.new w _ _).alloc _, Bk.newAt (by simp) _ _, (h.quiet ((G.refl _ _).alloc _)).quiet ((G.refl _ _).alloc _), (hR.alloc _).alloc _, ((G.refl w none).alloc _).alloc _⟩
  have hg6 : w.heap.size ≤ w.heap.size + 1 := by omega
  have hgs6 : gs ≠ w.heap.size + 1 := by omega
  have hb6 : b ≠ w.heap.size + 1 := by omega
  have hgg6 : w.heap.size ≠ w.heap.size + 1 := by omega
  clear h hR q3 hbl
  generalize ((w.alloc (.cells (syC (.slice (some ⟨gs, 0, none⟩) 1 cap)) 179)).alloc (.cells #[.slice none 0 0] 123)) = w2 at hI ⊢
  generalize w.heap.size + 1 = g6 at hI hg6 hgs6 hb6 hgg6 ⊢
  obtain ⟨g, hg⟩ : ∃ g, w.heap.size = g := ⟨_, rfl⟩
  rw [hg] at hI hg6 hgg6 ⊢
  refine (stDays1_c _ b _ hI.2.2.1).mono ?_; rintro e w3 ⟨rfl, hG3⟩
  have hI := hI.quiet hG3
  have c0 : w3.cell? ⟨g, 0, none⟩ = some (.int .i64 0) := hI.1.cell 0
  have c1 : w3.cell? ⟨g, 1, none⟩ = some (.int .i64 60) := hI.1.cell 1
  have c2 : w3.cell? ⟨g, 2, none⟩ = some (.slice (some ⟨gs, 0, none⟩) 1 cap) := hI.1.cell 2
  have c6 : w3.cell? ⟨g6, 0, none⟩ = some (.slice none 0 0) := hI.2.1.cell 0
  have r3 : w3.cell? ⟨b, 3, none⟩ = some (.int .i64 (-1)) := (hI.2.2.2.1.cell 3).trans rt3
  have r4 : w3.cell? ⟨b, 4, none⟩ = some (.int .i64 7) := (hI.2.2.2.1.cell 4).trans rt4
  have r5 : w3.cell? ⟨b, 5, none⟩ = some (.int .i64 (-1)) := (hI.2.2.2.1.cell 5).trans rt5
  have r6 : w3.cell? ⟨b, 6, none⟩ = some (.int .i64 (-1)) := (hI.2.2.2.1.cell 6).trans rt6
  go_wp2_with fail
  go_region_held3 (fun w' => w'.cell? ⟨b, 3, none⟩ = some (.int .i64 (-1)) ∧ w'.cell? ⟨g, 0, none⟩ = some (.int .i64 0) ∧ w'.cell? ⟨g, 1, none⟩ = some (.int .i64 60) ∧ w'.cell? ⟨g, 2, none⟩ = some (.slice (some ⟨gs, 0, none⟩) 1 cap)) (first | exact ⟨r3, c0, c1, c2⟩ | exact hS5 | exact hS4 | go_keep) (first | (go_at_call 150; refine (ends1_c _ _).mono ?_; rintro e w4 ⟨rfl, hG4⟩; have hI4 := (hI.quiet ((G.refl w3 none).drew)).quiet hG4; have hS4 : w4.cell? ⟨b, 3, none⟩ = some (.int .i64 (-1)) ∧ w4.cell? ⟨g, 0, none⟩ = some (.int .i64 0) ∧ w4.cell? ⟨g, 1, none⟩ = some (.int .i64 60) ∧ w4.cell? ⟨g, 2, none⟩ = some (.slice (some ⟨gs, 0, none⟩) 1 cap) := ⟨(hI4.2.2.2.1.cell 3).trans rt3, hI4.1.cell 0, hI4.1.cell 1, hI4.1.cell 2⟩) | (go_at_call 151; refine (begins0_c _ _).mono ?_; rintro e w5 ⟨rfl, hG5⟩; have hI5 := hI4.quiet hG5; have hS5 : w5.cell? ⟨b, 3, none⟩ = some (.int .i64 (-1)) ∧ w5.cell? ⟨g, 0, none⟩ = some (.int .i64 0) ∧ w5.cell? ⟨g, 1, none⟩ = some (.int .i64 60) ∧ w5.cell? ⟨g, 2, none⟩ = some (.slice (some ⟨gs, 0, none⟩) 1 cap) := ⟨(hI5.2.2.2.1.cell 3).trans rt3, hI5.1.cell 0, hI5.1.cell 1, hI5.1.cell 2⟩) | (go_at_call 80; refine (begun1_c 60 60 _ (by omega) (by omega) (by omega) (by omega)).mono ?_; rintro e w' ⟨rfl, rfl⟩) | (go_at_call 149; refine (addNo_c _ _ _ _ _).mono ?_; rintro e w' ⟨rfl, rfl⟩))
  clear c0 c1 c2 c6 r3 r4 r5 r6
  have hI := hI5
  clear hI4 hI5 hS4 hS5
  have c0 : w5.cell? ⟨g, 0, none⟩ = some (.int .i64 0) := hI.1.cell 0
  have c1 : w5.cell? ⟨g, 1, none⟩ = some (.int .i64 60) := hI.1.cell 1
  have c2 : w5.cell? ⟨g, 2, none⟩ = some (.slice (some ⟨gs, 0, none⟩) 1 cap) := hI.1.cell 2
  have c6 : w5.cell? ⟨g6, 0, none⟩ = some (.slice none 0 0) := hI.2.1.cell 0
  have r3 : w5.cell? ⟨b, 3, none⟩ = some (.int .i64 (-1)) := (hI.2.2.2.1.cell 3).trans rt3
  have r4 : w5.cell? ⟨b, 4, none⟩ = some (.int .i64 7) := (hI.2.2.2.1.cell 4).trans rt4
  have r5 : w5.cell? ⟨b, 5, none⟩ = some (.int .i64 (-1)) := (hI.2.2.2.1.cell 5).trans rt5
  have r6 : w5.cell? ⟨b, 6, none⟩ = some (.int .i64 (-1)) := (hI.2.2.2.1.cell 6).trans rt6
  go_wp2_with fail
  refine (addDay_c g6 _ hI.2.1).mono ?_; rintro e w6 ⟨pv, rfl, hpc, hP6, hG6⟩
  obtain ⟨i1, i2, i3, i4, i5⟩ := hI
  have hSe6 : Se w6 (.slice (some ⟨gs, 0, none⟩) 1 cap) b := by
    obtain ⟨g', cap', e', k1, k2, k3, k4⟩ := i3
    obtain ⟨rfl, rfl⟩ : gs = g' ∧ cap = cap' := by cases e'; exact ⟨rfl, rfl⟩
    exact ⟨gs, cap, rfl, k1, k2, Nat.lt_of_lt_of_le k3 hG6.size, ((gcell_s hG6).1 gs _ k3 hgs6).trans k4⟩
  have hI : PInv w b g g6 (.slice (some ⟨gs, 0, none⟩) 1 cap) pv w6 := ⟨i1.grown hG6 (fun e => hgg6 (Option.some.inj e)), hP6, hSe6, i4.grown hG6 (fun e => hb6 (Option.some.inj e)), i5.other hG6 (fun j e => .inl (by have := Option.some.inj e; omega))⟩
  clear i1 i2 i3 i4 i5 hSe6 hP6 hG6
  clear c0 c1 c2 c6 r3 r4 r5 r6
  have c0 : w6.cell? ⟨g, 0, none⟩ = some (.int .i64 0) := hI.1.cell 0
  have c1 : w6.cell? ⟨g, 1, none⟩ = some (.int .i64 60) := hI.1.cell 1
  have c2 : w6.cell? ⟨g, 2, none⟩ = some (.slice (some ⟨gs, 0, none⟩) 1 cap) := hI.1.cell 2
  have c6 : w6.cell? ⟨g6, 0, none⟩ = some (pv) := hI.2.1.cell 0
  have r3 : w6.cell? ⟨b, 3, none⟩ = some (.int .i64 (-1)) := (hI.2.2.2.1.cell 3).trans rt3
  have r4 : w6.cell? ⟨b, 4, none⟩ = some (.int .i64 7) := (hI.2.2.2.1.cell 4).trans rt4
  have r5 : w6.cell? ⟨b, 5, none⟩ = some (.int .i64 (-1)) := (hI.2.2.2.1.cell 5).trans rt5
  have r6 : w6.cell? ⟨b, 6, none⟩ = some (.int .i64 (-1)) := (hI.2.2.2.1.cell 6).trans rt6
  go_wp2_with fail
  refine (weekendDays1_c _ b _ hI.2.2.1).mono ?_; rintro e w7 ⟨rfl, hG7⟩
  have hI := hI.quiet hG7
  have hpc := hpc.quiet hG7
  clear c0 c1 c2 c6 r3 r4 r5 r6
  have c0 : w7.cell? ⟨g, 0, none⟩ = some (.int .i64 0) := hI.1.cell 0
  have c1 : w7.cell? ⟨g, 1, none⟩ = some (.int .i64 60) := hI.1.cell 1
  have c2 : w7.cell? ⟨g, 2, none⟩ = some (.slice (some ⟨gs, 0, none⟩) 1 cap) := hI.1.cell 2
  have c6 : w7.cell? ⟨g6, 0, none⟩ = some (pv) := hI.2.1.cell 0
  have r3 : w7.cell? ⟨b, 3, none⟩ = some (.int .i64 (-1)) := (hI.2.2.2.1.cell 3).trans rt3
  have r4 : w7.cell? ⟨b, 4, none⟩ = some (.int .i64 7) := (hI.2.2.2.1.cell 4).trans rt4
  have r5 : w7.cell? ⟨b, 5, none⟩ = some (.int .i64 (-1)) := (hI.2.2.2.1.cell 5).trans rt5
  have r6 : w7.cell? ⟨b, 6, none⟩ = some (.int .i64 (-1)) := (hI.2.2.2.1.cell 6).trans rt6
  go_wp2_with fail
  refine wp_loop_rounds 2 ?_
  rw [rounds_succ]
  go_wp2_with fail
  refine (addNo_c _ _ _ _ _).mono ?_; rintro e w' ⟨rfl, rfl⟩
  go_wp2_with fail
  rw [rounds_succ]
  go_wp2_with fail
  refine (stDays1_c _ b _ hI.2.2.1).mono ?_; rintro e w8 ⟨rfl, hG8⟩
  have hI := hI.quiet hG8
  have hpc := hpc.quiet hG8
  clear c0 c1 c2 c6 r3 r4 r5 r6
  have c0 : w8.cell? ⟨g, 0, none⟩ = some (.int .i64 0) := hI.1.cell 0
  have c1 : w8.cell? ⟨g, 1, none⟩ = some (.int .i64 60) := hI.1.cell 1
  have c2 : w8.cell? ⟨g, 2, none⟩ = some (.slice (some ⟨gs, 0, none⟩) 1 cap) := hI.1.cell 2
  have c6 : w8.cell? ⟨g6, 0, none⟩ = some (pv) := hI.2.1.cell 0
  have r3 : w8.cell? ⟨b, 3, none⟩ = some (.int .i64 (-1)) := (hI.2.2.2.1.cell 3).trans rt3
  have r4 : w8.cell? ⟨b, 4, none⟩ = some (.int .i64 7) := (hI.2.2.2.1.cell 4).trans rt4
  have r5 : w8.cell? ⟨b, 5, none⟩ = some (.int .i64 (-1)) := (hI.2.2.2.1.cell 5).trans rt5
  have r6 : w8.cell? ⟨b, 6, none⟩ = some (.int .i64 (-1)) := (hI.2.2.2.1.cell 6).trans rt6
  go_wp2_with fail
  refine (sameSeason1_c _ b _ hI.2.2.1).mono ?_; rintro e w9 ⟨rfl, hG9⟩
  have hI := hI.quiet hG9
  have hpc := hpc.quiet hG9
  clear c0 c1 c2 c6 r3 r4 r5 r6
  have c0 : w9.cell? ⟨g, 0, none⟩ = some (.int .i64 0) := hI.1.cell 0
  have c1 : w9.cell? ⟨g, 1, none⟩ = some (.int .i64 60) := hI.1.cell 1
  have c2 : w9.cell? ⟨g, 2, none⟩ = some (.slice (some ⟨gs, 0, none⟩) 1 cap) := hI.1.cell 2
  have c6 : w9.cell? ⟨g6, 0, none⟩ = some (pv) := hI.2.1.cell 0
  have r3 : w9.cell? ⟨b, 3, none⟩ = some (.int .i64 (-1)) := (hI.2.2.2.1.cell 3).trans rt3
  have r4 : w9.cell? ⟨b, 4, none⟩ = some (.int .i64 7) := (hI.2.2.2.1.cell 4).trans rt4
  have r5 : w9.cell? ⟨b, 5, none⟩ = some (.int .i64 (-1)) := (hI.2.2.2.1.cell 5).trans rt5
  have r6 : w9.cell? ⟨b, 6, none⟩ = some (.int .i64 (-1)) := (hI.2.2.2.1.cell 6).trans rt6
  go_wp2_with fail
  refine (addNo_c _ _ _ _ _).mono ?_; rintro e w' ⟨rfl, rfl⟩
  go_wp2_with fail
  go_ret
  exact ⟨pv, rfl, hpc, hI.2.2.2.2⟩
end Go.Proofs.YtddedckehllkoaaDoor

/- The law's own 'priced': the plans of a stay of one rental day. -/
namespace Go.Proofs.YtddedckehllkoaaDoor
open Go.RowKit

abbrev plA : Array Value := #[.bool true, .int .i64 7, .int .i64 1, .int .i64 2, .int .i64 1, .int .i64 7]
abbrev plZ : Array Value := #[.bool false, .int .i64 0, .int .i64 0, .int .i64 0, .int .i64 0, .int .i64 0]
abbrev plE : Array Value := #[.bool true, .int .i64 0, .int .i64 0, .int .i64 0, .int .i64 0, .int .i64 0]
set_option maxRecDepth 100000 in
set_option maxHeartbeats 1000000 in
theorem better1_c (w : World) : Calls Tryd.prog 136 #[.agg plA, .agg plZ] w fun e w' => e = .returned (.bool true) ∧ G w w' none := by
  go_enter Tryd.func136, Tryd.ntmps136
  go_wp2_with fail
  go_ret
  exact ⟨rfl, ((G.refl _ _).alloc _).alloc _⟩
abbrev pl0 : Array Value := #[.bool false, .int .i64 0, .int .i64 0, .int .i64 0, .int .i64 0, .int .i64 0, .bool false, .int .i64 0, .int .i64 0, .int .i64 0, .int .i64 0, .int .i64 0]
abbrev pl1 : Array Value := #[.bool false, .int .i64 0, .int .i64 0, .int .i64 0, .int .i64 0, .int .i64 0, .bool true, .int .i64 0, .int .i64 0, .int .i64 0, .int .i64 0, .int .i64 0]
/-- The two plans, as they are at the end. -/
abbrev pl2 : Array Value := #[.bool true, .int .i64 7, .int .i64 1, .int .i64 2, .int .i64 1, .int .i64 7, .bool true, .int .i64 0, .int .i64 0, .int .i64 0, .int .i64 0, .int .i64 0]
/-- What stands while the plans are made. -/
def QInv (w0 : World) (b g0 gp : Nat) (v : Value) (pl : Array Value) (w : World) : Prop := Bk w g0 179 (syC v) ∧ Bk w gp 184 pl ∧ Se w v b ∧ Rt w b ∧ G w0 w none
theorem QInv.quiet {w0 w w' : World} {b g0 gp : Nat} {v : Value} {pl : Array Value} (h : QInv w0 b g0 gp v pl w) (hG : G w w' none) : QInv w0 b g0 gp v pl w' :=
  ⟨h.1.quiet hG, h.2.1.quiet hG, h.2.2.1.quiet hG, h.2.2.2.1.quiet hG, h.2.2.2.2.trans hG⟩
theorem QInv.set {w0 w : World} {b g0 gp : Nat} {v : Value} {pl : Array Value} (h : QInv w0 b g0 gp v pl w) (h0 : g0 ≠ gp) (hv : ∀ g, v.ownBlock = some g → g ≠ gp) (hb : b ≠ gp) (hw : w0.heap.size ≤ gp) (i : Nat) (x : Value) : QInv w0 b g0 gp v (pl.setIfInBounds i x) (w.setCell ⟨gp, i, none⟩ x) := by
  obtain ⟨h1, h2, h3, h4, h5⟩ := h
  refine ⟨h1.far (p := ⟨gp, i, none⟩) h0 x, h2.set i x, ?_, h4.far (p := ⟨gp, i, none⟩) hb x, h5.setCell (p := ⟨gp, i, none⟩) (.inl hw) x⟩
  obtain ⟨g, cap, rfl, q1, q2, q3, q4⟩ := h3
  exact ⟨g, cap, rfl, q1, q2, by simpa [World.setCell] using q3, (World.cell?_of_block (w := w) (Below.heap_setCell _ _ _ _ (hv g rfl))).trans q4⟩
theorem Bk.sub {w : World} {g : Nat} {T : TypeId} {cs : Array Value} (h : Bk w g T cs) (o : Nat) (sub : Array Value) (hs : ∀ (j : Nat) (u : Value), sub[j]? = some u → cs[o + j]? = some u) : ∀ j u, sub.toList[j]? = some u → w.cell? ((⟨g, o, none⟩ : Addr).add j) = some u := fun j u hu => by
  rw [add_at, h.cell]
  exact hs j u (by simpa using hu)
theorem pl_info : (Tryd.prog.info? 184).map (·.size) = some plA.size := (by kernel_rfl : (Tryd.prog.info? 184).map (·.size) = some 6)
set_option maxRecDepth 100000 in
set_option maxHeartbeats 8000000 in
theorem plans1_c (v : Value) (b : Nat) (w : World) (h : Se w v b) (hR : Rt w b) : Calls Tryd.prog 117 #[.agg (syC v)] w fun e w' => ∃ g, e = .returned (.slice (some ⟨g, 0, none⟩) 2 2) ∧ Bk w' g 184 pl2 ∧ G w w' none := by
  have hms : ∀ w : World, (Instr.makeSlice 181 (.int .i64 2) (.int .i64 2)).run Tryd.prog w = .ok (.slice (some ⟨w.heap.size, 0, none⟩) 2 2) (w.alloc (.cells pl0 184)) := fun _ => by kernel_rfl
  have hB := Bk.new w 179 (syC v)
  have hG := (G.refl w none).alloc (.cells (syC v) 179)
  have hS := h.quiet hG
  have hR' := hR.quiet hG
  have hvs : ∀ g, v.ownBlock = some g → g < w.heap.size := fun g e => by
    obtain ⟨g', cap, rfl, _, _, q3, _⟩ := h
    obtain rfl := Option.some.inj e
    exact q3
  have hbl := hR.lt
  go_enter Tryd.func117, Tryd.ntmps117
  go_wp2_with fail
  refine (stDays1_c _ b _ hS).mono ?_; rintro e w1 ⟨rfl, hG1⟩
  have hB1 := hB.quiet hG1
  have hS1 := hS.quiet hG1
  have hR1 := hR'.quiet hG1
  have hG01 := hG.trans hG1
  clear hB hS hR' hG hG1 h hR
  have hz1 := hB1.lt
  have hI : QInv w b w.heap.size w1.heap.size v pl0 (w1.alloc (.cells pl0 184)) := ⟨hB1.alloc _, Bk.new w1 _ _, hS1.quiet ((G.refl _ _).alloc _), hR1.alloc _, hG01.alloc _⟩
  have n1 : w.heap.size ≠ w1.heap.size := by omega
  have n2 : ∀ g, v.ownBlock = some g → g ≠ w1.heap.size := fun g e => by have := hvs g e; omega
  have n3 : b ≠ w1.heap.size := by omega
  have n4 : w.heap.size ≤ w1.heap.size := by omega
  clear hB1 hS1 hR1 hG01 hvs hbl hz1
  have hL := hI.1
  obtain ⟨g0, hg0⟩ : ∃ g, w.heap.size = g := ⟨_, rfl⟩
  rw [hg0] at hI n1 hL ⊢
  go_wp2_with (refine wpList_load_row rfl 179 _ rfl g0 rfl 179 (syC v) (0, 0) _ hL Tryd.underlying179 rfl (sy_info v) ?_)
  generalize w1.alloc (.cells pl0 184) = w2 at hI hL ⊢
  generalize w1.heap.size = gp at hI n1 n2 n3 n4 ⊢
  refine (stDays1_c _ b _ hI.2.2.1).mono ?_; rintro e w3 ⟨rfl, hG3⟩
  have hI := hI.quiet hG3
  clear hL
  have hL := hI.1.far (p := ⟨gp, 6, none⟩) n1 (.bool true)
  have d6 : w3.cell? ⟨gp, 6, none⟩ = some (.bool false) := hI.2.1.cell 6
  have f6 := hI.2.1.free 6
  have hI6 : QInv w b g0 gp v pl1 (w3.setCell ⟨gp, 6, none⟩ (.bool true)) := hI.set n1 n2 n3 n4 6 (.bool true)
  clear hI
  go_wp2_with (refine wpList_load_row rfl 179 _ rfl g0 rfl 179 (syC v) (0, 0) _ hL Tryd.underlying179 rfl (sy_info v) ?_)
  generalize w3.setCell ⟨gp, 6, none⟩ (.bool true) = w4 at hI6 hL ⊢
  refine (stDays1_c _ b _ hI6.2.2.1).mono ?_; rintro e w5 ⟨rfl, hG5⟩
  have hI := hI6.quiet hG5
  clear hI6 hL d6 f6
  have hL := hI.1
  go_wp2_with fail
  refine wp_loop_rounds 2 ?_
  rw [rounds_succ]
  go_wp2_with (refine wpList_load_row rfl 179 _ rfl g0 rfl 179 (syC v) (0, 0) _ hL Tryd.underlying179 rfl (sy_info v) ?_)
  refine (pieces1_c _ b _ hI.2.2.1 hI.2.2.2.1).mono ?_; rintro e w6 ⟨p, rfl, hp, hG6⟩
  have hI := hI.quiet hG6
  clear hL
  have hp' := hp
  obtain ⟨gc, cap, rfl, q1, q2, q3, q4, q5, q6⟩ := hp'
  go_wp2_with fail
  refine wp_loop_rounds 2 ?_
  rw [rounds_succ]
  have hI' := hI.quiet ((G.refl w6 none).alloc (.cells #[.int .i64 2, .int .i64 1, .int .i64 7] 128))
  have HA := Lib.hid (Bk.sub hI'.2.1 6 plE (fun j u hu => by
    match j, hu with
    | 0, hu => exact hu
    | 1, hu => exact hu
    | 2, hu => exact hu
    | 3, hu => exact hu
    | 4, hu => exact hu
    | 5, hu => exact hu
    | j + 6, hu => simp at hu))
  go_wp2_with (refine wpList_load_at rfl 184 _ rfl ⟨gp, 6, none⟩ rfl plE _ HA.out Tryd.underlying184 rfl pl_info ?_)
  have hP7 : Bk ((w6.alloc (.cells #[.int .i64 2, .int .i64 1, .int .i64 7] 128)).alloc (.cells #[.bool true, .int .i64 7, .int .i64 1, .int .i64 2, .int .i64 1, .int .i64 7] 184)) (w6.heap.size + 1) 184 plA := Bk.newAt (by simp) _ _
  have hI7 := hI'.quiet ((G.refl _ none).alloc (.cells #[.bool true, .int .i64 7, .int .i64 1, .int .i64 2, .int .i64 1, .int .i64 7] 184))
  have hgp : gp < w6.heap.size := hI.2.1.lt
  have n7 : w6.heap.size + 1 ≠ gp := by omega
  clear hI' HA hI hp q3 q4 q5 q6
  generalize ((w6.alloc (.cells #[.int .i64 2, .int .i64 1, .int .i64 7] 128)).alloc (.cells #[.bool true, .int .i64 7, .int .i64 1, .int .i64 2, .int .i64 1, .int .i64 7] 184)) = w7 at hP7 hI7 ⊢
  generalize w6.heap.size + 1 = g7 at hP7 n7 ⊢
  have hS7 : w7.cell? ⟨g7, 0, none⟩ = some (.bool true) ∧ w7.cell? ⟨g7, 1, none⟩ = some (.int .i64 7) ∧ w7.cell? ⟨g7, 2, none⟩ = some (.int .i64 1) ∧ w7.cell? ⟨g7, 3, none⟩ = some (.int .i64 2) ∧ w7.cell? ⟨g7, 4, none⟩ = some (.int .i64 1) ∧ w7.cell? ⟨g7, 5, none⟩ = some (.int .i64 7) ∧ w7.cell? ⟨gp, 0, none⟩ = some (.bool false) ∧ w7.cell? ⟨gp, 1, none⟩ = some (.int .i64 0) ∧ w7.cell? ⟨gp, 2, none⟩ = some (.int .i64 0) ∧ w7.cell? ⟨gp, 3, none⟩ = some (.int .i64 0) ∧ w7.cell? ⟨gp, 4, none⟩ = some (.int .i64 0) ∧ w7.cell? ⟨gp, 5, none⟩ = some (.int .i64 0) := ⟨hP7.cell 0, hP7.cell 1, hP7.cell 2, hP7.cell 3, hP7.cell 4, hP7.cell 5, hI7.2.1.cell 0, hI7.2.1.cell 1, hI7.2.1.cell 2, hI7.2.1.cell 3, hI7.2.1.cell 4, hI7.2.1.cell 5⟩
  go_region_held3 (fun w' => w'.cell? ⟨g7, 0, none⟩ = some (.bool true) ∧ w'.cell? ⟨g7, 1, none⟩ = some (.int .i64 7) ∧ w'.cell? ⟨g7, 2, none⟩ = some (.int .i64 1) ∧ w'.cell? ⟨g7, 3, none⟩ = some (.int .i64 2) ∧ w'.cell? ⟨g7, 4, none⟩ = some (.int .i64 1) ∧ w'.cell? ⟨g7, 5, none⟩ = some (.int .i64 7) ∧ w'.cell? ⟨gp, 0, none⟩ = some (.bool false) ∧ w'.cell? ⟨gp, 1, none⟩ = some (.int .i64 0) ∧ w'.cell? ⟨gp, 2, none⟩ = some (.int .i64 0) ∧ w'.cell? ⟨gp, 3, none⟩ = some (.int .i64 0) ∧ w'.cell? ⟨gp, 4, none⟩ = some (.int .i64 0) ∧ w'.cell? ⟨gp, 5, none⟩ = some (.int .i64 0)) (first | exact hS7 | exact hS8 | go_keep) (first | (go_at_call 136; refine (better1_c _).mono ?_; rintro e w8 ⟨rfl, hG8⟩; have hP8 := (hP7.quiet ((G.refl w7 none).drew)).quiet hG8; have hI8 := (hI7.quiet ((G.refl w7 none).drew)).quiet hG8; have hS8 : w8.cell? ⟨g7, 0, none⟩ = some (.bool true) ∧ w8.cell? ⟨g7, 1, none⟩ = some (.int .i64 7) ∧ w8.cell? ⟨g7, 2, none⟩ = some (.int .i64 1) ∧ w8.cell? ⟨g7, 3, none⟩ = some (.int .i64 2) ∧ w8.cell? ⟨g7, 4, none⟩ = some (.int .i64 1) ∧ w8.cell? ⟨g7, 5, none⟩ = some (.int .i64 7) ∧ w8.cell? ⟨gp, 0, none⟩ = some (.bool false) ∧ w8.cell? ⟨gp, 1, none⟩ = some (.int .i64 0) ∧ w8.cell? ⟨gp, 2, none⟩ = some (.int .i64 0) ∧ w8.cell? ⟨gp, 3, none⟩ = some (.int .i64 0) ∧ w8.cell? ⟨gp, 4, none⟩ = some (.int .i64 0) ∧ w8.cell? ⟨gp, 5, none⟩ = some (.int .i64 0) := ⟨hP8.cell 0, hP8.cell 1, hP8.cell 2, hP8.cell 3, hP8.cell 4, hP8.cell 5, hI8.2.1.cell 0, hI8.2.1.cell 1, hI8.2.1.cell 2, hI8.2.1.cell 3, hI8.2.1.cell 4, hI8.2.1.cell 5⟩))
  have e0 : w8.cell? ⟨gp, 0, none⟩ = some (.bool false) := hI8.2.1.cell 0
  have f0 := hI8.2.1.free 0
  have e1 : w8.cell? ⟨gp, 1, none⟩ = some (.int .i64 0) := hI8.2.1.cell 1
  have f1 := hI8.2.1.free 1
  have e2 : w8.cell? ⟨gp, 2, none⟩ = some (.int .i64 0) := hI8.2.1.cell 2
  have f2 := hI8.2.1.free 2
  have e3 : w8.cell? ⟨gp, 3, none⟩ = some (.int .i64 0) := hI8.2.1.cell 3
  have f3 := hI8.2.1.free 3
  have e4 : w8.cell? ⟨gp, 4, none⟩ = some (.int .i64 0) := hI8.2.1.cell 4
  have f4 := hI8.2.1.free 4
  have e5 : w8.cell? ⟨gp, 5, none⟩ = some (.int .i64 0) := hI8.2.1.cell 5
  have f5 := hI8.2.1.free 5
  have hJ0 := hI8.set n1 n2 n3 n4 0 (.bool true)
  have hJ1 := hJ0.set n1 n2 n3 n4 1 (.int .i64 7)
  have hJ2 := hJ1.set n1 n2 n3 n4 2 (.int .i64 1)
  have hJ3 := hJ2.set n1 n2 n3 n4 3 (.int .i64 2)
  have hJ4 := hJ3.set n1 n2 n3 n4 4 (.int .i64 1)
  have hJ5 := hJ4.set n1 n2 n3 n4 5 (.int .i64 7)
  have hset : w8.setCells gp 0 plA.toList = ((((((w8.setCell ⟨gp, 0, none⟩ (.bool true)).setCell ⟨gp, 1, none⟩ (.int .i64 7)).setCell ⟨gp, 2, none⟩ (.int .i64 1)).setCell ⟨gp, 3, none⟩ (.int .i64 2)).setCell ⟨gp, 4, none⟩ (.int .i64 1)).setCell ⟨gp, 5, none⟩ (.int .i64 7)) := rfl
  have hJ : QInv w b g0 gp v pl2 (w8.setCells gp 0 plA.toList) := by rw [hset]; exact hJ5
  have hth : w8.there gp 0 6 := fun j hj => by
    match j, hj with
    | 0, _ => exact ⟨by rw [e0]; rfl, f0⟩
    | 1, _ => exact ⟨by rw [e1]; rfl, f1⟩
    | 2, _ => exact ⟨by rw [e2]; rfl, f2⟩
    | 3, _ => exact ⟨by rw [e3]; rfl, f3⟩
    | 4, _ => exact ⟨by rw [e4]; rfl, f4⟩
    | 5, _ => exact ⟨by rw [e5]; rfl, f5⟩
  have HT := Lib.hid hth
  have HJ := Lib.hid hJ
  clear hJ hset hth hJ0 hJ1 hJ2 hJ3 hJ4 hJ5 hS7 hS8 hI7 hI8 n1 n2 n3 n4 hms hP7 e0 e1 e2 e3 e4 e5 f0 f1 f2 f3 f4 f5
  go_wp2_with (first | (refine wpList_load_row rfl 184 _ rfl g7 rfl 184 plA (0, 0) _ hP8 Tryd.underlying184 rfl pl_info ?_) | (refine wpList_store_mid rfl 184 _ _ rfl gp 0 plA rfl rfl HT.out pl_info (by simp [Value.oneCell']) ?_; generalize w8.setCells gp 0 plA.toList = w9 at HJ ⊢))
  rw [rounds_succ]
  go_wp2_with fail
  rw [rounds_succ]
  go_wp2_with fail
  go_ret
  exact ⟨gp, rfl, HJ.out.2.1, HJ.out.2.2.2.2⟩
end Go.Proofs.YtddedckehllkoaaDoor

/- The law's own 'priced': Divide at one rate and one hour. -/
namespace Go.Proofs.YtddedckehllkoaaDoor
open Go.RowKit

set_option maxRecDepth 100000 in
set_option maxHeartbeats 2000000 in
theorem pcEqual_c (v u : Value) (w : World) (hv : Pc w v) (hu : Pc w u) : Calls Tryd.prog 86 #[v, u] w fun e w' => e = .returned (.bool true) ∧ G w w' none := by
  have hnq : ∀ w : World, (binOp .neq 128 (.agg pcC) (.agg pcC)).run Tryd.prog w = .ok (.bool false) w := fun _ => by kernel_rfl
  obtain ⟨g, cap, rfl, q1, q2, q3, q4, q5, q6⟩ := hv
  obtain ⟨k, cap', rfl, r1, r2, r3, r4, r5, r6⟩ := hu
  go_enter Tryd.func86, Tryd.ntmps86
  go_wp2_with fail
  refine wp_loop_rounds 2 ?_
  rw [rounds_succ]
  go_wp2_with fail
  go_quiet (fail)
  have hG := (G.refl w none).drewN nq
  go_wp2_with fail
  rw [rounds_succ]
  go_wp2_with fail
  go_ret
  exact ⟨rfl, hG⟩
set_option maxRecDepth 100000 in
set_option maxHeartbeats 8000000 in
theorem divide1_c (b : Nat) (w : World) (hR : Rt w b) : Calls Tryd.prog 85 #[.slice (some ⟨b, 0, none⟩) 1 1, .string ⟨#[99]⟩, .agg #[.int .i64 0, .int .i64 60]] w fun e w' => ∃ p, e = .returned (.tuple #[p, .int .i64 0]) ∧ Pc w' p ∧ G w w' none := by
  have hT := Bk.new w 29 #[.int .i64 0, .int .i64 60]
  have hG := (G.refl w none).alloc (.cells #[.int .i64 0, .int .i64 60] 29)
  have hR0 := hR.quiet hG
  go_enter Tryd.func85, Tryd.ntmps85
  go_wp2_with fail
  refine (checkStay1_c _ b hR0).mono ?_; rintro e w1 ⟨rfl, hG1⟩
  have hT := hT.quiet hG1
  have hR1 := hR0.quiet hG1
  have hG := hG.trans hG1
  clear hG1 hR hR0
  have c0 : w1.cell? ⟨w.heap.size, 0, none⟩ = some (.int .i64 0) := hT.cell 0
  have c1 : w1.cell? ⟨w.heap.size, 1, none⟩ = some (.int .i64 60) := hT.cell 1
  go_wp2_with fail
  refine (stayOf1_c _ b hR1).mono ?_; rintro e w2 ⟨v, rfl, hS2, hG2⟩
  have hR2 := hR1.quiet hG2
  have hG := hG.trans hG2
  clear hG2 hR1 hT c0 c1
  have hS2' := hS2
  obtain ⟨gs, cap, rfl, _, _, _, _⟩ := hS2'
  have hB := Bk.new w2 179 #[.int .i64 0, .int .i64 60, .slice (some ⟨gs, 0, none⟩) 1 cap]
  have hA := (G.refl w2 none).alloc (.cells #[.int .i64 0, .int .i64 60, .slice (some ⟨gs, 0, none⟩) 1 cap] 179)
  have hS3 := hS2.quiet hA
  have hR3 := hR2.quiet hA
  have hG := hG.trans hA
  clear hS2 hR2
  go_wp2_with fail
  refine (plans1_c _ b _ hS3 hR3).mono ?_; rintro e w4 ⟨gp, rfl, hP, hG4⟩
  have hB := hB.quiet hG4
  have hS4 := hS3.quiet hG4
  have hG := hG.trans hG4
  clear hG4 hS3 hR3 hA
  have p0 : w4.cell? ⟨gp, 0, none⟩ = some (.bool true) := hP.cell 0
  have d0 : w4.cell? ⟨w2.heap.size, 0, none⟩ = some (.int .i64 0) := hB.cell 0
  have d1 : w4.cell? ⟨w2.heap.size, 1, none⟩ = some (.int .i64 60) := hB.cell 1
  have d2 : w4.cell? ⟨w2.heap.size, 2, none⟩ = some (.slice (some ⟨gs, 0, none⟩) 1 cap) := hB.cell 2
  go_wp2_with fail
  refine wp_loop_rounds 2 ?_
  rw [rounds_succ]
  go_wp2_with fail
  refine (stDays1_c _ b _ hS4).mono ?_; rintro e w5 ⟨rfl, hG5⟩
  have hB := hB.quiet hG5
  have hS5 := hS4.quiet hG5
  have hP := hP.quiet hG5
  have hG := hG.trans hG5
  clear hG5 hS4 p0 d0 d1 d2
  have p3 : w5.cell? ⟨gp, 3, none⟩ = some (.int .i64 2) := hP.cell 3
  have p4 : w5.cell? ⟨gp, 4, none⟩ = some (.int .i64 1) := hP.cell 4
  have p5 : w5.cell? ⟨gp, 5, none⟩ = some (.int .i64 7) := hP.cell 5
  have hPl := hP.lt
  go_wp2_with (at_builtin; refine wpList_plain rfl fun K' hK' => wp_append_pc _ _ rfl rfl w5.heap.size rfl (Bk.newAt rfl _ _) fun p w7 hpc hvne hG7 => ?_; refine hK' _ _ ?_; clear hK'; have hP7 := (hP.alloc _).quiet hG7; have hB7 := (hB.alloc _).quiet hG7; have hS7 := (hS5.quiet ((G.refl _ none).alloc _)).quiet hG7; have hG07 := (hG.alloc _).trans hG7; have p4' : w7.cell? ⟨gp, 4, none⟩ = some (.int .i64 1) := hP7.cell 4)
  rw [rounds_succ]
  have d0 : w7.cell? ⟨w2.heap.size, 0, none⟩ = some (.int .i64 0) := hB7.cell 0
  have d1 : w7.cell? ⟨w2.heap.size, 1, none⟩ = some (.int .i64 60) := hB7.cell 1
  have d2 : w7.cell? ⟨w2.heap.size, 2, none⟩ = some (.slice (some ⟨gs, 0, none⟩) 1 cap) := hB7.cell 2
  go_wp2_with fail
  refine (stDays1_c _ b _ hS7).mono ?_; rintro e w8 ⟨rfl, hG8⟩
  go_wp2_with fail
  go_ret2
  exact ⟨p, rfl, hpc.quiet hG8, hG07.trans hG8⟩
set_option maxRecDepth 100000 in
set_option maxHeartbeats 4000000 in
theorem priced_c (w : World) : Calls Tryd.prog 33 #[] w fun e w' => e = .returned (.bool true) ∧ G w w' none := by
  have hR := Bk.new w 54 rtC
  go_enter Tryd.func33, Tryd.ntmps33
  go_wp2_with fail
  refine (divide1_c w.heap.size _ hR).mono ?_; rintro e w1 ⟨p, rfl, hp, hG1⟩
  have hG := ((G.refl w none).alloc (.cells rtC 54)).trans hG1
  clear hG1 hR
  have hA := (G.refl w1 none).alloc (.cells #[.int .i64 2, .int .i64 1, .int .i64 7] 128)
  have hp1 := hp.quiet hA
  have hn := Bk.new w1 128 #[.int .i64 2, .int .i64 1, .int .i64 7]
  have hp2 : Pc (w1.alloc (.cells #[.int .i64 2, .int .i64 1, .int .i64 7] 128)) (.slice (some ⟨w1.heap.size, 0, none⟩) 1 1) := ⟨_, 1, rfl, by omega, by decide, hn.lt, hn.cell 0, hn.cell 1, hn.cell 2⟩
  go_wp2_with fail
  refine (pcEqual_c _ _ _ hp1 hp2).mono ?_; rintro e w2 ⟨rfl, hG2⟩
  go_wp2_with fail
  go_ret
  exact ⟨rfl, (hG.trans hA).trans hG2⟩
end Go.Proofs.YtddedckehllkoaaDoor

/- Fees: CheckFees, its reference. -/
namespace Go.Proofs.YtddedckehllkoaaDoor
open Go.RowKit

/-- A fee: from, to, cents. -/
abbrev Fe := ByteArray × ByteArray × Int
def feC (x : Fe) : Array Value := #[.string x.1, .string x.2.1, .int .i64 x.2.2]
theorem feC_sz (x : Fe) : (feC x).size = 3 := rfl
theorem fe_info (x : Fe) : (Tryd.prog.info? 134).map (·.size) = some (feC x).size := (by kernel_rfl : (Tryd.prog.info? 134).map (·.size) = some 3)
def FeOk (l : List Fe) : Prop := ∀ x ∈ l, Small x.1 ∧ Small x.2.1 ∧ bnd x.2.2
/-- The first that is not 0. -/
def orI (x y : Int) : Int := if x = 0 then y else x
def cmpF (x y : Fe) : Int := orI (cmpI x.1 y.1) (cmpI x.2.1 y.2.1)
set_option maxRecDepth 100000 in
set_option maxHeartbeats 1000000 in
theorem or2_c (x y : Int) (g : Nat) (w : World) (hB : Bk w g 3 #[.int .i64 x, .int .i64 y]) :
    Calls Tryd.prog 112 #[.slice (some ⟨g, 0, none⟩) 2 2] w fun e w' => e = .returned (.int .i64 (orI x y)) ∧ w = w' := by
  have hc0 := hB.cell 0
  have hc1 := hB.cell 1
  rw [show (#[Value.int .i64 x, .int .i64 y] : Array Value)[0]? = some (.int .i64 x) from rfl] at hc0
  rw [show (#[Value.int .i64 x, .int .i64 y] : Array Value)[1]? = some (.int .i64 y) from rfl] at hc1
  clear hB
  by_cases hx : x = 0
  · rw [orI, if_pos hx]
    subst hx
    by_cases hy : y = 0
    · subst hy
      go_enter Tryd.func112, Tryd.ntmps112
      go_wp2_with fail
      refine wp_loop_rounds 3 ?_
      rw [rounds_succ]
      go_wp2_with fail
      rw [rounds_succ]
      go_wp2_with fail
      rw [rounds_succ]
      go_wp2_with fail
      go_ret
      exact ⟨rfl, rfl⟩
    · have hy' : (y != 0) = true := by rw [bne_iff_ne]; exact hy
      clear hy
      go_enter Tryd.func112, Tryd.ntmps112
      go_wp2_with fail
      refine wp_loop_rounds 3 ?_
      rw [rounds_succ]
      go_wp2_with fail
      rw [rounds_succ]
      go_wp2_with fail
      go_ret
      exact ⟨rfl, rfl⟩
  · rw [orI, if_neg hx]
    have hx' : (x != 0) = true := by rw [bne_iff_ne]; exact hx
    clear hx
    go_enter Tryd.func112, Tryd.ntmps112
    go_wp2_with fail
    refine wp_loop_rounds 3 ?_
    rw [rounds_succ]
    go_wp2_with fail
    go_ret
    exact ⟨rfl, rfl⟩
set_option maxRecDepth 100000 in
set_option maxHeartbeats 1000000 in
theorem compareFees_c (x y : Fe) (w : World) :
    Calls Tryd.prog 90 #[.agg (feC x), .agg (feC y)] w fun e w' => e = .returned (.int .i64 (cmpF x y)) ∧ G w w' none := by
  have hBx := (Bk.new w 134 (feC x)).alloc (.cells (feC y) 134)
  have hBy := Bk.newAt (w := w.alloc (.cells (feC x) 134)) (b := w.heap.size + 1) (by simp) 134 (feC y)
  have hG := ((G.refl w none).alloc (.cells (feC x) 134)).alloc (.cells (feC y) 134)
  have HF : Hid (orI (cmpI x.1 y.1) (cmpI x.2.1 y.2.1) = cmpF x y) := Lib.hid rfl
  go_enter Tryd.func90, Tryd.ntmps90
  go_wp2_with fail
  generalize ((w.alloc (.cells (feC x) 134)).alloc (.cells (feC y) 134)) = w3 at hBx hBy hG ⊢
  have c1 : w3.cell? ⟨w.heap.size, 0, none⟩ = some (.string x.1) := hBx.cell 0
  have c2 : w3.cell? ⟨w.heap.size, 1, none⟩ = some (.string x.2.1) := hBx.cell 1
  have c3 : w3.cell? ⟨w.heap.size + 1, 0, none⟩ = some (.string y.1) := hBy.cell 0
  have c4 : w3.cell? ⟨w.heap.size + 1, 1, none⟩ = some (.string y.2.1) := hBy.cell 1
  have hGd := hG.drew
  clear hBx hBy hG
  go_region_held3 (fun w' => w'.cell? ⟨w.heap.size, 0, none⟩ = some (.string x.1) ∧ w'.cell? ⟨w.heap.size, 1, none⟩ = some (.string x.2.1) ∧ w'.cell? ⟨w.heap.size + 1, 0, none⟩ = some (.string y.1) ∧ w'.cell? ⟨w.heap.size + 1, 1, none⟩ = some (.string y.2.1)) (first | exact ⟨c1, c2, c3, c4⟩ | go_keep) (first | (go_at_call 113; refine (compare_c _ _ _).mono ?_; rintro e w' ⟨rfl, rfl⟩) | (go_at_call 112; refine (or2_c _ _ _ _ ((Bk.new w3 _ _).quiet ((G.refl _ none).drew))).mono ?_; rintro e w' ⟨rfl, rfl⟩))
  go_wp2_with fail
  go_ret
  exact ⟨ret_int HF.out, hGd.alloc _⟩
def feAfter (b : Option Fe) (x : Fe) : Bool := match b with | none => false | some y => decide (0 ≤ cmpF y x)
def feErr : Option Fe → List Fe → Int
  | _, [] => 0
  | b, x :: r => if keyB x.1 = false then 5 else if keyB x.2.1 = false then 5 else if eqB x.1 x.2.1 = true then 14 else if feAfter b x = true then 7 else if inB x.2.2 0 1000000 = false then 1 else feErr (some x) r
def feE (l : List Fe) : Int := if 500 < l.length then 2 else feErr none l
def prevAt {α : Type} (l : List α) (k : Nat) : Option α := if k = 0 then none else l[k - 1]?
theorem prevAt_succ {α : Type} (l : List α) (k : Nat) (p : α) (h : l[k]? = some p) : prevAt l (k + 1) = some p := by
  unfold prevAt
  rw [if_neg (by omega), Nat.add_sub_cancel, h]
def FeRel (w : World) (l : List Fe) (i : Value) (wr : World) : Prop :=
  ∃ k : Nat, k ≤ l.length ∧ i = .int .i64 k ∧ feErr none l = feErr (prevAt l k) (l.drop k) ∧ G w wr none
set_option maxRecDepth 100000 in
set_option maxHeartbeats 4000000 in
theorem checkFees_c (v : Value) (l : List Fe) (w : World) (hr : RdR w 3 feC v l) (hl : FeOk l) (hn : l.length ≤ 1000) :
    Calls Tryd.prog 42 #[v] w fun e w' => e = .returned (.int .i64 (feE l)) ∧ G w w' none := by
  have HR := Lib.hid hr
  obtain ⟨a, cap, rfl, hcap, hm⟩ := RdR.form hr
  clear hr
  by_cases h30 : 500 < l.length
  · have H := Lib.hid (show feE l = 2 by simp [feE, h30])
    go_enter Tryd.func42, Tryd.ntmps42
    go_wp2_with fail
    go_ret
    exact ⟨by rw [H.out]; rfl, G.refl _ _⟩
  · have H := Lib.hid (show feE l = feErr none l by simp [feE, h30])
    go_enter Tryd.func42, Tryd.ntmps42
    go_wp2_with fail
    go_loopw [10] (FeRel w l) (fun i _ => l.length - (intOf i).toNat)
    case atStart => exact ⟨0, by omega, rfl, rfl, G.refl _ _⟩
    case round =>
      obtain ⟨k, hkl, rfl, heq, hG⟩ := hrel
      have HE := Lib.hid heq
      clear heq
      by_cases hk : k < l.length
      · obtain ⟨p, hp⟩ : ∃ p, l[k]? = some p := ⟨_, List.getElem?_eq_getElem hk⟩
        have hdrop : l.drop k = p :: l.drop (k + 1) := by rw [List.drop_eq_getElem_cons hk, ← (List.getElem?_eq_some_iff.1 hp).2]
        have hpl := hl p (List.mem_of_getElem? hp)
        obtain ⟨bb, bo, rfl, hbb, hrow⟩ := RdR.elem feC_sz HR.out hG hp
        have HW := Lib.hid hrow
        have HP := Lib.hid hp
        have hs1 := hpl.1
        have hs2 := hpl.2.1
        unfold Small at hs1 hs2
        have HS : Hid (feErr (prevAt l k) (l.drop k) = if keyB p.1 = false then 5 else if keyB p.2.1 = false then 5 else if eqB p.1 p.2.1 = true then 14 else if feAfter (prevAt l k) p = true then 7 else if inB p.2.2 0 1000000 = false then 1 else feErr (some p) (l.drop (k + 1))) := Lib.hid (by rw [hdrop]; rfl)
        clear hrow hdrop hp hpl
        go_wp2_with (refine wpList_load_at rfl 134 _ rfl ⟨bb, bo + k * 3, none⟩ rfl #[.string p.1, .string p.2.1, .int .i64 p.2.2] _ HW.out Tryd.underlying134 rfl (fe_info p) ?_)
        refine (isKey_c _ _ hs1).mono ?_; rintro e w1 ⟨rfl, rfl⟩
        have hG1 := G.refl (wr.alloc (.cells (feC p) 134)) none
        have hB5 := (Bk.new wr 134 (feC p)).quiet hG1
        have hc0 := hB5.cell 0
        have hc1 := hB5.cell 1
        have hc2 := hB5.cell 2
        rw [show (feC p)[0]? = some (.string p.1) from rfl] at hc0
        rw [show (feC p)[1]? = some (.string p.2.1) from rfl] at hc1
        rw [show (feC p)[2]? = some (.int .i64 p.2.2) from rfl] at hc2
        have hG01 := (hG.alloc (.cells (feC p) 134)).trans hG1
        clear hG hG1 HW
        cases hkb : keyB p.1 with
        | false =>
          have HF : Hid (feE l = 5) := Lib.hid (by rw [H.out, HE.out, HS.out, if_pos hkb])
          clear hkb
          go_wp2_with fail
          go_ret
          exact ⟨by rw [HF.out]; rfl, hG01⟩
        | true =>
          go_wp2_with fail
          refine (isKey_c _ _ hs2).mono ?_; rintro e w2 ⟨rfl, rfl⟩
          have hG2 := G.refl (wr.alloc (.cells (feC p) 134)) none
          have hB6 := hB5.quiet hG2
          have hc0 := hB6.cell 0
          have hc1 := hB6.cell 1
          have hc2 := hB6.cell 2
          rw [show (feC p)[0]? = some (.string p.1) from rfl] at hc0
          rw [show (feC p)[1]? = some (.string p.2.1) from rfl] at hc1
          rw [show (feC p)[2]? = some (.int .i64 p.2.2) from rfl] at hc2
          have hG02 := hG01.trans hG2
          clear hG01 hG2 hB5
          cases hkb2 : keyB p.2.1 with
          | false =>
            have HF : Hid (feE l = 5) := Lib.hid (by rw [H.out, HE.out, HS.out, if_neg (by simp [hkb]), if_pos hkb2])
            clear hkb2
            go_wp2_with fail
            go_ret
            exact ⟨by rw [HF.out]; rfl, hG02⟩
          | true =>
            have HK := Lib.hid hkb
            have HK2 := Lib.hid hkb2
            clear hkb hkb2
            cases hq : eqB p.1 p.2.1 with
            | true =>
              have HF : Hid (feE l = 14) := Lib.hid (by rw [H.out, HE.out, HS.out, if_neg (by simp [HK.out]), if_neg (by simp [HK2.out]), if_pos hq])
              unfold eqB at hq
              go_wp2_with fail
              go_ret
              exact ⟨by rw [HF.out]; rfl, hG02⟩
            | false =>
              have HQ := Lib.hid hq
              unfold eqB at hq
              go_wp2_with fail
              have hB7 : Bk (wr.alloc (.cells #[.string p.1, .string p.2.1, .int .i64 p.2.2] 134)) wr.heap.size 134 (feC p) := hB6
              have hG7 : G w (wr.alloc (.cells #[.string p.1, .string p.2.1, .int .i64 p.2.2] 134)) none := hG02
              have hg7 := hB7.lt
              clear hB6 hG02 hc0 hc1 hc2
              generalize wr.alloc (.cells #[.string p.1, .string p.2.1, .int .i64 p.2.2] 134) = w5 at hB7 hG7 hg7 ⊢
              generalize wr.heap.size = g at hB7 hg7 ⊢
              cases k with
              | zero =>
                have HA : Hid (feAfter (prevAt l 0) p = false) := Lib.hid rfl
                have hc2 : w5.cell? ⟨g, 2, none⟩ = some (.int .i64 p.2.2) := hB7.cell 2
                go_quiet (fail)
                have hGq := hG7.drewN nq
                cases h3 : inB p.2.2 0 1000000 with
                | false =>
                  have HF : Hid (feE l = 1) := Lib.hid (by rw [H.out, HE.out, HS.out, if_neg (by simp [HK.out]), if_neg (by simp [HK2.out]), if_neg (by simp [HQ.out]), if_neg (by simp [HA.out]), if_pos h3])
                  go_wp2_with fail
                  refine (within_c _ _ _ _).mono ?_; rintro e w' ⟨rfl, rfl⟩
                  rw [h3]
                  go_wp2_with fail
                  go_ret
                  exact ⟨by rw [HF.out]; rfl, hGq⟩
                | true =>
                  have HF : Hid (feErr none l = feErr (prevAt l (0 + 1)) (l.drop (0 + 1))) := Lib.hid (by rw [HE.out, HS.out, if_neg (by simp [HK.out]), if_neg (by simp [HK2.out]), if_neg (by simp [HQ.out]), if_neg (by simp [HA.out]), if_neg (by simp [h3]), prevAt_succ l 0 p HP.out])
                  go_wp2_with fail
                  refine (within_c _ _ _ _).mono ?_; rintro e w' ⟨rfl, rfl⟩
                  rw [h3]
                  go_wp2_with fail
                  go_roundw
                  case rel => exact ⟨0 + 1, by omega, by go_num, HF.out, hGq⟩
                  case measure => simp [intOf]; omega

              | succ m =>
                obtain ⟨q, hq2⟩ : ∃ q, l[m]? = some q := ⟨_, List.getElem?_eq_getElem (by omega)⟩
                have HA1 : Hid (feAfter (prevAt l (m + 1)) p = decide (0 ≤ cmpF q p)) := Lib.hid (by rw [prevAt_succ l m q hq2]; rfl)
                have hsub : IntKind.i64.wrap (((m + 1 : Nat) : Int) - 1) = (m : Int) := by rw [show ((m + 1 : Nat) : Int) - 1 = (m : Int) by omega]; rw [IntKind.wrap_i64]; omega
                have d0 := RdR.cell feC_sz HR.out hG7 hq2 0 (.string q.1) rfl
                have d1 := RdR.cell feC_sz HR.out hG7 hq2 1 (.string q.2.1) rfl
                have d2 := RdR.cell feC_sz HR.out hG7 hq2 2 (.int .i64 q.2.2) rfl
                have c0 : w5.cell? ⟨g, 0, none⟩ = some (.string p.1) := hB7.cell 0
                have c1 : w5.cell? ⟨g, 1, none⟩ = some (.string p.2.1) := hB7.cell 1
                have c2 : w5.cell? ⟨g, 2, none⟩ = some (.int .i64 p.2.2) := hB7.cell 2
                have hsub2 : IntKind.i64.wrap (m : Int) = (m : Int) := by rw [IntKind.wrap_i64]; omega
                have hsub3 : IntKind.i64.wrap ((m : Int) + 1 - 1) = (m : Int) := by rw [IntKind.wrap_i64]; omega
                have hm0 : (0 : Int) ≤ (m : Int) := Int.natCast_nonneg m
                have hml : (m : Int) < (l.length : Int) := by omega
                have hcf : cmpF q p < 0 ∨ 0 ≤ cmpF q p := by omega
                simp only [Nat.add_zero] at d0
                clear hq2
                rcases hcf with hcf | hcf
                · have HA : Hid (feAfter (prevAt l (m + 1)) p = false) := Lib.hid (by rw [HA1.out]; exact decide_eq_false (by omega))
                  go_region_held3 (fun w' => w'.cell? ⟨bb, bo + m * 3, none⟩ = some (.string q.1) ∧ w'.cell? ⟨bb, bo + m * 3 + 1, none⟩ = some (.string q.2.1) ∧ w'.cell? ⟨bb, bo + m * 3 + 2, none⟩ = some (.int .i64 q.2.2) ∧ w'.cell? ⟨g, 0, none⟩ = some (.string p.1) ∧ w'.cell? ⟨g, 1, none⟩ = some (.string p.2.1) ∧ w'.cell? ⟨g, 2, none⟩ = some (.int .i64 p.2.2)) (first | exact ⟨d0, d1, d2, c0, c1, c2⟩ | exact hS6 | go_keep) (first | (go_at_call 90; refine (compareFees_c q p _).mono ?_; rintro e w6 ⟨rfl, hG6⟩; have hG06 := hG7.drew.trans hG6; have hB8 := (hB7.quiet ((G.refl w5 none).drew)).quiet hG6; have hc2 : w6.cell? ⟨g, 2, none⟩ = some (.int .i64 p.2.2) := hB8.cell 2; have hbw := hG7.size; have hS6 : w6.cell? ⟨bb, bo + m * 3, none⟩ = some (.string q.1) ∧ w6.cell? ⟨bb, bo + m * 3 + 1, none⟩ = some (.string q.2.1) ∧ w6.cell? ⟨bb, bo + m * 3 + 2, none⟩ = some (.int .i64 q.2.2) ∧ w6.cell? ⟨g, 0, none⟩ = some (.string p.1) ∧ w6.cell? ⟨g, 1, none⟩ = some (.string p.2.1) ∧ w6.cell? ⟨g, 2, none⟩ = some (.int .i64 p.2.2) := ⟨((gcell hG6).1 bb _ (Nat.lt_of_lt_of_le hbb hbw)).trans d0, ((gcell hG6).1 bb _ (Nat.lt_of_lt_of_le hbb hbw)).trans d1, ((gcell hG6).1 bb _ (Nat.lt_of_lt_of_le hbb hbw)).trans d2, ((gcell hG6).1 g _ hg7).trans c0, ((gcell hG6).1 g _ hg7).trans c1, ((gcell hG6).1 g _ hg7).trans c2⟩))
                  cases h3 : inB p.2.2 0 1000000 with
                  | false =>
                    have HF : Hid (feE l = 1) := Lib.hid (by rw [H.out, HE.out, HS.out, if_neg (by simp [HK.out]), if_neg (by simp [HK2.out]), if_neg (by simp [HQ.out]), if_neg (by simp [HA.out]), if_pos h3])
                    go_wp2_with fail
                    refine (within_c _ _ _ _).mono ?_; rintro e w' ⟨rfl, rfl⟩
                    rw [h3]
                    go_wp2_with fail
                    go_ret
                    exact ⟨by rw [HF.out]; rfl, hG06⟩
                  | true =>
                    have HF : Hid (feErr none l = feErr (prevAt l ((m + 1) + 1)) (l.drop ((m + 1) + 1))) := Lib.hid (by rw [HE.out, HS.out, if_neg (by simp [HK.out]), if_neg (by simp [HK2.out]), if_neg (by simp [HQ.out]), if_neg (by simp [HA.out]), if_neg (by simp [h3]), prevAt_succ l (m + 1) p HP.out])
                    go_wp2_with fail
                    refine (within_c _ _ _ _).mono ?_; rintro e w' ⟨rfl, rfl⟩
                    rw [h3]
                    go_wp2_with fail
                    go_roundw
                    case rel => exact ⟨(m + 1) + 1, by omega, by go_num, HF.out, hG06⟩
                    case measure => simp [intOf]; omega
                · have HF : Hid (feE l = 7) := Lib.hid (by rw [H.out, HE.out, HS.out, if_neg (by simp [HK.out]), if_neg (by simp [HK2.out]), if_neg (by simp [HQ.out]), if_pos (by rw [HA1.out]; exact decide_eq_true hcf)])
                  go_region_held3 (fun w' => w'.cell? ⟨bb, bo + m * 3, none⟩ = some (.string q.1) ∧ w'.cell? ⟨bb, bo + m * 3 + 1, none⟩ = some (.string q.2.1) ∧ w'.cell? ⟨bb, bo + m * 3 + 2, none⟩ = some (.int .i64 q.2.2) ∧ w'.cell? ⟨g, 0, none⟩ = some (.string p.1) ∧ w'.cell? ⟨g, 1, none⟩ = some (.string p.2.1) ∧ w'.cell? ⟨g, 2, none⟩ = some (.int .i64 p.2.2)) (first | exact ⟨d0, d1, d2, c0, c1, c2⟩ | exact hS6 | go_keep) (first | (go_at_call 90; refine (compareFees_c q p _).mono ?_; rintro e w6 ⟨rfl, hG6⟩; have hG06 := hG7.drew.trans hG6; have hB8 := (hB7.quiet ((G.refl w5 none).drew)).quiet hG6; have hc2 : w6.cell? ⟨g, 2, none⟩ = some (.int .i64 p.2.2) := hB8.cell 2; have hbw := hG7.size; have hS6 : w6.cell? ⟨bb, bo + m * 3, none⟩ = some (.string q.1) ∧ w6.cell? ⟨bb, bo + m * 3 + 1, none⟩ = some (.string q.2.1) ∧ w6.cell? ⟨bb, bo + m * 3 + 2, none⟩ = some (.int .i64 q.2.2) ∧ w6.cell? ⟨g, 0, none⟩ = some (.string p.1) ∧ w6.cell? ⟨g, 1, none⟩ = some (.string p.2.1) ∧ w6.cell? ⟨g, 2, none⟩ = some (.int .i64 p.2.2) := ⟨((gcell hG6).1 bb _ (Nat.lt_of_lt_of_le hbb hbw)).trans d0, ((gcell hG6).1 bb _ (Nat.lt_of_lt_of_le hbb hbw)).trans d1, ((gcell hG6).1 bb _ (Nat.lt_of_lt_of_le hbb hbw)).trans d2, ((gcell hG6).1 g _ hg7).trans c0, ((gcell hG6).1 g _ hg7).trans c1, ((gcell hG6).1 g _ hg7).trans c2⟩))
                  go_wp2_with fail
                  go_ret
                  exact ⟨by rw [HF.out]; rfl, hG06⟩

      · obtain rfl : k = l.length := by omega
        have HE2 : Hid (feE l = 0) := Lib.hid (by rw [H.out, HE.out, List.drop_length]; rfl)
        go_wp2_with fail
        go_ret
        exact ⟨by rw [HE2.out]; rfl, hG⟩
end Go.Proofs.YtddedckehllkoaaDoor

/- Rates: compareRates, checkRate. -/
namespace Go.Proofs.YtddedckehllkoaaDoor
open Go.RowKit

/-- A rate: class, from, to, hour, day, weekend, week. -/
abbrev Ra := ByteArray × Int × Int × Int × Int × Int × Int
def raC (x : Ra) : Array Value := #[.string x.1, .int .i64 x.2.1, .int .i64 x.2.2.1, .int .i64 x.2.2.2.1, .int .i64 x.2.2.2.2.1, .int .i64 x.2.2.2.2.2.1, .int .i64 x.2.2.2.2.2.2]
theorem raC_sz (x : Ra) : (raC x).size = 7 := rfl
theorem ra_info (x : Ra) : (Tryd.prog.info? 54).map (·.size) = some (raC x).size := (by kernel_rfl : (Tryd.prog.info? 54).map (·.size) = some 7)
def raB (x : Ra) : Prop := Small x.1 ∧ bnd x.2.1 ∧ bnd x.2.2.1 ∧ bnd x.2.2.2.1 ∧ bnd x.2.2.2.2.1 ∧ bnd x.2.2.2.2.2.1 ∧ bnd x.2.2.2.2.2.2
def RaOk (l : List Ra) : Prop := ∀ x ∈ l, raB x
def cmpS (x y : Int) : Int := if x < y then -1 else if y < x then 1 else 0
def cmpR (x y : Ra) : Int := orI (cmpI x.1 y.1) (cmpS x.2.1 y.2.1)
set_option maxRecDepth 100000 in
theorem isNaN_c (x : Int) (w : World) : Calls Tryd.prog 134 #[.int .i64 x] w fun e w' => e = .returned (.bool false) ∧ w = w' := by
  go_enter Tryd.func134, Tryd.ntmps134
  go_wp2_with fail
  go_ret
  exact ⟨ret_bool (by simp), rfl⟩
set_option maxRecDepth 100000 in
theorem cmpInt_c (x y : Int) (w : World) : Calls Tryd.prog 114 #[.int .i64 x, .int .i64 y] w fun e w' => e = .returned (.int .i64 (cmpS x y)) ∧ w = w' := by
  rcases (show x < y ∨ y < x ∨ x = y by omega) with h | h | h
  · have HF : Hid (cmpS x y = -1) := Lib.hid (by simp [cmpS, h])
    go_enter Tryd.func114, Tryd.ntmps114
    go_wp2_with fail
    refine (isNaN_c _ _).mono ?_; rintro e w' ⟨rfl, rfl⟩
    go_wp2_with fail
    refine (isNaN_c _ _).mono ?_; rintro e w' ⟨rfl, rfl⟩
    go_wp2_with fail
    go_ret
    exact ⟨by rw [HF.out]; rfl, rfl⟩
  · have HF : Hid (cmpS x y = 1) := Lib.hid (by rw [cmpS, if_neg (by omega), if_pos h])
    go_enter Tryd.func114, Tryd.ntmps114
    go_wp2_with fail
    refine (isNaN_c _ _).mono ?_; rintro e w' ⟨rfl, rfl⟩
    go_wp2_with fail
    refine (isNaN_c _ _).mono ?_; rintro e w' ⟨rfl, rfl⟩
    go_wp2_with fail
    go_ret
    exact ⟨by rw [HF.out]; rfl, rfl⟩
  · have HF : Hid (cmpS x y = 0) := Lib.hid (by rw [cmpS, if_neg (by omega), if_neg (by omega)])
    go_enter Tryd.func114, Tryd.ntmps114
    go_wp2_with fail
    refine (isNaN_c _ _).mono ?_; rintro e w' ⟨rfl, rfl⟩
    go_wp2_with fail
    refine (isNaN_c _ _).mono ?_; rintro e w' ⟨rfl, rfl⟩
    go_wp2_with fail
    go_ret
    exact ⟨by rw [HF.out]; rfl, rfl⟩
set_option maxRecDepth 100000 in
set_option maxHeartbeats 2000000 in
theorem compareRates_c (x y : Ra) (w : World) :
    Calls Tryd.prog 84 #[.agg (raC x), .agg (raC y)] w fun e w' => e = .returned (.int .i64 (cmpR x y)) ∧ G w w' none := by
  have hBx := (Bk.new w 54 (raC x)).alloc (.cells (raC y) 54)
  have hBy := Bk.newAt (w := w.alloc (.cells (raC x) 54)) (b := w.heap.size + 1) (by simp) 54 (raC y)
  have hG := ((G.refl w none).alloc (.cells (raC x) 54)).alloc (.cells (raC y) 54)
  have HF : Hid (orI (cmpI x.1 y.1) (cmpS x.2.1 y.2.1) = cmpR x y) := Lib.hid rfl
  go_enter Tryd.func84, Tryd.ntmps84
  go_wp2_with fail
  generalize ((w.alloc (.cells (raC x) 54)).alloc (.cells (raC y) 54)) = w3 at hBx hBy hG ⊢
  have c1 : w3.cell? ⟨w.heap.size, 0, none⟩ = some (.string x.1) := hBx.cell 0
  have c2 : w3.cell? ⟨w.heap.size, 1, none⟩ = some (.int .i64 x.2.1) := hBx.cell 1
  have c3 : w3.cell? ⟨w.heap.size + 1, 0, none⟩ = some (.string y.1) := hBy.cell 0
  have c4 : w3.cell? ⟨w.heap.size + 1, 1, none⟩ = some (.int .i64 y.2.1) := hBy.cell 1
  have hGd := hG.drew
  clear hBx hBy hG
  go_region_held3 (fun w' => w'.cell? ⟨w.heap.size, 0, none⟩ = some (.string x.1) ∧ w'.cell? ⟨w.heap.size, 1, none⟩ = some (.int .i64 x.2.1) ∧ w'.cell? ⟨w.heap.size + 1, 0, none⟩ = some (.string y.1) ∧ w'.cell? ⟨w.heap.size + 1, 1, none⟩ = some (.int .i64 y.2.1)) (first | exact ⟨c1, c2, c3, c4⟩ | go_keep) (first | (go_at_call 113; refine (compare_c _ _ _).mono ?_; rintro e w' ⟨rfl, rfl⟩) | (go_at_call 114; refine (cmpInt_c _ _ _).mono ?_; rintro e w' ⟨rfl, rfl⟩) | (go_at_call 112; refine (or2_c _ _ _ _ ((Bk.new w3 _ _).quiet ((G.refl _ none).drew))).mono ?_; rintro e w' ⟨rfl, rfl⟩))
  go_wp2_with fail
  go_ret
  exact ⟨ret_int HF.out, hGd.alloc _⟩
def spanB (a z : Int) : Bool := decide (0 ≤ a) && (decide (a < z) && decide (z ≤ 4001))
def priceB (h d e v : Int) : Bool := inB h (-1) 1000000 && (inB d (-1) 1000000 && (inB e (-1) 1000000 && inB v (-1) 1000000))
def chE (x : Ra) : Int := if keyB x.1 = false then 5 else if spanB x.2.1 x.2.2.1 = false then 1 else if priceB x.2.2.2.1 x.2.2.2.2.1 x.2.2.2.2.2.1 x.2.2.2.2.2.2 = false then 1 else 0
set_option maxRecDepth 100000 in
set_option maxHeartbeats 4000000 in
theorem checkRate_c (x : Ra) (w : World) (hs : Small x.1) :
    Calls Tryd.prog 83 #[.agg (raC x)] w fun e w' => e = .returned (.int .i64 (chE x)) ∧ G w w' none := by
  obtain ⟨k, a, z, h, d, e4, v⟩ := x
  unfold Small at hs
  dsimp only at hs
  have HB : Hid (chE (k, a, z, h, d, e4, v) = if keyB k = false then 5 else if spanB a z = false then 1 else if priceB h d e4 v = false then 1 else 0) := Lib.hid rfl
  have hG : G w (w.alloc (.cells (raC (k, a, z, h, d, e4, v)) 54)) none := (G.refl w none).alloc _
  have hB := Bk.new w 54 (raC (k, a, z, h, d, e4, v))
  generalize chE (k, a, z, h, d, e4, v) = E at HB ⊢
  rw [show raC (k, a, z, h, d, e4, v) = #[.string k, .int .i64 a, .int .i64 z, .int .i64 h, .int .i64 d, .int .i64 e4, .int .i64 v] from rfl] at *
  clear hB
  have i0 : ∀ w : World, (Instr.index 174 (.agg #[.int .i64 h, .int .i64 d, .int .i64 e4, .int .i64 v]) (.int .i64 0)).run Tryd.prog w = .ok (.int .i64 h) w := fun _ => by kernel_rfl
  have i1 : ∀ w : World, (Instr.index 174 (.agg #[.int .i64 h, .int .i64 d, .int .i64 e4, .int .i64 v]) (.int .i64 1)).run Tryd.prog w = .ok (.int .i64 d) w := fun _ => by kernel_rfl
  have i2 : ∀ w : World, (Instr.index 174 (.agg #[.int .i64 h, .int .i64 d, .int .i64 e4, .int .i64 v]) (.int .i64 2)).run Tryd.prog w = .ok (.int .i64 e4) w := fun _ => by kernel_rfl
  have i3 : ∀ w : World, (Instr.index 174 (.agg #[.int .i64 h, .int .i64 d, .int .i64 e4, .int .i64 v]) (.int .i64 3)).run Tryd.prog w = .ok (.int .i64 v) w := fun _ => by kernel_rfl
  go_enter Tryd.func83, Tryd.ntmps83
  go_wp2_with fail
  refine (isKey_c k _ hs).mono ?_; rintro e w' ⟨rfl, rfl⟩
  cases hk : keyB k with
  | false =>
    have HF : Hid (E = 5) := Lib.hid (by rw [HB.out, if_pos hk])
    clear hk
    go_wp2_with fail
    go_ret
    exact ⟨by rw [HF.out]; rfl, hG⟩
  | true =>
    have HS : Hid (E = if spanB a z = false then 1 else if priceB h d e4 v = false then 1 else 0) := Lib.hid (by rw [HB.out, if_neg (by simp [hk])])
    clear hk HB
    rcases (show a < 0 ∨ (0 ≤ a ∧ z ≤ a) ∨ (0 ≤ a ∧ a < z ∧ 4001 < z) ∨ (0 ≤ a ∧ a < z ∧ z ≤ 4001) by omega) with h1 | ⟨h1, h2⟩ | ⟨h1, h2, h3⟩ | ⟨h1, h2, h3⟩
    · have HF : Hid (E = 1) := Lib.hid (by rw [HS.out, if_pos (by rw [spanB, decide_eq_false (by omega)]; rfl)])
      go_wp2_with fail
      go_ret
      exact ⟨by rw [HF.out]; rfl, hG⟩
    · have HF : Hid (E = 1) := Lib.hid (by rw [HS.out, if_pos (by rw [spanB, decide_eq_false (show ¬ a < z by omega)]; simp)])
      go_wp2_with fail
      go_ret
      exact ⟨by rw [HF.out]; rfl, hG⟩
    · have HF : Hid (E = 1) := Lib.hid (by rw [HS.out, if_pos (by rw [spanB, decide_eq_false (show ¬ z ≤ 4001 by omega)]; simp)])
      go_wp2_with fail
      go_ret
      exact ⟨by rw [HF.out]; rfl, hG⟩
    · have HP : Hid (E = if priceB h d e4 v = false then 1 else 0) := Lib.hid (by rw [HS.out, if_neg (by simp [spanB, h1, h2, h3])])
      clear HS
      cases p1 : inB h (-1) 1000000 with
      | false =>
        have HF : Hid (E = 1) := Lib.hid (by rw [HP.out, if_pos (by simp [priceB, p1])])
        clear HP
        go_wp2_with fail
        refine wp_loop_rounds 5 ?_
        rw [rounds_succ]
        go_wp2_with fail
        refine (within_c _ _ _ _).mono ?_; rintro e w' ⟨rfl, rfl⟩
        rw [p1]
        go_wp2_with fail
        go_ret
        exact ⟨by rw [HF.out]; rfl, hG⟩
      | true =>
        cases p2 : inB d (-1) 1000000 with
        | false =>
          have HF : Hid (E = 1) := Lib.hid (by rw [HP.out, if_pos (by simp [priceB, p2])])
          clear HP
          go_wp2_with fail
          refine wp_loop_rounds 5 ?_
          rw [rounds_succ]
          go_wp2_with fail
          refine (within_c _ _ _ _).mono ?_; rintro e w' ⟨rfl, rfl⟩
          rw [p1]
          go_wp2_with fail
          rw [rounds_succ]
          go_wp2_with fail
          refine (within_c _ _ _ _).mono ?_; rintro e w' ⟨rfl, rfl⟩
          rw [p2]
          go_wp2_with fail
          go_ret
          exact ⟨by rw [HF.out]; rfl, hG⟩
        | true =>
          cases p3 : inB e4 (-1) 1000000 with
          | false =>
            have HF : Hid (E = 1) := Lib.hid (by rw [HP.out, if_pos (by simp [priceB, p3])])
            clear HP
            go_wp2_with fail
            refine wp_loop_rounds 5 ?_
            rw [rounds_succ]
            go_wp2_with fail
            refine (within_c _ _ _ _).mono ?_; rintro e w' ⟨rfl, rfl⟩
            rw [p1]
            go_wp2_with fail
            rw [rounds_succ]
            go_wp2_with fail
            refine (within_c _ _ _ _).mono ?_; rintro e w' ⟨rfl, rfl⟩
            rw [p2]
            go_wp2_with fail
            rw [rounds_succ]
            go_wp2_with fail
            refine (within_c _ _ _ _).mono ?_; rintro e w' ⟨rfl, rfl⟩
            rw [p3]
            go_wp2_with fail
            go_ret
            exact ⟨by rw [HF.out]; rfl, hG⟩
          | true =>
            have HF : Hid (E = if inB v (-1) 1000000 = false then 1 else 0) := Lib.hid (by rw [HP.out]; simp [priceB, p1, p2, p3])
            clear HP
            go_wp2_with fail
            refine wp_loop_rounds 5 ?_
            rw [rounds_succ]
            go_wp2_with fail
            refine (within_c _ _ _ _).mono ?_; rintro e w' ⟨rfl, rfl⟩
            rw [p1]
            go_wp2_with fail
            rw [rounds_succ]
            go_wp2_with fail
            refine (within_c _ _ _ _).mono ?_; rintro e w' ⟨rfl, rfl⟩
            rw [p2]
            go_wp2_with fail
            rw [rounds_succ]
            go_wp2_with fail
            refine (within_c _ _ _ _).mono ?_; rintro e w' ⟨rfl, rfl⟩
            rw [p3]
            go_wp2_with fail
            rw [rounds_succ]
            go_wp2_with fail
            refine (within_c _ _ _ _).mono ?_; rintro e w' ⟨rfl, rfl⟩
            cases p4 : inB v (-1) 1000000 with
            | false =>
              rw [p4] at HF
              go_wp2_with fail
              go_ret
              exact ⟨by rw [HF.out]; rfl, hG⟩
            | true =>
              rw [p4] at HF
              go_wp2_with fail
              rw [rounds_succ]
              go_wp2_with fail
              go_ret
              exact ⟨by rw [HF.out]; rfl, hG⟩
end Go.Proofs.YtddedckehllkoaaDoor

/- Rates: CheckRates. -/
namespace Go.Proofs.YtddedckehllkoaaDoor
open Go.RowKit

def raAfter (b : Option Ra) (x : Ra) : Bool := match b with | none => false | some y => decide (0 ≤ cmpR y x)
def raHits (b : Option Ra) (x : Ra) : Bool := match b with | none => false | some y => eqB y.1 x.1 && decide (x.2.1 < y.2.2.1)
def raErr : Option Ra → List Ra → Int
  | _, [] => 0
  | b, x :: r => if chE x = 0 then (if raAfter b x = true then 7 else if raHits b x = true then 13 else raErr (some x) r) else chE x
def raE (l : List Ra) : Int := if 200 < l.length then 2 else raErr none l
def RaRel (w : World) (l : List Ra) (i : Value) (wr : World) : Prop :=
  ∃ k : Nat, k ≤ l.length ∧ i = .int .i64 k ∧ raErr none l = raErr (prevAt l k) (l.drop k) ∧ G w wr none
theorem raRow {W w : World} {bb bo n cap : Nat} {l : List Ra} (h : RdR W 7 raC (.slice (some ⟨bb, bo, none⟩) n cap) l) (hG : G W w none) {k : Nat} {p : Ra} (hp : l[k]? = some p) :
    ∀ j v, (raC p).toList[j]? = some v → w.cell? ((⟨bb, bo + k * 7, none⟩ : Addr).add j) = some v := fun j v hv => by
  rw [add_at]
  exact RdR.cell raC_sz h hG hp j v hv
theorem bkRow {w : World} {g : Nat} {T : TypeId} {cs : Array Value} (h : Bk w g T cs) : ∀ j v, cs.toList[j]? = some v → w.cell? ((⟨g, 0, none⟩ : Addr).add j) = some v := fun j v hv => by
  rw [add_at, Nat.zero_add, h.cell]
  simpa using hv
set_option maxRecDepth 100000 in
set_option maxHeartbeats 4000000 in
theorem checkRates_c (v : Value) (l : List Ra) (w : World) (hr : RdR w 7 raC v l) (hl : RaOk l) (hn : l.length ≤ 1000) :
    Calls Tryd.prog 28 #[v] w fun e w' => e = .returned (.int .i64 (raE l)) ∧ G w w' none := by
  have HR := Lib.hid hr
  obtain ⟨a, cap, rfl, hcap, hm⟩ := RdR.form hr
  clear hr
  by_cases h30 : 200 < l.length
  · have H := Lib.hid (show raE l = 2 by simp [raE, h30])
    go_enter Tryd.func28, Tryd.ntmps28
    go_wp2_with fail
    go_ret
    exact ⟨by rw [H.out]; rfl, G.refl _ _⟩
  · have H := Lib.hid (show raE l = raErr none l by simp [raE, h30])
    go_enter Tryd.func28, Tryd.ntmps28
    go_wp2_with fail
    go_loopw [12] (RaRel w l) (fun i _ => l.length - (intOf i).toNat)
    case atStart => exact ⟨0, by omega, rfl, rfl, G.refl _ _⟩
    case round =>
      obtain ⟨k, hkl, rfl, heq, hG⟩ := hrel
      have HE := Lib.hid heq
      clear heq
      by_cases hk : k < l.length
      · obtain ⟨p, hp⟩ : ∃ p, l[k]? = some p := ⟨_, List.getElem?_eq_getElem hk⟩
        have hdrop : l.drop k = p :: l.drop (k + 1) := by rw [List.drop_eq_getElem_cons hk, ← (List.getElem?_eq_some_iff.1 hp).2]
        have hpl := hl p (List.mem_of_getElem? hp)
        obtain ⟨bb, bo, rfl, hbb, _⟩ := RdR.elem raC_sz HR.out hG hp
        have HW := Lib.hid (raRow HR.out hG hp)
        have HP := Lib.hid hp
        have hs1 := hpl.1
        have HS : Hid (raErr (prevAt l k) (l.drop k) = if chE p = 0 then (if raAfter (prevAt l k) p = true then 7 else if raHits (prevAt l k) p = true then 13 else raErr (some p) (l.drop (k + 1))) else chE p) := Lib.hid (by rw [hdrop]; rfl)
        have HL := Lib.hid (bkRow (Bk.new wr 54 (raC p)))
        clear hdrop hp hpl
        go_wp2_with (first | (refine wpList_load_at rfl 54 _ rfl ⟨bb, bo + k * 7, none⟩ rfl #[.string p.1, .int .i64 p.2.1, .int .i64 p.2.2.1, .int .i64 p.2.2.2.1, .int .i64 p.2.2.2.2.1, .int .i64 p.2.2.2.2.2.1, .int .i64 p.2.2.2.2.2.2] _ HW.out Tryd.underlying54 rfl (ra_info p) ?_) | (refine wpList_load_at rfl 54 _ rfl ⟨wr.heap.size, 0, none⟩ rfl #[.string p.1, .int .i64 p.2.1, .int .i64 p.2.2.1, .int .i64 p.2.2.2.1, .int .i64 p.2.2.2.2.1, .int .i64 p.2.2.2.2.2.1, .int .i64 p.2.2.2.2.2.2] _ HL.out Tryd.underlying54 rfl (ra_info p) ?_))
        refine (checkRate_c p _ hs1).mono ?_; rintro e w1 ⟨rfl, hG1⟩
        have hpb := Bk.new wr 54 (raC p)
        have hpn : (wr.alloc (.cells (raC p) 54)).heap.size = wr.heap.size + 1 := by simp
        have hG01 := (hG.alloc (.cells (raC p) 54)).trans hG1
        have hB5 := hpb.quiet hG1
        have hg5 := hB5.lt
        clear hG hG1 HW HL hpb hpn
        generalize wr.heap.size = g at hB5 hg5 ⊢
        by_cases hch : chE p = 0
        · rw [hch]
          cases k with
          | zero =>
            have HF : Hid (raErr none l = raErr (prevAt l (0 + 1)) (l.drop (0 + 1))) := Lib.hid (by rw [HE.out, HS.out, if_pos hch, if_neg (by simp [raAfter, prevAt]), if_neg (by simp [raHits, prevAt]), prevAt_succ l 0 p HP.out])
            clear hch HS HE
            go_wp2_with fail
            go_roundw
            case rel => exact ⟨0 + 1, by omega, by go_num, HF.out, hG01⟩
            case measure => simp [intOf]; omega
          | succ m =>
            obtain ⟨q, hq2⟩ : ∃ q, l[m]? = some q := ⟨_, List.getElem?_eq_getElem (by omega)⟩
            have HPA : Hid (prevAt l (m + 1) = some q) := Lib.hid (prevAt_succ l m q hq2)
            have HX : Hid (raErr none l = if raAfter (some q) p = true then 7 else if raHits (some q) p = true then 13 else raErr (some p) (l.drop (m + 1 + 1))) := Lib.hid (by rw [HE.out, HS.out, if_pos hch, HPA.out])
            have hsub : IntKind.i64.wrap (((m + 1 : Nat) : Int) - 1) = (m : Int) := by rw [show ((m + 1 : Nat) : Int) - 1 = (m : Int) by omega]; rw [IntKind.wrap_i64]; omega
            have hsub2 : IntKind.i64.wrap (m : Int) = (m : Int) := by rw [IntKind.wrap_i64]; omega
            have hsub3 : IntKind.i64.wrap ((m : Int) + 1 - 1) = (m : Int) := by rw [IntKind.wrap_i64]; omega
            have hm0 : (0 : Int) ≤ (m : Int) := Int.natCast_nonneg m
            have hml : (m : Int) < (l.length : Int) := by omega
            have HW := Lib.hid (raRow HR.out hG01 hq2)
            have HL1 := Lib.hid (bkRow (hB5.alloc (.cells (raC q) 54)))
            have HL2 := Lib.hid (bkRow (Bk.new w1 54 (raC q)))
            have HB6 := Lib.hid (hB5.alloc (.cells (raC q) 54))
            have HB7 := Lib.hid (Bk.new w1 54 (raC q))
            clear hq2 hch HS HE hB5
            go_wp2_with (first | (refine wpList_load_at rfl 54 _ rfl ⟨bb, bo + m * 7, none⟩ rfl #[.string q.1, .int .i64 q.2.1, .int .i64 q.2.2.1, .int .i64 q.2.2.2.1, .int .i64 q.2.2.2.2.1, .int .i64 q.2.2.2.2.2.1, .int .i64 q.2.2.2.2.2.2] _ HW.out Tryd.underlying54 rfl (ra_info q) ?_) | (refine wpList_load_at rfl 54 _ rfl ⟨g, 0, none⟩ rfl #[.string p.1, .int .i64 p.2.1, .int .i64 p.2.2.1, .int .i64 p.2.2.2.1, .int .i64 p.2.2.2.2.1, .int .i64 p.2.2.2.2.2.1, .int .i64 p.2.2.2.2.2.2] _ HL1.out Tryd.underlying54 rfl (ra_info p) ?_) | (refine wpList_load_at rfl 54 _ rfl ⟨w1.heap.size, 0, none⟩ rfl #[.string q.1, .int .i64 q.2.1, .int .i64 q.2.2.1, .int .i64 q.2.2.2.1, .int .i64 q.2.2.2.2.1, .int .i64 q.2.2.2.2.2.1, .int .i64 q.2.2.2.2.2.2] _ HL2.out Tryd.underlying54 rfl (ra_info q) ?_))
            refine (compareRates_c q p _).mono ?_; rintro e w2 ⟨rfl, hG2⟩
            have hB8 := HB6.out.quiet hG2
            have hB9 := HB7.out.quiet hG2
            have hG02 := (hG01.alloc (.cells (raC q) 54)).trans hG2
            have c0 : w2.cell? ⟨g, 0, none⟩ = some (.string p.1) := hB8.cell 0
            have c1 : w2.cell? ⟨g, 1, none⟩ = some (.int .i64 p.2.1) := hB8.cell 1
            have d0 : w2.cell? ⟨w1.heap.size, 0, none⟩ = some (.string q.1) := hB9.cell 0
            have d2 : w2.cell? ⟨w1.heap.size, 2, none⟩ = some (.int .i64 q.2.2.1) := hB9.cell 2
            have HY : Hid (raErr none l = if 0 ≤ cmpR q p then 7 else if raHits (some q) p = true then 13 else raErr (some p) (l.drop (m + 1 + 1))) := Lib.hid (by rw [HX.out]; simp [raAfter])
            clear hG2 hB8 hB9 HX HW HL1 HL2 HB6 HB7 hG01
            generalize cmpR q p = C at HY ⊢
            rcases (show 0 ≤ C ∨ C < 0 by omega) with hC | hC
            · have HF : Hid (raE l = 7) := Lib.hid (by rw [H.out, HY.out, if_pos hC])
              go_wp2_with fail
              go_ret
              exact ⟨by rw [HF.out]; rfl, hG02⟩
            · have HZ : Hid (raErr none l = if raHits (some q) p = true then 13 else raErr (some p) (l.drop (m + 1 + 1))) := Lib.hid (by rw [HY.out, if_neg (by omega)])
              clear HY
              cases hq : eqB q.1 p.1 with
              | false =>
                have HF : Hid (raErr none l = raErr (prevAt l (m + 1 + 1)) (l.drop (m + 1 + 1))) := Lib.hid (by rw [HZ.out, if_neg (by simp [raHits, hq]), prevAt_succ l (m + 1) p HP.out])
                unfold eqB at hq
                clear HZ
                go_wp2_with fail
                go_roundw
                case rel => exact ⟨m + 1 + 1, by omega, by go_num, HF.out, hG02⟩
                case measure => simp [intOf]; omega
              | true =>
                rcases (show p.2.1 < q.2.2.1 ∨ q.2.2.1 ≤ p.2.1 by omega) with hz | hz
                · have HF : Hid (raE l = 13) := Lib.hid (by rw [H.out, HZ.out, if_pos (by simp [raHits, hq, hz])])
                  unfold eqB at hq
                  clear HZ
                  go_wp2_with fail
                  go_ret
                  exact ⟨by rw [HF.out]; rfl, hG02⟩
                · have HF : Hid (raErr none l = raErr (prevAt l (m + 1 + 1)) (l.drop (m + 1 + 1))) := Lib.hid (by rw [HZ.out, if_neg (by simp [raHits, hq, hz]), prevAt_succ l (m + 1) p HP.out])
                  unfold eqB at hq
                  clear HZ
                  go_wp2_with fail
                  go_roundw
                  case rel => exact ⟨m + 1 + 1, by omega, by go_num, HF.out, hG02⟩
                  case measure => simp [intOf]; omega
        · have HF : Hid (raE l = chE p) := Lib.hid (by rw [H.out, HE.out, HS.out, if_neg hch])
          have hch' : (chE p != 0) = true := by rw [bne_iff_ne]; exact hch
          clear hch
          go_wp2_with fail
          go_ret
          exact ⟨by rw [HF.out]; rfl, hG01⟩
      · obtain rfl : k = l.length := by omega
        have HE2 : Hid (raE l = 0) := Lib.hid (by rw [H.out, HE.out, List.drop_length]; rfl)
        go_wp2_with fail
        go_ret
        exact ⟨by rw [HE2.out]; rfl, hG⟩
end Go.Proofs.YtddedckehllkoaaDoor

/- Rates: seasonOn, RateOn; the reference's RateAt. -/
namespace Go.Proofs.YtddedckehllkoaaDoor
open Go.RowKit

/-- Two results, the first a struct that lies in memory. -/
theorem results_cell_two {P : Program} {fn : Func} {p u : Tmp} {ty : TypeId} (h : fn.results = #[.cell p ty, .tmp u]) (tmps : Array Value) (w : World) (g : Nat) (t : TypeId) (cs : Array Value) (fr : Nat × Nat) (d : TypeDesc)
    (hp : tmps.getD p undef = .pointer (some ⟨g, 0, none⟩)) (hg : w.heap[g]? = some (.cells cs t fr))
    (hu : P.underlying ty = some d) (hd : (match d with | .struct _ | .array _ _ => true | _ => false) = true) (hi : (P.info? ty).map (·.size) = some cs.size) :
    (results fn tmps).run P w = .ok (.tuple #[.agg cs, tmps.getD u undef]) w := by
  have hp' : tmps[p]?.getD undef = .pointer (some ⟨g, 0, none⟩) := by simpa using hp
  simp [results, h, hp', asAddr, run_loadVar_row w g t ty cs fr d hg hu hd hi]
theorem raC_one (r : Ra) : ∀ u ∈ (raC r).toList, u.oneCell' = true := by
  intro u hu
  simp [raC] at hu
  rcases hu with rfl | rfl | rfl | rfl | rfl | rfl | rfl <;> rfl
def raZ : Ra := (⟨#[]⟩, 0, 0, 0, 0, 0, 0)
def raF (k : ByteArray) (d : Int) (x : Ra) : Bool := eqB x.1 k && (decide (x.2.1 ≤ d) && decide (d < x.2.2.1))
/-- The pointer to the element of that number; below 0: nil. -/
def raPtr : Value → Int → Value
  | .slice (some ⟨b, o, _⟩) _ _, .ofNat i => .pointer (some ⟨b, o + i * 7, none⟩)
  | _, _ => .pointer none
def SeaRel (w : World) (l : List Ra) (k : ByteArray) (d : Int) (i : Value) (wr : World) : Prop :=
  ∃ n : Nat, n ≤ l.length ∧ i = .int .i64 n ∧ ixP (raF k d) l 0 = ixP (raF k d) (l.drop n) n ∧ w = wr
set_option maxRecDepth 100000 in
set_option maxHeartbeats 4000000 in
theorem seasonOn_c (v : Value) (l : List Ra) (k : ByteArray) (d : Int) (w : World) (hr : RdR w 7 raC v l) (hn : l.length ≤ 1000) :
    Calls Tryd.prog 82 #[v, .string k, .int .i64 d] w fun e w' => e = .returned (raPtr v (ixP (raF k d) l 0)) ∧ w = w' := by
  have HR := Lib.hid hr
  obtain ⟨a, cap, rfl, hcap, hm⟩ := RdR.form hr
  clear hr
  have HV : Hid (∀ i : Int, raPtr (.slice a l.length cap) i = raPtr (.slice a l.length cap) i) := Lib.hid fun _ => rfl
  go_enter Tryd.func82, Tryd.ntmps82
  go_wp2_with fail
  go_loopw [11] (SeaRel w l k d) (fun i _ => l.length - (intOf i).toNat)
  case atStart => exact ⟨0, by omega, rfl, rfl, rfl⟩
  case round =>
    obtain ⟨n, hnl, rfl, heq, rfl⟩ := hrel
    have HE := Lib.hid heq
    clear heq
    by_cases hlt : n < l.length
    · obtain ⟨p, hp⟩ : ∃ p, l[n]? = some p := ⟨_, List.getElem?_eq_getElem hlt⟩
      have HD : Hid (ixP (raF k d) l 0 = if raF k d p = true then (n : Int) else ixP (raF k d) (l.drop (n + 1)) (n + 1 : Nat)) := Lib.hid (by
        rw [HE.out, List.drop_eq_getElem_cons hlt, (List.getElem?_eq_some_iff.1 hp).2]; rfl)
      obtain ⟨bb, bo, rfl, hbb, _⟩ := RdR.elem raC_sz HR.out (G.refl w none) hp
      have c0 := RdR.cell raC_sz HR.out (G.refl w none) hp 0 (.string p.1) rfl
      have c1 := RdR.cell raC_sz HR.out (G.refl w none) hp 1 (.int .i64 p.2.1) rfl
      have c2 := RdR.cell raC_sz HR.out (G.refl w none) hp 2 (.int .i64 p.2.2.1) rfl
      simp only [Nat.add_zero] at c0
      have HEF : Hid (raF k d p = (eqB p.1 k && (decide (p.2.1 ≤ d) && decide (d < p.2.2.1)))) := Lib.hid rfl
      clear hp
      cases h1 : eqB p.1 k with
      | false =>
        have HF : Hid (ixP (raF k d) l 0 = ixP (raF k d) (l.drop (n + 1)) (n + 1 : Nat)) := Lib.hid (by rw [HD.out, if_neg (by simp [HEF.out, h1])])
        unfold eqB at h1
        clear HD HEF
        go_wp2_with fail
        go_roundw
        case rel => exact ⟨n + 1, by omega, by go_num, HF.out, rfl⟩
        case measure => simp [intOf]; omega
      | true =>
        have H1 := Lib.hid h1
        unfold eqB at h1
        rcases (show d < p.2.1 ∨ (p.2.1 ≤ d ∧ p.2.2.1 ≤ d) ∨ (p.2.1 ≤ d ∧ d < p.2.2.1) by omega) with h2 | ⟨h2, h3⟩ | ⟨h2, h3⟩
        · have HF : Hid (ixP (raF k d) l 0 = ixP (raF k d) (l.drop (n + 1)) (n + 1 : Nat)) := Lib.hid (by rw [HD.out, if_neg (by rw [HEF.out, decide_eq_false (show ¬ p.2.1 ≤ d by omega)]; simp)])
          clear HD HEF
          go_wp2_with fail
          go_roundw
          case rel => exact ⟨n + 1, by omega, by go_num, HF.out, rfl⟩
          case measure => simp [intOf]; omega
        · have HF : Hid (ixP (raF k d) l 0 = ixP (raF k d) (l.drop (n + 1)) (n + 1 : Nat)) := Lib.hid (by rw [HD.out, if_neg (by rw [HEF.out, decide_eq_false (show ¬ d < p.2.2.1 by omega)]; simp)])
          clear HD HEF
          go_wp2_with fail
          go_roundw
          case rel => exact ⟨n + 1, by omega, by go_num, HF.out, rfl⟩
          case measure => simp [intOf]; omega
        · have HF : Hid (ixP (raF k d) l 0 = (n : Int)) := Lib.hid (by rw [HD.out, if_pos (by rw [HEF.out, H1.out, decide_eq_true h2, decide_eq_true h3]; rfl)])
          clear HD HEF
          go_wp2_with fail
          go_ret
          exact ⟨by rw [HF.out]; rfl, rfl⟩
    · obtain rfl : n = l.length := by omega
      have HF : Hid (ixP (raF k d) l 0 = -1) := Lib.hid (by rw [HE.out, List.drop_length]; rfl)
      go_wp2_with fail
      go_ret
      exact ⟨by rw [HF.out]; cases a <;> rfl, rfl⟩
end Go.Proofs.YtddedckehllkoaaDoor

/- The reference's FeesFault. -/
namespace Go.Proofs.YtddedckehllkoaaDoor
open Go.RowKit

set_option maxRecDepth 100000 in
set_option maxHeartbeats 4000000 in
theorem feesFault_c (v : Value) (l : List Fe) (w : World) (hr : RdR w 3 feC v l) (hl : FeOk l) (hn : l.length ≤ 1000) :
    Calls Tryd.prog 40 #[v] w fun e w' => e = .returned (.int .i64 (feE l)) ∧ G w w' none := by
  have HR := Lib.hid hr
  obtain ⟨a, cap, rfl, hcap, hm⟩ := RdR.form hr
  clear hr
  by_cases h30 : 500 < l.length
  · have H := Lib.hid (show feE l = 2 by simp [feE, h30])
    go_enter Tryd.func40, Tryd.ntmps40
    go_wp2_with fail
    go_ret
    exact ⟨by rw [H.out]; rfl, G.refl _ _⟩
  · have H := Lib.hid (show feE l = feErr none l by simp [feE, h30])
    go_enter Tryd.func40, Tryd.ntmps40
    go_wp2_with fail
    go_loopw [10] (FeRel w l) (fun i _ => l.length - (intOf i).toNat)
    case atStart => exact ⟨0, by omega, rfl, rfl, G.refl _ _⟩
    case round =>
      obtain ⟨k, hkl, rfl, heq, hG⟩ := hrel
      have HE := Lib.hid heq
      clear heq
      by_cases hk : k < l.length
      · obtain ⟨p, hp⟩ : ∃ p, l[k]? = some p := ⟨_, List.getElem?_eq_getElem hk⟩
        have hdrop : l.drop k = p :: l.drop (k + 1) := by rw [List.drop_eq_getElem_cons hk, ← (List.getElem?_eq_some_iff.1 hp).2]
        have hpl := hl p (List.mem_of_getElem? hp)
        obtain ⟨bb, bo, rfl, hbb, hrow⟩ := RdR.elem feC_sz HR.out hG hp
        have HW := Lib.hid hrow
        have HP := Lib.hid hp
        have hs1 := hpl.1
        have hs2 := hpl.2.1
        unfold Small at hs1 hs2
        have HS : Hid (feErr (prevAt l k) (l.drop k) = if keyB p.1 = false then 5 else if keyB p.2.1 = false then 5 else if eqB p.1 p.2.1 = true then 14 else if feAfter (prevAt l k) p = true then 7 else if inB p.2.2 0 1000000 = false then 1 else feErr (some p) (l.drop (k + 1))) := Lib.hid (by rw [hdrop]; rfl)
        clear hrow hdrop hp hpl
        go_wp2_with (refine wpList_load_at rfl 134 _ rfl ⟨bb, bo + k * 3, none⟩ rfl #[.string p.1, .string p.2.1, .int .i64 p.2.2] _ HW.out Tryd.underlying134 rfl (fe_info p) ?_)
        refine (rkey_c _ _ hs1).mono ?_; rintro e w1 ⟨rfl, hG1⟩
        have hB5 := (Bk.new wr 134 (feC p)).quiet hG1
        have hc0 := hB5.cell 0
        have hc1 := hB5.cell 1
        have hc2 := hB5.cell 2
        rw [show (feC p)[0]? = some (.string p.1) from rfl] at hc0
        rw [show (feC p)[1]? = some (.string p.2.1) from rfl] at hc1
        rw [show (feC p)[2]? = some (.int .i64 p.2.2) from rfl] at hc2
        have hG01 := (hG.alloc (.cells (feC p) 134)).trans hG1
        clear hG hG1 HW
        cases hkb : keyB p.1 with
        | false =>
          have HF : Hid (feE l = 5) := Lib.hid (by rw [H.out, HE.out, HS.out, if_pos hkb])
          clear hkb
          go_wp2_with fail
          go_ret
          exact ⟨by rw [HF.out]; rfl, hG01⟩
        | true =>
          go_wp2_with fail
          refine (rkey_c _ _ hs2).mono ?_; rintro e w2 ⟨rfl, hG2⟩
          have hB6 := hB5.quiet hG2
          have hc0 := hB6.cell 0
          have hc1 := hB6.cell 1
          have hc2 := hB6.cell 2
          rw [show (feC p)[0]? = some (.string p.1) from rfl] at hc0
          rw [show (feC p)[1]? = some (.string p.2.1) from rfl] at hc1
          rw [show (feC p)[2]? = some (.int .i64 p.2.2) from rfl] at hc2
          have hG02 := hG01.trans hG2
          clear hG01 hG2 hB5
          cases hkb2 : keyB p.2.1 with
          | false =>
            have HF : Hid (feE l = 5) := Lib.hid (by rw [H.out, HE.out, HS.out, if_neg (by simp [hkb]), if_pos hkb2])
            clear hkb2
            go_wp2_with fail
            go_ret
            exact ⟨by rw [HF.out]; rfl, hG02⟩
          | true =>
            have HK := Lib.hid hkb
            have HK2 := Lib.hid hkb2
            clear hkb hkb2
            cases hq : eqB p.1 p.2.1 with
            | true =>
              have HF : Hid (feE l = 14) := Lib.hid (by rw [H.out, HE.out, HS.out, if_neg (by simp [HK.out]), if_neg (by simp [HK2.out]), if_pos hq])
              unfold eqB at hq
              go_wp2_with fail
              go_ret
              exact ⟨by rw [HF.out]; rfl, hG02⟩
            | false =>
              have HQ := Lib.hid hq
              unfold eqB at hq
              go_wp2_with fail
              have hB7 := hB6
              have hG7 := hG02
              have hg7 := hB7.lt
              clear hB6 hG02 hc0 hc1 hc2
              generalize wr.heap.size = g at hB7 hg7 ⊢
              cases k with
              | zero =>
                have HA : Hid (feAfter (prevAt l 0) p = false) := Lib.hid rfl
                have hc2 : w2.cell? ⟨g, 2, none⟩ = some (.int .i64 p.2.2) := hB7.cell 2
                go_quiet (fail)
                have hGq := hG7.drewN nq
                cases h3 : inB p.2.2 0 1000000 with
                | false =>
                  have HF : Hid (feE l = 1) := Lib.hid (by rw [H.out, HE.out, HS.out, if_neg (by simp [HK.out]), if_neg (by simp [HK2.out]), if_neg (by simp [HQ.out]), if_neg (by simp [HA.out]), if_pos h3])
                  go_wp2_with fail
                  refine (in_c _ _ _ _).mono ?_; rintro e w' ⟨rfl, rfl⟩
                  rw [h3]
                  go_wp2_with fail
                  go_ret
                  exact ⟨by rw [HF.out]; rfl, hGq⟩
                | true =>
                  have HF : Hid (feErr none l = feErr (prevAt l (0 + 1)) (l.drop (0 + 1))) := Lib.hid (by rw [HE.out, HS.out, if_neg (by simp [HK.out]), if_neg (by simp [HK2.out]), if_neg (by simp [HQ.out]), if_neg (by simp [HA.out]), if_neg (by simp [h3]), prevAt_succ l 0 p HP.out])
                  go_wp2_with fail
                  refine (in_c _ _ _ _).mono ?_; rintro e w' ⟨rfl, rfl⟩
                  rw [h3]
                  go_wp2_with fail
                  go_roundw
                  case rel => exact ⟨0 + 1, by omega, by go_num, HF.out, hGq⟩
                  case measure => simp [intOf]; omega

              | succ m =>
                obtain ⟨q, hq2⟩ : ∃ q, l[m]? = some q := ⟨_, List.getElem?_eq_getElem (by omega)⟩
                have HA1 : Hid (feAfter (prevAt l (m + 1)) p = decide (0 ≤ cmpF q p)) := Lib.hid (by rw [prevAt_succ l m q hq2]; rfl)
                have hsub : IntKind.i64.wrap (((m + 1 : Nat) : Int) - 1) = (m : Int) := by rw [show ((m + 1 : Nat) : Int) - 1 = (m : Int) by omega]; rw [IntKind.wrap_i64]; omega
                have d0 := RdR.cell feC_sz HR.out hG7 hq2 0 (.string q.1) rfl
                have d1 := RdR.cell feC_sz HR.out hG7 hq2 1 (.string q.2.1) rfl
                have d2 := RdR.cell feC_sz HR.out hG7 hq2 2 (.int .i64 q.2.2) rfl
                have c0 : w2.cell? ⟨g, 0, none⟩ = some (.string p.1) := hB7.cell 0
                have c1 : w2.cell? ⟨g, 1, none⟩ = some (.string p.2.1) := hB7.cell 1
                have c2 : w2.cell? ⟨g, 2, none⟩ = some (.int .i64 p.2.2) := hB7.cell 2
                have hsub2 : IntKind.i64.wrap (m : Int) = (m : Int) := by rw [IntKind.wrap_i64]; omega
                have hsub3 : IntKind.i64.wrap ((m : Int) + 1 - 1) = (m : Int) := by rw [IntKind.wrap_i64]; omega
                have hm0 : (0 : Int) ≤ (m : Int) := Int.natCast_nonneg m
                have hml : (m : Int) < (l.length : Int) := by omega
                simp only [Nat.add_zero] at d0
                clear hq2
                have hneg := cmpI_neg p.1 q.1
                have hneg2 := cmpI_neg p.2.1 q.2.1
                have hl1 : Op.bytesLess p.1.toList q.1.toList = decide (cmpI p.1 q.1 < 0) := by rw [less_cL, ByteArray.toList_eq, ByteArray.toList_eq]; rfl
                have he1 := eqB_cmp p.1 q.1
                have hle2 := leB_cmp p.2.1 q.2.1
                have hor : cmpF q p = if cmpI q.1 p.1 = 0 then cmpI q.2.1 p.2.1 else cmpI q.1 p.1 := rfl
                rcases (show cmpI p.1 q.1 < 0 ∨ 0 < cmpI p.1 q.1 ∨ cmpI p.1 q.1 = 0 by omega) with hc | hc | hc
                ·
                  have HF : Hid (feE l = 7) := Lib.hid (by rw [H.out, HE.out, HS.out, if_neg (by simp [HK.out]), if_neg (by simp [HK2.out]), if_neg (by simp [HQ.out]), if_pos (by rw [HA1.out]; exact decide_eq_true (by rw [hor]; rw [if_neg (by omega)]; omega))])
                  have g1 : Op.bytesLess p.1.toList q.1.toList = true := by rw [hl1]; exact decide_eq_true hc
                  clear hl1 he1 hle2 hor hneg hneg2
                  go_quiet (fail)
                  have hGq := hG7.drewN nq
                  go_wp2_with fail
                  go_ret
                  exact ⟨by rw [HF.out]; rfl, hGq⟩
                ·
                  have HA : Hid (feAfter (prevAt l (m + 1)) p = false) := Lib.hid (by rw [HA1.out]; exact decide_eq_false (by rw [hor]; rw [if_neg (by omega)]; omega))
                  have g1 : Op.bytesLess p.1.toList q.1.toList = false := by rw [hl1]; exact decide_eq_false (by omega)
                  have g2 : eqB p.1 q.1 = false := by rw [he1]; exact decide_eq_false (by omega)
                  unfold eqB at g2
                  clear hl1 he1 hle2 hor hneg hneg2
                  go_quiet (fail)
                  have hGq := hG7.drewN nq
                  cases h3 : inB p.2.2 0 1000000 with
                  | false =>
                    have HF : Hid (feE l = 1) := Lib.hid (by rw [H.out, HE.out, HS.out, if_neg (by simp [HK.out]), if_neg (by simp [HK2.out]), if_neg (by simp [HQ.out]), if_neg (by simp [HA.out]), if_pos h3])
                    go_wp2_with fail
                    refine (in_c _ _ _ _).mono ?_; rintro e w' ⟨rfl, rfl⟩
                    rw [h3]
                    go_wp2_with fail
                    go_ret
                    exact ⟨by rw [HF.out]; rfl, hGq⟩
                  | true =>
                    have HF : Hid (feErr none l = feErr (prevAt l ((m + 1) + 1)) (l.drop ((m + 1) + 1))) := Lib.hid (by rw [HE.out, HS.out, if_neg (by simp [HK.out]), if_neg (by simp [HK2.out]), if_neg (by simp [HQ.out]), if_neg (by simp [HA.out]), if_neg (by simp [h3]), prevAt_succ l (m + 1) p HP.out])
                    go_wp2_with fail
                    refine (in_c _ _ _ _).mono ?_; rintro e w' ⟨rfl, rfl⟩
                    rw [h3]
                    go_wp2_with fail
                    go_roundw
                    case rel => exact ⟨(m + 1) + 1, by omega, by go_num, HF.out, hGq⟩
                    case measure => simp [intOf]; omega
                ·
                  have g1 : Op.bytesLess p.1.toList q.1.toList = false := by rw [hl1]; exact decide_eq_false (by omega)
                  have g2 : eqB p.1 q.1 = true := by rw [he1]; exact decide_eq_true hc
                  unfold eqB at g2
                  cases hle : leB p.2.1 q.2.1 with
                  | true =>
                    rw [hle] at hle2
                    have hx := of_decide_eq_true hle2.symm
                    have HF : Hid (feE l = 7) := Lib.hid (by rw [H.out, HE.out, HS.out, if_neg (by simp [HK.out]), if_neg (by simp [HK2.out]), if_neg (by simp [HQ.out]), if_pos (by rw [HA1.out]; exact decide_eq_true (by rw [hor]; rw [if_pos (by omega)]; omega))])
                    unfold leB at hle
                    clear hl1 he1 hle2 hor hneg hneg2
                    go_quiet (fail)
                    have hGq := hG7.drewN nq
                    go_wp2_with fail
                    go_ret
                    exact ⟨by rw [HF.out]; rfl, hGq⟩
                  | false =>
                    rw [hle] at hle2
                    have hx := of_decide_eq_false hle2.symm
                    have HA : Hid (feAfter (prevAt l (m + 1)) p = false) := Lib.hid (by rw [HA1.out]; exact decide_eq_false (by rw [hor]; rw [if_pos (by omega)]; omega))
                    unfold leB at hle
                    clear hl1 he1 hle2 hor hneg hneg2
                    go_quiet (fail)
                    have hGq := hG7.drewN nq
                    cases h3 : inB p.2.2 0 1000000 with
                    | false =>
                      have HF : Hid (feE l = 1) := Lib.hid (by rw [H.out, HE.out, HS.out, if_neg (by simp [HK.out]), if_neg (by simp [HK2.out]), if_neg (by simp [HQ.out]), if_neg (by simp [HA.out]), if_pos h3])
                      go_wp2_with fail
                      refine (in_c _ _ _ _).mono ?_; rintro e w' ⟨rfl, rfl⟩
                      rw [h3]
                      go_wp2_with fail
                      go_ret
                      exact ⟨by rw [HF.out]; rfl, hGq⟩
                    | true =>
                      have HF : Hid (feErr none l = feErr (prevAt l ((m + 1) + 1)) (l.drop ((m + 1) + 1))) := Lib.hid (by rw [HE.out, HS.out, if_neg (by simp [HK.out]), if_neg (by simp [HK2.out]), if_neg (by simp [HQ.out]), if_neg (by simp [HA.out]), if_neg (by simp [h3]), prevAt_succ l (m + 1) p HP.out])
                      go_wp2_with fail
                      refine (in_c _ _ _ _).mono ?_; rintro e w' ⟨rfl, rfl⟩
                      rw [h3]
                      go_wp2_with fail
                      go_roundw
                      case rel => exact ⟨(m + 1) + 1, by omega, by go_num, HF.out, hGq⟩
                      case measure => simp [intOf]; omega

      · obtain rfl : k = l.length := by omega
        have HE2 : Hid (feE l = 0) := Lib.hid (by rw [H.out, HE.out, List.drop_length]; rfl)
        go_wp2_with fail
        go_ret
        exact ⟨by rw [HE2.out]; rfl, hG⟩
end Go.Proofs.YtddedckehllkoaaDoor

/- Fees: the search by halves. -/
namespace Go.Proofs.YtddedckehllkoaaDoor
open Go.RowKit

theorem cmpF_neg (x y : Fe) : cmpF y x = - cmpF x y := by
  have h1 := cmpI_neg x.1 y.1
  have h2 := cmpI_neg x.2.1 y.2.1
  unfold cmpF orI
  rw [h1, h2]
  split <;> split <;> omega
theorem cmpF_trans {x y z : Fe} (h : cmpF x y < 0) (k : cmpF y z < 0) : cmpF x z < 0 := by
  unfold cmpF orI at *
  by_cases h1 : cmpI x.1 y.1 = 0
  · rw [if_pos h1] at h
    have e1 := cmpI_eq.1 h1
    rw [e1]
    by_cases h2 : cmpI y.1 z.1 = 0
    · rw [if_pos h2] at k ⊢
      exact cmpI_trans h k
    · rw [if_neg h2] at k ⊢
      exact k
  · rw [if_neg h1] at h
    by_cases h2 : cmpI y.1 z.1 = 0
    · rw [← cmpI_eq.1 h2, if_neg h1]
      exact h
    · rw [if_neg h2] at k
      have h3 := cmpI_trans h k
      rw [if_neg (by omega)]
      exact h3
theorem cmpF_zero {x y : Fe} : cmpF x y = 0 ↔ x.1 = y.1 ∧ x.2.1 = y.2.1 := by
  unfold cmpF orI
  by_cases h1 : cmpI x.1 y.1 = 0
  · rw [if_pos h1, cmpI_eq]
    exact ⟨fun h => ⟨cmpI_eq.1 h1, h⟩, fun h => h.2⟩
  · rw [if_neg h1]
    exact ⟨fun h => absurd h h1, fun h => absurd (cmpI_eq.2 h.1) h1⟩
def RiseF (l : List Fe) : Prop := l.Pairwise (fun a b => cmpF a b < 0)
theorem fe_rise {b : Option Fe} {l : List Fe} (h : feErr b l = 0) : RiseF l ∧ (∀ y, b = some y → ∀ x ∈ l, cmpF y x < 0) ∧ ∀ x ∈ l, (0 ≤ x.2.2 ∧ x.2.2 ≤ 1000000) ∧ x.1 ≠ x.2.1 := by
  induction l generalizing b with
  | nil => exact ⟨List.Pairwise.nil, fun _ _ x hx => (by cases hx), fun x hx => (by cases hx)⟩
  | cons p r ih =>
    unfold feErr at h
    split at h
    · omega
    · split at h
      · omega
      · split at h
        · omega
        · rename_i hq
          split at h
          · omega
          · rename_i ha
            split at h
            · omega
            · rename_i hb
              obtain ⟨i1, i2, i3⟩ := ih h
              have hp := i2 p rfl
              have hin : 0 ≤ p.2.2 ∧ p.2.2 ≤ 1000000 := by
                unfold inB at hb
                simp only [Bool.and_eq_false_iff, decide_eq_false_iff_not] at hb
                omega
              have hy : ∀ y, b = some y → cmpF y p < 0 := fun y e => by
                subst e
                have : ¬ 0 ≤ cmpF y p := fun h => ha (decide_eq_true h)
                omega
              refine ⟨List.pairwise_cons.2 ⟨hp, i1⟩, fun y e x hx => ?_, fun x hx => ?_⟩
              · rcases List.mem_cons.1 hx with rfl | hx
                · exact hy y e
                · exact cmpF_trans (hy y e) (hp x hx)
              · rcases List.mem_cons.1 hx with rfl | hx
                · exact ⟨hin, fun e => hq (eqB_iff.2 e)⟩
                · exact i3 x hx
def BelowF (l : List Fe) (t : Fe) (i : Nat) : Prop := ∀ (j : Nat) (s : Fe), j < i → l[j]? = some s → cmpF s t < 0
def FromF (l : List Fe) (t : Fe) (i : Nat) : Prop := ∀ (j : Nat) (s : Fe), i ≤ j → l[j]? = some s → 0 ≤ cmpF s t
theorem RiseF.lt {l : List Fe} (h : RiseF l) {i j : Nat} {a b : Fe} (hij : i < j) (ha : l[i]? = some a) (hb : l[j]? = some b) : cmpF a b < 0 := by
  obtain ⟨h1, rfl⟩ := List.getElem?_eq_some_iff.1 ha
  obtain ⟨h2, rfl⟩ := List.getElem?_eq_some_iff.1 hb
  exact (List.pairwise_iff_getElem.1 h) i j h1 h2 hij
theorem BelowF.up {l : List Fe} {t s : Fe} {i : Nat} (hr : RiseF l) (hs : l[i]? = some s) (h : cmpF s t < 0) : BelowF l t (i + 1) := fun j u hj hu => by
  rcases Nat.lt_or_ge j i with hji | hji
  · exact cmpF_trans (hr.lt hji hu hs) h
  · obtain rfl : j = i := by omega
    rw [hs] at hu
    obtain rfl := Option.some.inj hu
    exact h
theorem FromF.down {l : List Fe} {t s : Fe} {i : Nat} (hr : RiseF l) (hs : l[i]? = some s) (h : 0 ≤ cmpF s t) : FromF l t i := fun j u hj hu => by
  rcases Nat.lt_or_ge i j with hji | hji
  · have h1 := hr.lt hji hs hu
    rcases Int.lt_or_le (cmpF u t) 0 with h2 | h2
    · have := cmpF_trans h1 h2; omega
    · exact h2
  · obtain rfl : j = i := by omega
    rw [hs] at hu
    obtain rfl := Option.some.inj hu
    exact h
def feF (a b : ByteArray) (x : Fe) : Bool := eqB x.1 a && eqB x.2.1 b
theorem feF_iff {a b : ByteArray} {x : Fe} {c : Int} : feF a b x = true ↔ cmpF x (a, b, c) = 0 := by
  unfold feF
  rw [Bool.and_eq_true, eqB_iff, eqB_iff, cmpF_zero]
theorem fb_found {l : List Fe} {a b : ByteArray} {c : Int} {i : Nat} (hr : RiseF l) (h1 : BelowF l (a, b, c) i) (h2 : FromF l (a, b, c) i) :
    (∀ p, l[i]? = some p → cmpF p (a, b, c) = 0 → l.find? (feF a b) = some p) ∧ (∀ p, l[i]? = some p → cmpF p (a, b, c) ≠ 0 → l.find? (feF a b) = none) ∧ (l[i]? = none → l.find? (feF a b) = none) := by
  refine ⟨fun p hp h0 => ?_, fun p hp h0 => ?_, fun hp => ?_⟩
  · obtain ⟨hi, e⟩ := List.getElem?_eq_some_iff.1 hp
    refine List.find?_eq_some_iff_getElem.2 ⟨feF_iff.2 h0, i, hi, e, fun j hj => ?_⟩
    have h3 := h1 j l[j] hj (List.getElem?_eq_getElem (by omega))
    rw [Bool.not_eq_true']
    cases hb : feF a b l[j] with
    | false => rfl
    | true => have := (feF_iff (c := c)).1 hb; omega
  · refine List.find?_eq_none.2 fun x hx hxf => ?_
    obtain ⟨j, hj, rfl⟩ := List.getElem_of_mem hx
    have hg := List.getElem?_eq_getElem hj
    have h0' := (feF_iff (c := c)).1 hxf
    rcases Nat.lt_or_ge j i with hji | hji
    · have := h1 j _ hji hg; omega
    · rcases Nat.lt_or_ge i j with hij | hij
      · have h3 := h2 i p (Nat.le_refl _) hp
        have h4 := hr.lt hij hp hg
        have h5 := cmpF_neg l[j] (a, b, c)
        have h6 := cmpF_neg p (a, b, c)
        have h7 : cmpF (a, b, c) p < 0 := by omega
        have h8 := cmpF_trans h7 h4
        omega
      · obtain rfl : j = i := by omega
        rw [hg] at hp
        obtain rfl := Option.some.inj hp
        exact h0 h0'
  · refine List.find?_eq_none.2 fun x hx hxf => ?_
    obtain ⟨j, hj, rfl⟩ := List.getElem_of_mem hx
    have hg := List.getElem?_eq_getElem hj
    have h0' := (feF_iff (c := c)).1 hxf
    have hil : l.length ≤ i := List.getElem?_eq_none_iff.1 hp
    have := h1 j _ (by omega) hg
    omega
def BfPost (l : List Fe) (a b : ByteArray) (w : World) (e : Ending) (w' : World) : Prop := ∃ i : Nat, e = .returned (.tuple #[.int .i64 i, .bool (l.find? (feF a b)).isSome]) ∧ (∀ q, l.find? (feF a b) = some q → l[i]? = some q) ∧ G w w' none
def BfRel (w : World) (l : List Fe) (t : Fe) (kx : Nat) (s9 s10 : Value) (wr : World) : Prop :=
  ∃ lo hi : Nat, s9 = .int .i64 lo ∧ s10 = .int .i64 hi ∧ lo ≤ hi ∧ hi ≤ l.length ∧ hi - lo ≤ kx ∧ BelowF l t lo ∧ FromF l t hi ∧ Bk wr w.heap.size 134 (feC t) ∧ G w wr none
set_option maxRecDepth 100000 in
set_option maxHeartbeats 4000000 in
theorem bsFe_c (v : Value) (l : List Fe) (a b : ByteArray) (w : World) (hr : RdR w 3 feC v l) (hn : l.length ≤ 1000000) (hs : RiseF l) :
    Calls Tryd.prog 89 #[v, .agg (feC (a, b, 0)), .func (.func 90) #[] #[]] w (BfPost l a b w) := by
  have HR := Lib.hid hr
  have HS := Lib.hid hs
  obtain ⟨ad, cap, rfl, hcap, hm⟩ := RdR.form hr
  clear hr hs
  have HT : Hid (((a, b, (0 : Int)) : Fe) = ((a, b, (0 : Int)) : Fe)) := Lib.hid rfl
  have HFF : Hid (∀ i : Nat, BelowF l (a, b, 0) i → FromF l (a, b, 0) i → (∀ p, l[i]? = some p → cmpF p (a, b, 0) = 0 → l.find? (feF a b) = some p) ∧ (∀ p, l[i]? = some p → cmpF p (a, b, 0) ≠ 0 → l.find? (feF a b) = none) ∧ (l[i]? = none → l.find? (feF a b) = none)) := Lib.hid fun i h1 h2 => fb_found HS.out h1 h2
  generalize ((a, b, (0 : Int)) : Fe) = t at HFF ⊢
  clear HT
  go_enter Tryd.func89, Tryd.ntmps89
  go_wp2_with fail
  go_loopg [9, 10] l.length (BfRel w l t)
  case atStart => exact ⟨0, l.length, rfl, rfl, Nat.zero_le _, Nat.le_refl _, by omega, fun j s hj => absurd hj (Nat.not_lt_zero _), fun j s hj hu => by have h1 := (List.getElem?_eq_some_iff.1 hu).1; omega, Bk.new w _ _, (G.refl _ _).alloc _⟩
  case round =>
    obtain ⟨lo, hi, rfl, rfl, hlh, hin, hg, hbe, hfr, hB, hG⟩ := hrel
    have HBE := Lib.hid hbe
    have HFR := Lib.hid hfr
    clear hbe hfr
    by_cases hlt : lo < hi
    · obtain ⟨m, hm0'⟩ : ∃ m, (lo + hi) / 2 = m := ⟨_, rfl⟩
      have hml' : lo ≤ m ∧ m < hi := by omega
      obtain ⟨hml1, hml2⟩ := hml'
      have hmi : ((lo : Int) + (hi : Int)) / 2 = (m : Int) := by omega
      have HM := Lib.hid hm0'
      clear hm0'
      obtain ⟨p, hp⟩ : ∃ p, l[m]? = some p := ⟨_, List.getElem?_eq_getElem (by omega)⟩
      obtain ⟨bb, bo, rfl, hbb, _⟩ := RdR.elem feC_sz HR.out hG hp
      have HP := Lib.hid hp
      have d0 := RdR.cell feC_sz HR.out hG hp 0 (.string p.1) rfl
      have d1 := RdR.cell feC_sz HR.out hG hp 1 (.string p.2.1) rfl
      have d2 := RdR.cell feC_sz HR.out hG hp 2 (.int .i64 p.2.2) rfl
      have c0 : wr.cell? ⟨w.heap.size, 0, none⟩ = some (.string t.1) := hB.cell 0
      have c1 : wr.cell? ⟨w.heap.size, 1, none⟩ = some (.string t.2.1) := hB.cell 1
      have c2 : wr.cell? ⟨w.heap.size, 2, none⟩ = some (.int .i64 t.2.2) := hB.cell 2
      simp only [Nat.add_zero] at d0
      have hgl := hB.lt
      have hbw := Nat.lt_of_lt_of_le hbb hG.size
      have hm0 : (0 : Int) ≤ (m : Int) := Int.natCast_nonneg m
      have hml : (m : Int) < (l.length : Int) := by omega
      clear hp
      by_cases hc : cmpF p t < 0
      · have HU := Lib.hid (BelowF.up HS.out HP.out hc)
        go_wp2_with fail
        go_region_held3 (fun w' => w'.cell? ⟨bb, bo + m * 3, none⟩ = some (.string p.1) ∧ w'.cell? ⟨bb, bo + m * 3 + 1, none⟩ = some (.string p.2.1) ∧ w'.cell? ⟨bb, bo + m * 3 + 2, none⟩ = some (.int .i64 p.2.2) ∧ w'.cell? ⟨w.heap.size, 0, none⟩ = some (.string t.1) ∧ w'.cell? ⟨w.heap.size, 1, none⟩ = some (.string t.2.1) ∧ w'.cell? ⟨w.heap.size, 2, none⟩ = some (.int .i64 t.2.2)) (first | exact ⟨d0, d1, d2, c0, c1, c2⟩ | exact hS6 | go_keep) (first | (go_at_call 90; refine (compareFees_c p t _).mono ?_; rintro e w6 ⟨rfl, hG6⟩; have hG06 := hG.drew.trans hG6; have hB8 := (hB.quiet ((G.refl wr none).drew)).quiet hG6; have hS6 : w6.cell? ⟨bb, bo + m * 3, none⟩ = some (.string p.1) ∧ w6.cell? ⟨bb, bo + m * 3 + 1, none⟩ = some (.string p.2.1) ∧ w6.cell? ⟨bb, bo + m * 3 + 2, none⟩ = some (.int .i64 p.2.2) ∧ w6.cell? ⟨w.heap.size, 0, none⟩ = some (.string t.1) ∧ w6.cell? ⟨w.heap.size, 1, none⟩ = some (.string t.2.1) ∧ w6.cell? ⟨w.heap.size, 2, none⟩ = some (.int .i64 t.2.2) := ⟨((gcell hG6).1 bb _ hbw).trans d0, ((gcell hG6).1 bb _ hbw).trans d1, ((gcell hG6).1 bb _ hbw).trans d2, ((gcell hG6).1 w.heap.size _ hgl).trans c0, ((gcell hG6).1 w.heap.size _ hgl).trans c1, ((gcell hG6).1 w.heap.size _ hgl).trans c2⟩))
        go_wp2_with fail
        go_roundg (hi - (m + 1))
        case measure => omega
        case rel => exact ⟨m + 1, hi, by go_num, rfl, by omega, hin, Nat.le_refl _, HU.out, HFR.out, hB8, hG06⟩
      · have hc' : 0 ≤ cmpF p t := by omega
        have HU := Lib.hid (FromF.down HS.out HP.out hc')
        clear hc
        go_wp2_with fail
        go_region_held3 (fun w' => w'.cell? ⟨bb, bo + m * 3, none⟩ = some (.string p.1) ∧ w'.cell? ⟨bb, bo + m * 3 + 1, none⟩ = some (.string p.2.1) ∧ w'.cell? ⟨bb, bo + m * 3 + 2, none⟩ = some (.int .i64 p.2.2) ∧ w'.cell? ⟨w.heap.size, 0, none⟩ = some (.string t.1) ∧ w'.cell? ⟨w.heap.size, 1, none⟩ = some (.string t.2.1) ∧ w'.cell? ⟨w.heap.size, 2, none⟩ = some (.int .i64 t.2.2)) (first | exact ⟨d0, d1, d2, c0, c1, c2⟩ | exact hS6 | go_keep) (first | (go_at_call 90; refine (compareFees_c p t _).mono ?_; rintro e w6 ⟨rfl, hG6⟩; have hG06 := hG.drew.trans hG6; have hB8 := (hB.quiet ((G.refl wr none).drew)).quiet hG6; have hS6 : w6.cell? ⟨bb, bo + m * 3, none⟩ = some (.string p.1) ∧ w6.cell? ⟨bb, bo + m * 3 + 1, none⟩ = some (.string p.2.1) ∧ w6.cell? ⟨bb, bo + m * 3 + 2, none⟩ = some (.int .i64 p.2.2) ∧ w6.cell? ⟨w.heap.size, 0, none⟩ = some (.string t.1) ∧ w6.cell? ⟨w.heap.size, 1, none⟩ = some (.string t.2.1) ∧ w6.cell? ⟨w.heap.size, 2, none⟩ = some (.int .i64 t.2.2) := ⟨((gcell hG6).1 bb _ hbw).trans d0, ((gcell hG6).1 bb _ hbw).trans d1, ((gcell hG6).1 bb _ hbw).trans d2, ((gcell hG6).1 w.heap.size _ hgl).trans c0, ((gcell hG6).1 w.heap.size _ hgl).trans c1, ((gcell hG6).1 w.heap.size _ hgl).trans c2⟩))
        go_wp2_with fail
        go_roundg (m - lo)
        case measure => omega
        case rel => exact ⟨lo, m, rfl, rfl, by omega, by omega, Nat.le_refl _, HBE.out, HU.out, hB8, hG06⟩
    · obtain rfl : lo = hi := by omega
      obtain ⟨f1, f2, f3⟩ := HFF.out lo HBE.out HFR.out
      have HF1 := Lib.hid f1
      have HF2 := Lib.hid f2
      have HF3 := Lib.hid f3
      clear f1 f2 f3
      by_cases hn' : lo < l.length
      · obtain ⟨p, hp⟩ : ∃ p, l[lo]? = some p := ⟨_, List.getElem?_eq_getElem hn'⟩
        obtain ⟨bb, bo, rfl, hbb, _⟩ := RdR.elem feC_sz HR.out hG hp
        have HP := Lib.hid hp
        have d0 := RdR.cell feC_sz HR.out hG hp 0 (.string p.1) rfl
        have d1 := RdR.cell feC_sz HR.out hG hp 1 (.string p.2.1) rfl
        have d2 := RdR.cell feC_sz HR.out hG hp 2 (.int .i64 p.2.2) rfl
        have c0 : wr.cell? ⟨w.heap.size, 0, none⟩ = some (.string t.1) := hB.cell 0
        have c1 : wr.cell? ⟨w.heap.size, 1, none⟩ = some (.string t.2.1) := hB.cell 1
        have c2 : wr.cell? ⟨w.heap.size, 2, none⟩ = some (.int .i64 t.2.2) := hB.cell 2
        simp only [Nat.add_zero] at d0
        have hgl := hB.lt
        have hbw := Nat.lt_of_lt_of_le hbb hG.size
        have hm0 : (0 : Int) ≤ (lo : Int) := Int.natCast_nonneg lo
        have hml : (lo : Int) < (l.length : Int) := by omega
        clear hp
        by_cases hc : cmpF p t = 0
        · have HN : Hid (l.find? (feF a b) = some p) := Lib.hid (HF1.out p HP.out hc)
          go_wp2_with fail
          go_region_held3 (fun w' => w'.cell? ⟨bb, bo + lo * 3, none⟩ = some (.string p.1) ∧ w'.cell? ⟨bb, bo + lo * 3 + 1, none⟩ = some (.string p.2.1) ∧ w'.cell? ⟨bb, bo + lo * 3 + 2, none⟩ = some (.int .i64 p.2.2) ∧ w'.cell? ⟨w.heap.size, 0, none⟩ = some (.string t.1) ∧ w'.cell? ⟨w.heap.size, 1, none⟩ = some (.string t.2.1) ∧ w'.cell? ⟨w.heap.size, 2, none⟩ = some (.int .i64 t.2.2)) (first | exact ⟨d0, d1, d2, c0, c1, c2⟩ | exact hS6 | go_keep) (first | (go_at_call 90; refine (compareFees_c p t _).mono ?_; rintro e w6 ⟨rfl, hG6⟩; have hG06 := hG.drew.trans hG6; have hB8 := (hB.quiet ((G.refl wr none).drew)).quiet hG6; have hS6 : w6.cell? ⟨bb, bo + lo * 3, none⟩ = some (.string p.1) ∧ w6.cell? ⟨bb, bo + lo * 3 + 1, none⟩ = some (.string p.2.1) ∧ w6.cell? ⟨bb, bo + lo * 3 + 2, none⟩ = some (.int .i64 p.2.2) ∧ w6.cell? ⟨w.heap.size, 0, none⟩ = some (.string t.1) ∧ w6.cell? ⟨w.heap.size, 1, none⟩ = some (.string t.2.1) ∧ w6.cell? ⟨w.heap.size, 2, none⟩ = some (.int .i64 t.2.2) := ⟨((gcell hG6).1 bb _ hbw).trans d0, ((gcell hG6).1 bb _ hbw).trans d1, ((gcell hG6).1 bb _ hbw).trans d2, ((gcell hG6).1 w.heap.size _ hgl).trans c0, ((gcell hG6).1 w.heap.size _ hgl).trans c1, ((gcell hG6).1 w.heap.size _ hgl).trans c2⟩))
          go_wp2_with fail
          go_ret2
          refine ⟨lo, ?_, fun q hq => ?_, hG06⟩
          · rw [HN.out]; rfl
          · rw [HN.out] at hq; rw [HP.out]; exact hq
        · have HN : Hid (l.find? (feF a b) = none) := Lib.hid (HF2.out p HP.out hc)
          have hc' : (cmpF p t == 0) = false := by simpa using hc
          clear hc
          go_wp2_with fail
          go_region_held3 (fun w' => w'.cell? ⟨bb, bo + lo * 3, none⟩ = some (.string p.1) ∧ w'.cell? ⟨bb, bo + lo * 3 + 1, none⟩ = some (.string p.2.1) ∧ w'.cell? ⟨bb, bo + lo * 3 + 2, none⟩ = some (.int .i64 p.2.2) ∧ w'.cell? ⟨w.heap.size, 0, none⟩ = some (.string t.1) ∧ w'.cell? ⟨w.heap.size, 1, none⟩ = some (.string t.2.1) ∧ w'.cell? ⟨w.heap.size, 2, none⟩ = some (.int .i64 t.2.2)) (first | exact ⟨d0, d1, d2, c0, c1, c2⟩ | exact hS6 | go_keep) (first | (go_at_call 90; refine (compareFees_c p t _).mono ?_; rintro e w6 ⟨rfl, hG6⟩; have hG06 := hG.drew.trans hG6; have hB8 := (hB.quiet ((G.refl wr none).drew)).quiet hG6; have hS6 : w6.cell? ⟨bb, bo + lo * 3, none⟩ = some (.string p.1) ∧ w6.cell? ⟨bb, bo + lo * 3 + 1, none⟩ = some (.string p.2.1) ∧ w6.cell? ⟨bb, bo + lo * 3 + 2, none⟩ = some (.int .i64 p.2.2) ∧ w6.cell? ⟨w.heap.size, 0, none⟩ = some (.string t.1) ∧ w6.cell? ⟨w.heap.size, 1, none⟩ = some (.string t.2.1) ∧ w6.cell? ⟨w.heap.size, 2, none⟩ = some (.int .i64 t.2.2) := ⟨((gcell hG6).1 bb _ hbw).trans d0, ((gcell hG6).1 bb _ hbw).trans d1, ((gcell hG6).1 bb _ hbw).trans d2, ((gcell hG6).1 w.heap.size _ hgl).trans c0, ((gcell hG6).1 w.heap.size _ hgl).trans c1, ((gcell hG6).1 w.heap.size _ hgl).trans c2⟩))
          go_wp2_with fail
          go_ret2
          refine ⟨lo, ?_, fun q hq => ?_, hG06⟩
          · rw [HN.out]; rfl
          · rw [HN.out] at hq; cases hq
      · have HN : Hid (l.find? (feF a b) = none) := Lib.hid (HF3.out (List.getElem?_eq_none (by omega)))
        have hlo : l.length ≤ lo := by omega
        go_wp2_with fail
        go_quiet (fail)
        have hGq := hG.drewN nq
        go_wp2_with fail
        go_ret2
        refine ⟨lo, ?_, fun q hq => ?_, hGq⟩
        · rw [HN.out]; rfl
        · rw [HN.out] at hq; cases hq
end Go.Proofs.YtddedckehllkoaaDoor

/- Fees: FeeOf, its reference; keyFault. -/
namespace Go.Proofs.YtddedckehllkoaaDoor
open Go.RowKit

def keyE (s : ByteArray) : Int := if keyB s = true then 0 else 5
set_option maxRecDepth 100000 in
theorem keyFault_c (s : ByteArray) (w : World) (hs : Small s) : Calls Tryd.prog 31 #[.string s] w fun e w' => e = .returned (.int .i64 (keyE s)) ∧ G w w' none := by
  unfold Small at hs
  cases hk : keyB s with
  | true =>
    have HE : Hid (keyE s = 0) := Lib.hid (by rw [keyE, if_pos hk])
    have HK := Lib.hid hk
    clear hk
    go_enter Tryd.func31, Tryd.ntmps31
    go_wp2_with fail
    refine (rkey_c s _ hs).mono ?_; rintro e w1 ⟨rfl, hG1⟩
    rw [HK.out]
    go_wp2_with fail
    refine (when_c _ _ _).mono ?_; rintro e w' ⟨rfl, rfl⟩
    simp only [Bool.not_true, Bool.false_eq_true, if_false]
    go_wp2_with fail
    go_ret
    exact ⟨by rw [HE.out]; rfl, hG1⟩
  | false =>
    have HE : Hid (keyE s = 5) := Lib.hid (by rw [keyE, if_neg (by simp [hk])])
    have HK := Lib.hid hk
    clear hk
    go_enter Tryd.func31, Tryd.ntmps31
    go_wp2_with fail
    refine (rkey_c s _ hs).mono ?_; rintro e w1 ⟨rfl, hG1⟩
    rw [HK.out]
    go_wp2_with fail
    refine (when_c _ _ _).mono ?_; rintro e w' ⟨rfl, rfl⟩
    simp only [Bool.not_false, if_true]
    go_wp2_with fail
    go_ret
    exact ⟨by rw [HE.out]; rfl, hG1⟩
def foE (l : List Fe) (a b : ByteArray) : Int :=
  if feE l = 0 then (if keyB a = false then 5 else if keyB b = false then 5 else if eqB a b = true then 0 else if (l.find? (feF a b)).isSome = true then 0 else 8) else feE l
def foN (l : List Fe) (a b : ByteArray) : Int := if foE l a b = 0 then (match l.find? (feF a b) with | some x => x.2.2 | none => 0) else 0
theorem feE_zero {l : List Fe} (h : feE l = 0) : feErr none l = 0 ∧ l.length ≤ 500 := by
  unfold feE at h
  split at h
  · omega
  · exact ⟨h, by omega⟩
/-- No fee from a station to itself. -/
theorem fe_loop {l : List Fe} {a b : ByteArray} (h0 : feE l = 0) (h : eqB a b = true) : l.find? (feF a b) = none := by
  refine List.find?_eq_none.2 fun x hx hxf => ?_
  unfold feF at hxf
  rw [Bool.and_eq_true, eqB_iff, eqB_iff] at hxf
  exact ((fe_rise (feE_zero h0).1).2.2 x hx).2 (by rw [hxf.1, hxf.2]; exact eqB_iff.1 h)
set_option maxRecDepth 100000 in
set_option maxHeartbeats 4000000 in
theorem feeOf_c (v : Value) (l : List Fe) (a b : ByteArray) (w : World) (hr : RdR w 3 feC v l) (hl : FeOk l) (hn : l.length ≤ 1000) (ha : Small a) (hb : Small b) :
    Calls Tryd.prog 38 #[v, .string a, .string b] w fun e w' => e = .returned (.tuple #[.int .i64 (foN l a b), .int .i64 (foE l a b)]) ∧ G w w' none := by
  have HR := Lib.hid hr
  clear hr
  unfold Small at ha hb
  by_cases h0 : feE l = 0
  · cases hka : keyB a with
    | false =>
      have HE : Hid (foE l a b = 5) := Lib.hid (by simp [foE, h0, hka])
      have HN : Hid (foN l a b = 0) := Lib.hid (by rw [foN, if_neg (by rw [HE.out]; decide)])
      have HK := Lib.hid hka
      clear hka
      go_enter Tryd.func38, Tryd.ntmps38
      go_wp2_with fail
      refine (checkFees_c v l _ HR.out hl hn).mono ?_; rintro e w1 ⟨rfl, hG1⟩
      rw [h0]
      go_wp2_with fail
      refine (isKey_c a _ ha).mono ?_; rintro e w' ⟨rfl, rfl⟩
      rw [HK.out]
      go_wp2_with fail
      go_ret2
      exact ⟨by rw [HE.out, HN.out]; rfl, hG1⟩
    | true =>
      have HK := Lib.hid hka
      clear hka
      cases hkb : keyB b with
      | false =>
        have HE : Hid (foE l a b = 5) := Lib.hid (by simp [foE, h0, HK.out, hkb])
        have HN : Hid (foN l a b = 0) := Lib.hid (by rw [foN, if_neg (by rw [HE.out]; decide)])
        have HK2 := Lib.hid hkb
        clear hkb
        go_enter Tryd.func38, Tryd.ntmps38
        go_wp2_with fail
        refine (checkFees_c v l _ HR.out hl hn).mono ?_; rintro e w1 ⟨rfl, hG1⟩
        rw [h0]
        go_wp2_with fail
        refine (isKey_c a _ ha).mono ?_; rintro e w' ⟨rfl, rfl⟩
        rw [HK.out]
        go_wp2_with fail
        refine (isKey_c b _ hb).mono ?_; rintro e w' ⟨rfl, rfl⟩
        rw [HK2.out]
        go_wp2_with fail
        go_ret2
        exact ⟨by rw [HE.out, HN.out]; rfl, hG1⟩
      | true =>
        have HK2 := Lib.hid hkb
        clear hkb
        cases hq : eqB a b with
        | true =>
          have HE : Hid (foE l a b = 0) := Lib.hid (by simp [foE, h0, HK.out, HK2.out, hq])
          have HN : Hid (foN l a b = 0) := Lib.hid (by rw [foN, if_pos HE.out, fe_loop h0 hq])
          unfold eqB at hq
          go_enter Tryd.func38, Tryd.ntmps38
          go_wp2_with fail
          refine (checkFees_c v l _ HR.out hl hn).mono ?_; rintro e w1 ⟨rfl, hG1⟩
          rw [h0]
          go_wp2_with fail
          refine (isKey_c a _ ha).mono ?_; rintro e w' ⟨rfl, rfl⟩
          rw [HK.out]
          go_wp2_with fail
          refine (isKey_c b _ hb).mono ?_; rintro e w' ⟨rfl, rfl⟩
          rw [HK2.out]
          go_wp2_with fail
          go_ret2
          exact ⟨by rw [HE.out, HN.out]; rfl, hG1⟩
        | false =>
          have HQ := Lib.hid hq
          unfold eqB at hq
          have hri := (fe_rise (feE_zero h0).1).1
          cases hf : l.find? (feF a b) with
          | none =>
            have HE : Hid (foE l a b = 8) := Lib.hid (by simp [foE, h0, HK.out, HK2.out, HQ.out, hf])
            have HN : Hid (foN l a b = 0) := Lib.hid (by rw [foN, if_neg (by rw [HE.out]; decide)])
            go_enter Tryd.func38, Tryd.ntmps38
            go_wp2_with fail
            refine (checkFees_c v l _ HR.out hl hn).mono ?_; rintro e w1 ⟨rfl, hG1⟩
            rw [h0]
            go_wp2_with fail
            refine (isKey_c a _ ha).mono ?_; rintro e w' ⟨rfl, rfl⟩
            rw [HK.out]
            go_wp2_with fail
            refine (isKey_c b _ hb).mono ?_; rintro e w' ⟨rfl, rfl⟩
            rw [HK2.out]
            go_wp2_with fail
            refine (bsFe_c v l a b _ (HR.out.quiet hG1) (by omega) hri).mono ?_; rintro e w2 ⟨i, rfl, _, hG2⟩
            rw [hf]
            go_wp2_with fail
            go_ret2
            exact ⟨by rw [HE.out, HN.out]; rfl, hG1.trans hG2⟩
          | some q =>
            have HE : Hid (foE l a b = 0) := Lib.hid (by simp [foE, h0, HK.out, HK2.out, HQ.out, hf])
            have HN : Hid (foN l a b = q.2.2) := Lib.hid (by rw [foN, if_pos HE.out, hf])
            obtain ⟨ad, cap, rfl, hcap, hm⟩ := RdR.form HR.out
            go_enter Tryd.func38, Tryd.ntmps38
            go_wp2_with fail
            refine (checkFees_c _ l _ HR.out hl hn).mono ?_; rintro e w1 ⟨rfl, hG1⟩
            rw [h0]
            go_wp2_with fail
            refine (isKey_c a _ ha).mono ?_; rintro e w' ⟨rfl, rfl⟩
            rw [HK.out]
            go_wp2_with fail
            refine (isKey_c b _ hb).mono ?_; rintro e w' ⟨rfl, rfl⟩
            rw [HK2.out]
            go_wp2_with fail
            refine (bsFe_c _ l a b _ (HR.out.quiet hG1) (by omega) hri).mono ?_; rintro e w2 ⟨i, rfl, hfi, hG2⟩
            have hp := hfi q hf
            have hil := (List.getElem?_eq_some_iff.1 hp).1
            have hG02 := hG1.trans hG2
            obtain ⟨bb, bo, rfl, hbb, _⟩ := RdR.elem feC_sz HR.out hG02 hp
            have d2 := RdR.cell feC_sz HR.out hG02 hp 2 (.int .i64 q.2.2) rfl
            rw [hf]
            clear hp hfi hf
            go_wp2_with fail
            go_ret2
            exact ⟨by rw [HE.out, HN.out]; rfl, hG02⟩
  · have HE : Hid (foE l a b = feE l) := Lib.hid (by simp [foE, h0])
    have HN : Hid (foN l a b = 0) := Lib.hid (by rw [foN, if_neg (by rw [HE.out]; exact h0)])
    have h1 : (feE l != 0) = true := by rw [bne_iff_ne]; exact h0
    clear h0
    go_enter Tryd.func38, Tryd.ntmps38
    go_wp2_with fail
    refine (checkFees_c v l _ HR.out hl hn).mono ?_; rintro e w1 ⟨rfl, hG1⟩
    go_wp2_with fail
    go_ret2
    exact ⟨by rw [HE.out, HN.out]; rfl, hG1⟩
/-! ### The reference's FeeFrom -/
def ffF (l : List Fe) (a b : ByteArray) : Int × Bool := match l.find? (feF a b) with | some x => (x.2.2, true) | none => (0, eqB a b)
def FfRel (w : World) (l : List Fe) (a b : ByteArray) (i : Value) (wr : World) : Prop :=
  ∃ n : Nat, n ≤ l.length ∧ i = .int .i64 n ∧ l.find? (feF a b) = (l.drop n).find? (feF a b) ∧ G w wr none
set_option maxRecDepth 100000 in
set_option maxHeartbeats 4000000 in
theorem feeFrom_c (v : Value) (l : List Fe) (a b : ByteArray) (w : World) (hr : RdR w 3 feC v l) (hn : l.length ≤ 1000) :
    Calls Tryd.prog 44 #[v, .string a, .string b] w fun e w' => e = .returned (.tuple #[.int .i64 (ffF l a b).1, .bool (ffF l a b).2]) ∧ G w w' none := by
  have HR := Lib.hid hr
  obtain ⟨ad, cap, rfl, hcap, hm⟩ := RdR.form hr
  clear hr
  go_enter Tryd.func44, Tryd.ntmps44
  go_wp2_with fail
  go_loopw [12] (FfRel w l a b) (fun i _ => l.length - (intOf i).toNat)
  case atStart => exact ⟨0, by omega, rfl, rfl, G.refl _ _⟩
  case round =>
    obtain ⟨n, hnl, rfl, heq, hG⟩ := hrel
    have HE := Lib.hid heq
    clear heq
    by_cases hlt : n < l.length
    · obtain ⟨p, hp⟩ : ∃ p, l[n]? = some p := ⟨_, List.getElem?_eq_getElem hlt⟩
      have HD : Hid (l.find? (feF a b) = if feF a b p = true then some p else (l.drop (n + 1)).find? (feF a b)) := Lib.hid (by
        rw [HE.out, List.drop_eq_getElem_cons hlt, (List.getElem?_eq_some_iff.1 hp).2, List.find?_cons]
        split <;> simp_all)
      obtain ⟨bb, bo, rfl, hbb, hrow⟩ := RdR.elem feC_sz HR.out hG hp
      have HW := Lib.hid hrow
      clear hrow hp
      have hef : feF a b p = (eqB p.1 a && eqB p.2.1 b) := rfl
      have HEF := Lib.hid hef
      clear hef
      cases h1 : eqB p.1 a with
      | false =>
        have HF : Hid (l.find? (feF a b) = (l.drop (n + 1)).find? (feF a b)) := Lib.hid (by rw [HD.out, if_neg (by simp [HEF.out, h1])])
        unfold eqB at h1
        go_wp2_with (refine wpList_load_at rfl 134 _ rfl ⟨bb, bo + n * 3, none⟩ rfl #[.string p.1, .string p.2.1, .int .i64 p.2.2] _ HW.out Tryd.underlying134 rfl (fe_info p) ?_)
        go_roundw
        case rel => exact ⟨n + 1, by omega, by go_num, HF.out, hG.alloc _⟩
        case measure => simp [intOf]; omega
      | true =>
        have H1 := Lib.hid h1
        unfold eqB at h1
        cases h2 : eqB p.2.1 b with
        | false =>
          have HF : Hid (l.find? (feF a b) = (l.drop (n + 1)).find? (feF a b)) := Lib.hid (by rw [HD.out, if_neg (by simp [HEF.out, h2])])
          unfold eqB at h2
          go_wp2_with (refine wpList_load_at rfl 134 _ rfl ⟨bb, bo + n * 3, none⟩ rfl #[.string p.1, .string p.2.1, .int .i64 p.2.2] _ HW.out Tryd.underlying134 rfl (fe_info p) ?_)
          go_roundw
          case rel => exact ⟨n + 1, by omega, by go_num, HF.out, hG.alloc _⟩
          case measure => simp [intOf]; omega
        | true =>
          have HF : Hid (ffF l a b = (p.2.2, true)) := Lib.hid (by rw [ffF, HD.out, if_pos (by simp [HEF.out, H1.out, h2])])
          unfold eqB at h2
          go_wp2_with (refine wpList_load_at rfl 134 _ rfl ⟨bb, bo + n * 3, none⟩ rfl #[.string p.1, .string p.2.1, .int .i64 p.2.2] _ HW.out Tryd.underlying134 rfl (fe_info p) ?_)
          go_ret2
          exact ⟨by rw [HF.out]; rfl, hG.alloc _⟩
    · obtain rfl : n = l.length := by omega
      have HF : Hid (ffF l a b = (0, eqB a b)) := Lib.hid (by rw [ffF, HE.out, List.drop_length]; rfl)
      cases hq : eqB a b with
      | true =>
        rw [hq] at HF
        unfold eqB at hq
        go_wp2_with fail
        go_ret2
        exact ⟨by rw [HF.out]; rfl, hG⟩
      | false =>
        rw [hq] at HF
        unfold eqB at hq
        go_wp2_with fail
        go_ret2
        exact ⟨by rw [HF.out]; rfl, hG⟩
end Go.Proofs.YtddedckehllkoaaDoor

/- Extras: ExtraCost, and its reference. -/
namespace Go.Proofs.YtddedckehllkoaaDoor
open Go.RowKit

def exF (k : ByteArray) (x : Ext) : Bool := eqB x.1 k
def exAt (l : List Ext) (k : ByteArray) : Int := ixP (exF k) l 0
theorem exClo_c (p : Ext) (t : ByteArray) (g : Nat) (w : World) (hB : Bk w g 9 #[.string t]) : Calls Tryd.prog 120 #[.agg (exC p), .pointer (some ⟨g, 0, none⟩)] w fun e w' => e = .returned (.bool (exF t p)) ∧ G w w' none := by
  have hc := (Bk.new w 130 (exC p)).cell 0
  rw [show (exC p)[0]? = some (.string p.1) from rfl] at hc
  have hc2 := (hB.alloc (.cells (exC p) 130)).cell 0
  rw [show (#[Value.string t] : Array Value)[0]? = some (.string t) from rfl] at hc2
  have hd : exF t p = eqB p.1 t := rfl
  cases he : eqB p.1 t with
  | true =>
    rw [he] at hd
    have HD := Lib.hid hd
    clear hd
    unfold eqB at he
    go_enter Tryd.func120, Tryd.ntmps120
    go_wp2_with fail
    go_ret
    exact ⟨ret_bool HD.out.symm, (G.refl _ _).alloc _⟩
  | false =>
    rw [he] at hd
    have HD := Lib.hid hd
    clear hd
    unfold eqB at he
    go_enter Tryd.func120, Tryd.ntmps120
    go_wp2_with fail
    go_ret
    exact ⟨ret_bool HD.out.symm, (G.refl _ _).alloc _⟩
def IxeRel (w : World) (l : List Ext) (t : ByteArray) (i : Value) (wr : World) : Prop :=
  ∃ k : Nat, k ≤ l.length ∧ i = .int .i64 k ∧ exAt l t = ixP (exF t) (l.drop k) k ∧ G w wr none
set_option maxRecDepth 100000 in
set_option maxHeartbeats 2000000 in
theorem ixe_c (v : Value) (l : List Ext) (t : ByteArray) (g : Nat) (w : World) (hr : RdR w 4 exC v l) (hn : l.length ≤ 1000) (hB : Bk w g 9 #[.string t]) :
    Calls Tryd.prog 119 #[v, .func (.func 120) #[] #[.pointer (some ⟨g, 0, none⟩)]] w fun e w' => e = .returned (.int .i64 (exAt l t)) ∧ G w w' none := by
  have HR := Lib.hid hr
  obtain ⟨a, cap, rfl, hcap, hm⟩ := RdR.form hr
  clear hr
  go_enter Tryd.func119, Tryd.ntmps119
  go_wp2_with fail
  go_loopw [8] (IxeRel w l t) (fun i _ => l.length - (intOf i).toNat)
  case atStart => exact ⟨0, by omega, rfl, rfl, G.refl _ _⟩
  case round =>
    obtain ⟨k, hk, rfl, heq, hG⟩ := hrel
    have HE := Lib.hid heq
    clear heq
    by_cases hlt : k < l.length
    · obtain ⟨p, hp⟩ : ∃ p, l[k]? = some p := ⟨_, List.getElem?_eq_getElem hlt⟩
      have HD : Hid (exAt l t = if exF t p = true then (k : Int) else ixP (exF t) (l.drop (k + 1)) ((k : Int) + 1)) := Lib.hid (by
        rw [HE.out, List.drop_eq_getElem_cons hlt, (List.getElem?_eq_some_iff.1 hp).2]; rfl)
      obtain ⟨bb, bo, rfl, hbb, hrow⟩ := RdR.elem exC_sz HR.out hG hp
      have HW := Lib.hid hrow
      clear hrow hp
      go_wp2_with (refine wpList_load_at rfl 130 _ rfl ⟨bb, bo + k * 4, none⟩ rfl (exC p) _ HW.out Tryd.underlying130 rfl (ex_info p) ?_)
      refine (exClo_c p t g _ (hB.quiet hG)).mono ?_; rintro e w1 ⟨rfl, hG1⟩
      cases he : exF t p with
      | true =>
        have HF : Hid (exAt l t = k) := Lib.hid (by rw [HD.out, if_pos he])
        clear he
        go_wp2_with fail
        go_ret
        exact ⟨ret_int HF.out.symm, hG.trans hG1⟩
      | false =>
        have HF : Hid (exAt l t = ixP (exF t) (l.drop (k + 1)) ((k + 1 : Nat) : Int)) := Lib.hid (by rw [HD.out, if_neg (by simp [he])]; rfl)
        clear he
        go_wp2_with fail
        go_roundw
        case rel => exact ⟨k + 1, by omega, by go_num, HF.out, hG.trans hG1⟩
        case measure => simp [intOf]; omega
    · obtain rfl : k = l.length := by omega
      have HF : Hid (exAt l t = -1) := Lib.hid (by rw [HE.out, List.drop_length]; rfl)
      go_wp2_with fail
      go_ret
      exact ⟨ret_int HF.out.symm, hG⟩
set_option maxRecDepth 100000 in
set_option maxHeartbeats 1000000 in
theorem indexOfExtra_c (v : Value) (l : List Ext) (t : ByteArray) (w : World) (hr : RdR w 4 exC v l) (hn : l.length ≤ 1000) :
    Calls Tryd.prog 87 #[v, .string t] w fun e w' => e = .returned (.int .i64 (exAt l t)) ∧ G w w' none := by
  have hmf : ∀ (fn : Go.Fn) (first cap : Array Value) (w : World), (Instr.makeFunc fn first cap).run Tryd.prog w = .ok (.func fn first cap) w := fun _ _ _ _ => rfl
  have HR := Lib.hid hr
  clear hr
  go_enter Tryd.func87, Tryd.ntmps87
  go_wp2_with fail
  refine (ixe_c v l t w.heap.size _ (HR.out.quiet ((G.refl _ _).alloc _)) hn (Bk.new w _ _)).mono ?_; rintro e w1 ⟨rfl, hG1⟩
  go_wp2_with fail
  go_ret
  exact ⟨rfl, ((G.refl w none).alloc _).trans hG1⟩
/-- An extra within its bounds. -/
def ExIn (x : Ext) : Prop := (0 ≤ x.2.1 ∧ x.2.1 ≤ 1000000) ∧ (0 ≤ x.2.2.1 ∧ x.2.2.1 ≤ 1000000) ∧ (-1 ≤ x.2.2.2 ∧ x.2.2.2 ≤ 1000000)
theorem exErr_in {b : ByteArray} {l : List Ext} (h : exErr b l = 0) : ∀ x ∈ l, ExIn x := by
  induction l generalizing b with
  | nil => intro x hx; cases hx
  | cons y r ih =>
    intro x hx
    unfold exErr at h
    split at h
    · omega
    · split at h
      · omega
      · split at h
        · omega
        · rename_i hb
          rcases List.mem_cons.1 hx with rfl | hx
          · unfold exBad inB at hb
            simp only [Bool.or_eq_true, Bool.not_eq_true', Bool.and_eq_false_iff, decide_eq_false_iff_not, not_or, Bool.not_eq_true, not_and] at hb
            unfold ExIn
            omega
          · exact ih h x hx
theorem exE_zero {l : List Ext} (h : exE l = 0) : exErr ⟨#[]⟩ l = 0 ∧ l.length ≤ 30 := by
  unfold exE at h
  split at h
  · omega
  · exact ⟨h, by omega⟩
def costF (x : Ext) (d : Int) : Int := x.2.1 + (if x.2.2.2 = -1 then x.2.2.1 * d else min (x.2.2.1 * d) x.2.2.2)
theorem mul_in {y d : Int} (h1 : 0 ≤ y) (h2 : y ≤ 1000000) (h3 : 0 ≤ d) (h4 : d ≤ 1000) : 0 ≤ y * d ∧ y * d ≤ 1000000000 := by
  refine ⟨Int.mul_nonneg h1 h3, ?_⟩
  have h5 : y * d ≤ 1000000 * d := Int.mul_le_mul_of_nonneg_right h2 h3
  omega
set_option maxRecDepth 100000 in
set_option maxHeartbeats 1000000 in
theorem costOfExtra_c (x : Ext) (d : Int) (w : World) (hx : ExIn x) (h3 : 0 ≤ d) (h4 : d ≤ 1000) :
    Calls Tryd.prog 88 #[.agg (exC x), .int .i64 d] w fun e w' => e = .returned (.int .i64 (costF x d)) ∧ G w w' none := by
  obtain ⟨⟨a1, a2⟩, ⟨b1, b2⟩, c1, c2⟩ := hx
  obtain ⟨m1, m2⟩ := mul_in b1 b2 h3 h4
  have hB := Bk.new w 130 (exC x)
  have hc1 := hB.cell 1
  have hc2 := hB.cell 2
  have hc3 := hB.cell 3
  rw [show (exC x)[1]? = some (.int .i64 x.2.1) from rfl] at hc1
  rw [show (exC x)[2]? = some (.int .i64 x.2.2.1) from rfl] at hc2
  rw [show (exC x)[3]? = some (.int .i64 x.2.2.2) from rfl] at hc3
  by_cases hm : x.2.2.2 = -1
  · have H : Hid (costF x d = x.2.1 + x.2.2.1 * d) := Lib.hid (by rw [costF, if_pos hm])
    have hmb : (x.2.2.2 != -1) = false := by rw [hm]; rfl
    clear hB
    go_enter Tryd.func88, Tryd.ntmps88
    go_wp2_with fail
    go_ret
    exact ⟨ret_int H.out.symm, (G.refl _ _).alloc _⟩
  · have H : Hid (costF x d = x.2.1 + min (x.2.2.1 * d) x.2.2.2) := Lib.hid (by rw [costF, if_neg hm])
    have hmb : (x.2.2.2 != -1) = true := by rw [bne_iff_ne]; exact hm
    clear hB
    go_enter Tryd.func88, Tryd.ntmps88
    go_wp2_with fail
    go_ret
    exact ⟨ret_int H.out.symm, (G.refl _ _).alloc _⟩
end Go.Proofs.YtddedckehllkoaaDoor
