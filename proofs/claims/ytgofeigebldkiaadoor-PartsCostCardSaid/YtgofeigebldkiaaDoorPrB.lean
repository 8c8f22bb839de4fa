/- The law's own 'priced': the stay of one rental day. -/
import Derived.Test.YtgofeigebldkiaaDoorPrA
import Derived.Laws.AppendOwn
import Derived.Laws.ResultCell
import Derived.Test.YtgofeigebldkiaaDoorRek
namespace Go.Proofs.YtgofeigebldkiaaDoor
open Go.RowKit

/-- One season, at the rate's block. -/
def Se (w : World) (v : Value) (b : Nat) : Prop := ∃ g cap, v = .slice (some ⟨g, 0, none⟩) 1 cap ∧ 1 ≤ cap ∧ cap ≤ maxLen ∧ g < w.heap.size ∧ w.cell? ⟨g, 0, none⟩ = some (.pointer (some ⟨b, 0, none⟩))
theorem Se.quiet {w w' : World} {v : Value} {b : Nat} (h : Se w v b) (hG : G w w' none) : Se w' v b := by
  obtain ⟨g, cap, rfl, h1, h2, h3, h4⟩ := h
  exact ⟨g, cap, rfl, h1, h2, Nat.lt_of_lt_of_le h3 hG.size, ((gcell hG).1 g _ h3).trans h4⟩
theorem sp_row : (Tryd.prog.info? 89).map (fun i => (i.zero, i.size, i.bytes)) = some (some (.pointer none), 1, 8) := by kernel_rfl
/-- An address appended to nothing. -/
theorem wp_append_sp {w : World} {o : Oper} {a : Act} {K : Act → World → Prop} {Q : Exit → Act → World → Prop} (s x : Operand)
    (ho : o.op = .call { callee := .builtin .append, args := #[s, x], argTypes := #[138, 138] }) (hs : a.eval s = .slice none 0 0)
    (g b : Nat) (hx : a.eval x = .slice (some ⟨g, 0, none⟩) 1 1) (hb : Bk w g 89 #[.pointer (some ⟨b, 0, none⟩)])
    (hK : ∀ v' w', Se w' v' b → (∀ g, v'.ownBlock = some g → w.heap.size ≤ g) → G w w' none → K (a.put o.dst v') w') : o.wp Tryd.prog a w K Q := by
  obtain ⟨i0, hi, hz0, hz1, hz2⟩ := info_parts sp_row
  refine wp_append_own w s x 138 ho w.heap.size 89 i0 _ 1 8 Tryd.underlying138 hi hz0 hz1 hz2 rfl (by decide) (.slice none 0 0) 0 [] hs (World.ownsRow_nil _ _ _ _) ⟨g, 0, none⟩ 1 1 [.pointer (some ⟨b, 0, none⟩)] hx rfl hb.at_ (by simp [Value.oneCell']) (by unfold maxLen; omega) (by omega) (Nat.le_refl _) ?_
  intro v w7 hown hgrow _
  refine hK v w7 ?_ (fun g e => (World.ownsRow.lt hown g e).1) hgrow
  obtain ⟨o1, o2⟩ := hown
  rcases o2 with ⟨_, o3⟩ | ⟨g, cap, cur, rfl, k1, k2, k3, k4, k5, k6⟩
  · omega
  · refine ⟨g, cap, rfl, by omega, k4, (Array.getElem?_eq_some_iff.1 k2).1, ?_⟩
    rw [cell_of_row w7 g 0 cur _ _ k2]
    have := congrArg (fun l : List Value => l[0]?) k6
    simpa using this
abbrev syC (v : Value) : Array Value := #[.int .i64 0, .int .i64 60, v]
theorem sy_info (v : Value) : (Tryd.prog.info? 140).map (·.size) = some (syC v).size := (by kernel_rfl : (Tryd.prog.info? 140).map (·.size) = some 3)
set_option maxRecDepth 100000 in
set_option maxHeartbeats 4000000 in
theorem stayOf1_c (w : World) (b : Nat) (h : Rt w b) : Calls Tryd.prog 97 #[.slice (some ⟨b, 0, none⟩) 1 1, .string ⟨#[99]⟩, .agg #[.int .i64 0, .int .i64 60]] w fun e w' => ∃ v, e = .returned (.agg (syC v)) ∧ Se w' v b ∧ G w w' none := by
  go_enter Tryd.func97, Tryd.ntmps97
  go_wp2_with fail
  refine wp_loop_rounds 2 ?_
  rw [rounds_succ]
  go_wp2_with fail
  have hB0 : Bk (((w.alloc (.cells #[.int .i64 0, .int .i64 60] 29)).alloc (.cells #[.int .i64 0, .int .i64 0, .slice none 0 0] 140)).alloc (.cells #[.int .i64 0, .int .i64 60, .slice none 0 0] 140)) w.heap.size 29 #[.int .i64 0, .int .i64 60] := ((Bk.new w _ _).alloc _).alloc _
  have hB1 : Bk (((w.alloc (.cells #[.int .i64 0, .int .i64 60] 29)).alloc (.cells #[.int .i64 0, .int .i64 0, .slice none 0 0] 140)).alloc (.cells #[.int .i64 0, .int .i64 60, .slice none 0 0] 140)) (w.heap.size + 1) 140 #[.int .i64 0, .int .i64 0, .slice none 0 0] := (Bk.newAt (by simp) _ _).alloc _
  have hB2 : Bk (((w.alloc (.cells #[.int .i64 0, .int .i64 60] 29)).alloc (.cells #[.int .i64 0, .int .i64 0, .slice none 0 0] 140)).alloc (.cells #[.int .i64 0, .int .i64 60, .slice none 0 0] 140)) (w.heap.size + 1 + 1) 140 #[.int .i64 0, .int .i64 60, .slice none 0 0] := Bk.newAt (by simp) _ _
  have hR : Rt (((w.alloc (.cells #[.int .i64 0, .int .i64 60] 29)).alloc (.cells #[.int .i64 0, .int .i64 0, .slice none 0 0] 140)).alloc (.cells #[.int .i64 0, .int .i64 60, .slice none 0 0] 140)) b := ((h.alloc _).alloc _).alloc _
  have hG : G w (((w.alloc (.cells #[.int .i64 0, .int .i64 60] 29)).alloc (.cells #[.int .i64 0, .int .i64 0, .slice none 0 0] 140)).alloc (.cells #[.int .i64 0, .int .i64 60, .slice none 0 0] 140)) none := (((G.refl w none).alloc _).alloc _).alloc _
  generalize (((w.alloc (.cells #[.int .i64 0, .int .i64 60] 29)).alloc (.cells #[.int .i64 0, .int .i64 0, .slice none 0 0] 140)).alloc (.cells #[.int .i64 0, .int .i64 60, .slice none 0 0] 140)) = w3 at hB0 hB1 hB2 hR hG ⊢
  obtain ⟨g0, hg0⟩ : ∃ g, w.heap.size = g := ⟨_, rfl⟩
  have hg1 : w.heap.size + 1 = g0 + 1 := by omega
  have hg2 : w.heap.size + 1 + 1 = g0 + 1 + 1 := by omega
  rw [hg0] at hB0 hB1 hB2 ⊢
  obtain ⟨g1, h1⟩ : ∃ g, g0 + 1 = g := ⟨_, rfl⟩
  rw [h1] at hB1 hB2 ⊢
  obtain ⟨g2, h2⟩ : ∃ g, g1 + 1 = g := ⟨_, rfl⟩
  rw [h2] at hB2 ⊢
  refine wp_region_any (by kernel_rfl) ?_
  change wpAny _ _ _ _ _ _ _ (World.drew _)
  have hB0 := hB0.quiet ((G.refl w3 none).drew)
  have hB1 := hB1.quiet ((G.refl w3 none).drew)
  have hB2 := hB2.quiet ((G.refl w3 none).drew)
  have hR := hR.quiet ((G.refl w3 none).drew)
  have hG := hG.drew
  generalize w3.drew = w4 at hB0 hB1 hB2 hR hG ⊢
  have hc2 : w4.cell? ⟨g2, 2, none⟩ = some (.slice none 0 0) := hB2.cell 2
  have hw0 : IntKind.i64.wrap 0 = 0 := by rw [IntKind.wrap_i64]; omega
  refine wpAny_of_K (S := fun w' => w'.cell? ⟨g2, 2, none⟩ = some (.slice none 0 0)) (k := 10) _ _ _ _ ?_
  refine wpAnyK_take (i := 0) (v := .pointer (some ⟨g2, 2, none⟩)) rfl (by decide) (by kernel_rfl) (by kernel_rfl) (by kernel_rfl) (fun _ _ _ h => h) (Or.inl ⟨by rfl, fun w _ => by go_simp⟩) hc2 ?_
  refine wpAnyK_load (i := 1) (v := .slice none 0 0) rfl (by decide) (by kernel_rfl) (by kernel_rfl) (by kernel_rfl) (by kernel_rfl) (by kernel_rfl) (fun _ _ _ h => h) (Or.inl ⟨by rfl, fun w hw => by have hw := hw; go_simp⟩) hc2 ?_
  refine wpAnyK_take (i := 2) (v := .slice (some ⟨b, 0, none⟩) 1 1) rfl (by decide) (by kernel_rfl) (by kernel_rfl) (by kernel_rfl) (fun _ _ _ h => h) (Or.inl ⟨by rfl, fun w _ => by go_simp⟩) hc2 ?_
  refine wpAnyK_take (i := 3) (v := .string ⟨#[99]⟩) rfl (by decide) (by kernel_rfl) (by kernel_rfl) (by kernel_rfl) (fun _ _ _ h => h) (Or.inl ⟨by rfl, fun w _ => by go_simp⟩) hc2 ?_
  refine wpAnyK_take (i := 4) (v := .int .i64 0) rfl (by decide) (by kernel_rfl) (by kernel_rfl) (by kernel_rfl) (fun _ _ _ h => h) (Or.inl ⟨by rfl, fun w _ => by go_simp⟩) hc2 ?_
  refine wpAnyK_take (i := 5) (v := .int .i64 0) rfl (by decide) (by kernel_rfl) (by kernel_rfl) (by kernel_rfl) (fun _ _ _ h => h) (Or.inl ⟨by rfl, fun w _ => by go_simp⟩) hc2 ?_
  refine k_one (i := 6) (by kernel_rfl) rfl fun K' hK => ?_
  refine st_call rfl (f := 61) (args := #[.slice (some ⟨b, 0, none⟩) 1 1, .string ⟨#[99]⟩, .int .i64 0]) (w1 := w4) (by go_simp) ?_
  refine (seasonOn1_c w4 b hR).mono ?_; rintro e w5 ⟨rfl, hG5⟩
  have hc5 : w5.cell? ⟨g2, 2, none⟩ = some (.slice none 0 0) := (hB2.quiet hG5).cell 2
  refine ⟨_, rfl, hK _ _ (fun _ => hc5) ?_⟩
  clear hK K'
  have hB0 := hB0.quiet hG5
  have hB1 := hB1.quiet hG5
  have hB2 := hB2.quiet hG5
  have hG := hG.trans hG5
  clear hG5 hR hc2
  refine k_one (i := 7) (by kernel_rfl) rfl fun K' hK => ?_
  refine st_val rfl (v := .slice (some ⟨w5.heap.size, 0, none⟩) 1 1) (w' := w5.alloc (.cells #[.pointer (some ⟨b, 0, none⟩)] 89)) (by go_simp) ?_
  refine hK _ _ (fun _ => (hB2.alloc _).cell 2) ?_
  clear hK K'
  have hP := Bk.new w5 89 #[.pointer (some ⟨b, 0, none⟩)]
  have hB0 := hB0.alloc (.cells #[.pointer (some ⟨b, 0, none⟩)] 89)
  have hB1 := hB1.alloc (.cells #[.pointer (some ⟨b, 0, none⟩)] 89)
  have hB2 := hB2.alloc (.cells #[.pointer (some ⟨b, 0, none⟩)] 89)
  have hG := hG.alloc (.cells #[.pointer (some ⟨b, 0, none⟩)] 89)
  clear hc5
  obtain ⟨g5, hg5⟩ : ∃ g, w5.heap.size = g := ⟨_, rfl⟩
  rw [hg5] at hP ⊢
  generalize w5.alloc (.cells #[.pointer (some ⟨b, 0, none⟩)] 89) = w6 at hP hB0 hB1 hB2 hG ⊢
  clear hg5
  have hl2 := hB2.lt
  refine k_one (i := 8) (by kernel_rfl) rfl fun K' hK => ?_
  refine st_wp rfl (wp_append_sp (.tmp 20) (.tmp 26) rfl (by go_simp) g5 b (by go_simp) hP fun v w7 hSe hvne hG7 => ?_)
  refine hK _ _ (fun _ => (hB2.quiet hG7).cell 2) ?_
  clear hK K'
  have hB0 := hB0.quiet hG7
  have hB1 := hB1.quiet hG7
  have hB2 := hB2.quiet hG7
  have hG := hG.trans hG7
  clear hP hG7
  refine wpAnyK_take (i := 9) (v := .pointer (some ⟨g2, 2, none⟩)) rfl (by decide) (by kernel_rfl) (by kernel_rfl) (by kernel_rfl) (fun _ _ _ h => h) (Or.inl ⟨by rfl, fun w _ => by go_simp⟩) (hB2.cell 2) ?_
  obtain ⟨gs, cap, rfl, q1, q2, q3, q4⟩ := hSe
  have hc1 := hB2.cell 2
  rw [show (#[Value.int .i64 0, .int .i64 60, .slice none 0 0] : Array Value)[2]? = some (.slice none 0 0) from rfl] at hc1
  have hf1 := hB2.free 2
  refine k_one (i := 10) (by kernel_rfl) rfl fun K' hK => ?_
  rw [if_pos (by rfl)]
  go_simp
  refine hK _ _ (fun h => absurd rfl h) ?_
  clear hK K' hc1 hf1
  refine wpAnyK_of_any _ _ _ _ (by kernel_rfl) ?_
  refine wpAny_done (by kernel_rfl) ?_ _
  have hne1 : gs ≠ g1 := by have := hvne gs rfl; omega
  have hne : ∀ g, (Value.slice (some ⟨gs, 0, none⟩) 1 cap).ownBlock = some g → g ≠ g2 := fun g e => by have := hvne g e; omega
  have hSe8 : Se (w7.setCell ⟨g2, 2, none⟩ (.slice (some ⟨gs, 0, none⟩) 1 cap)) (.slice (some ⟨gs, 0, none⟩) 1 cap) b := by
    refine ⟨gs, cap, rfl, q1, q2, by simpa [World.setCell] using q3, ?_⟩
    rw [← q4]
    exact World.cell?_of_block (w := w7) (Below.heap_setCell _ _ _ _ (hne gs rfl))
  have hB0 := hB0.far (p := ⟨g2, 2, none⟩) (by show g0 ≠ g2; omega) (.slice (some ⟨gs, 0, none⟩) 1 cap)
  have hB1 := hB1.far (p := ⟨g2, 2, none⟩) (by show g1 ≠ g2; omega) (.slice (some ⟨gs, 0, none⟩) 1 cap)
  have hB2 : Bk (w7.setCell ⟨g2, 2, none⟩ (.slice (some ⟨gs, 0, none⟩) 1 cap)) g2 140 #[.int .i64 0, .int .i64 60, .slice (some ⟨gs, 0, none⟩) 1 cap] := hB2.set 2 (.slice (some ⟨gs, 0, none⟩) 1 cap)
  have hG := hG.setCell (p := ⟨g2, 2, none⟩) (.inl (by show w.heap.size ≤ g2; omega)) (.slice (some ⟨gs, 0, none⟩) 1 cap)
  clear q3 q4 hvne hl2
  generalize w7.setCell ⟨g2, 2, none⟩ (.slice (some ⟨gs, 0, none⟩) 1 cap) = w8 at hSe8 hB0 hB1 hB2 hG ⊢
  have c1 := hB0.cell 1
  rw [show (#[Value.int .i64 0, .int .i64 60] : Array Value)[1]? = some (.int .i64 60) from rfl] at c1
  go_wp2_with fail
  rw [rounds_succ]
  go_wp2_with (first | (refine wpList_load_row rfl 140 _ rfl g2 rfl 140 #[.int .i64 0, .int .i64 60, .slice (some ⟨gs, 0, none⟩) 1 cap] (0, 0) _ hB2 Tryd.underlying140 rfl (sy_info _) ?_) | (refine wpList_store_row rfl 140 _ _ rfl g1 #[.int .i64 0, .int .i64 60, .slice (some ⟨gs, 0, none⟩) 1 cap] rfl rfl 140 _ hB1 (sy_info _) rfl (by simp [Value.oneCell']) ?_))
  refine bodyPost_ret (results_cell_row rfl _ _ g1 140 (syC (.slice (some ⟨gs, 0, none⟩) 1 cap)) (0, 0) _ rfl (hB1.setRow _) Tryd.underlying140 rfl (sy_info _)) rfl ?_
  refine ⟨_, rfl, ?_, hG.setRow (.inl (by omega)) _⟩
  obtain ⟨g', cap', e', q1', q2', q3', q4'⟩ := hSe8
  obtain ⟨rfl, rfl⟩ : gs = g' ∧ cap = cap' := by cases e'; exact ⟨rfl, rfl⟩
  refine ⟨gs, cap, rfl, q1', q2', by simpa using q3', ?_⟩
  rw [← q4']
  exact World.cell?_of_block (w := w8) (setRow_other w8 g1 gs _ hne1)
end Go.Proofs.YtgofeigebldkiaaDoor
