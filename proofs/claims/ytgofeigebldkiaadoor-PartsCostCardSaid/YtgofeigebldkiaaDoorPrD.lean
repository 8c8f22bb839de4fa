/- The law's own 'priced': the pieces of a rental day. -/
import Derived.Test.YtgofeigebldkiaaDoorPrC
namespace Go.Proofs.YtgofeigebldkiaaDoor
open Go.RowKit

/-- One piece, a day for 7. -/
def Pc (w : World) (v : Value) : Prop := ∃ g cap, v = .slice (some ⟨g, 0, none⟩) 1 cap ∧ 1 ≤ cap ∧ cap ≤ maxLen ∧ g < w.heap.size ∧ w.cell? ⟨g, 0, none⟩ = some (.int .i64 2) ∧ w.cell? ⟨g, 1, none⟩ = some (.int .i64 1) ∧ w.cell? ⟨g, 2, none⟩ = some (.int .i64 7)
theorem Pc.quiet {w w' : World} {v : Value} (h : Pc w v) (hG : G w w' none) : Pc w' v := by
  obtain ⟨g, cap, rfl, h1, h2, h3, h4, h5, h6⟩ := h
  exact ⟨g, cap, rfl, h1, h2, Nat.lt_of_lt_of_le h3 hG.size, ((gcell hG).1 g _ h3).trans h4, ((gcell hG).1 g _ h3).trans h5, ((gcell hG).1 g _ h3).trans h6⟩
abbrev pcC : Array Value := #[.int .i64 2, .int .i64 1, .int .i64 7]
theorem pc_row : (Tryd.prog.info? 104).map (fun i => (i.zero, i.size, i.bytes)) = some (some (.agg #[.int .i64 0, .int .i64 0, .int .i64 0]), 3, 24) := by kernel_rfl
theorem wp_append_pc {w : World} {o : Oper} {a : Act} {K : Act → World → Prop} {Q : Exit → Act → World → Prop} (s x : Operand)
    (ho : o.op = .call { callee := .builtin .append, args := #[s, x], argTypes := #[99, 99] }) (hs : a.eval s = .slice none 0 0)
    (g : Nat) (hx : a.eval x = .slice (some ⟨g, 0, none⟩) 1 1) (hb : Bk w g 104 pcC)
    (hK : ∀ v' w', Pc w' v' → (∀ g, v'.ownBlock = some g → w.heap.size ≤ g) → G w w' none → K (a.put o.dst v') w') : o.wp Tryd.prog a w K Q := by
  obtain ⟨i0, hi, hz0, hz1, hz2⟩ := info_parts pc_row
  refine wp_append_own w s x 99 ho w.heap.size 104 i0 _ 3 24 Tryd.underlying99 hi hz0 hz1 hz2 rfl (by decide) (.slice none 0 0) 0 [] hs (World.ownsRow_nil _ _ _ _) ⟨g, 0, none⟩ 1 1 pcC.toList hx rfl hb.at_ (by simp [Value.oneCell']) (by unfold maxLen; omega) (by omega) (Nat.le_refl _) ?_
  intro v w7 hown hgrow _
  refine hK v w7 ?_ (fun g e => (World.ownsRow.lt hown g e).1) hgrow
  obtain ⟨o1, o2⟩ := hown
  rcases o2 with ⟨_, o3⟩ | ⟨g, cap, cur, rfl, k1, k2, k3, k4, k5, k6⟩
  · omega
  · have hat : ∀ (i : Nat) (u : Value), (pcC.toList)[i]? = some u → w7.cell? ⟨g, i, none⟩ = some u := fun i u hu => by
      rw [cell_of_row w7 g i cur _ _ k2]
      have h1 := congrArg (fun l : List Value => l[i]?) k6
      simp only [List.nil_append] at h1
      rw [hu] at h1
      rw [List.getElem?_take] at h1
      split at h1
      · simpa using h1
      · cases h1
    exact ⟨g, cap, rfl, by omega, k4, (Array.getElem?_eq_some_iff.1 k2).1, hat 0 _ rfl, hat 1 _ rfl, hat 2 _ rfl⟩
set_option maxRecDepth 100000 in
theorem addNo_c (k d t : Int) (g : Nat) (w : World) : Calls Tryd.prog 124 #[.int .i64 k, .int .i64 d, .int .i64 (-1), .int .i64 t, .pointer (some ⟨g, 0, none⟩)] w fun e w' => e = .returned (.tuple #[]) ∧ w = w' := by
  go_enter Tryd.func124, Tryd.ntmps124
  go_wp2_with fail
  go_end0
  exact ⟨rfl, rfl⟩
set_option maxRecDepth 100000 in
set_option maxHeartbeats 2000000 in
theorem addDay_c (g : Nat) (w : World) (hB : Bk w g 99 #[.slice none 0 0]) : Calls Tryd.prog 124 #[.int .i64 2, .int .i64 1, .int .i64 7, .int .i64 1, .pointer (some ⟨g, 0, none⟩)] w fun e w' => ∃ v, e = .returned (.tuple #[]) ∧ Pc w' v ∧ Bk w' g 99 #[v] ∧ G w w' (some g) := by
  have c0 := hB.cell 0
  have f0 := hB.free 0
  have hgl := hB.lt
  rw [show (#[Value.slice none 0 0] : Array Value)[0]? = some (.slice none 0 0) from rfl] at c0
  go_enter Tryd.func124, Tryd.ntmps124
  go_wp2_with (at_builtin; refine wpList_plain rfl fun K' hK' => wp_append_pc _ _ rfl rfl w.heap.size rfl (Bk.newAt rfl _ _) fun v w7 hpc hvne hG7 => ?_; refine hK' _ _ ?_; clear hK'; obtain ⟨gs, cap, rfl, q1, q2, q3, q4, q5, q6⟩ := hpc; have hB7 := (hB.alloc (.cells #[.int .i64 2, .int .i64 1, .int .i64 7] 104)).quiet hG7; have c7 : w7.cell? ⟨g, 0, none⟩ = some (.slice none 0 0) := hB7.cell 0; have f7 := hB7.free 0)
  go_end0
  have hne : gs ≠ g := by have := hvne gs rfl; simp at this; omega
  have hcell : ∀ i, (w7.setCell ⟨g, 0, none⟩ (.slice (some ⟨gs, 0, none⟩) 1 cap)).cell? ⟨gs, i, none⟩ = w7.cell? ⟨gs, i, none⟩ := fun i => World.cell?_of_block (w := w7) (Below.heap_setCell _ _ _ _ hne)
  refine ⟨_, rfl, ⟨gs, cap, rfl, q1, q2, by simpa [World.setCell] using q3, (hcell 0).trans q4, (hcell 1).trans q5, (hcell 2).trans q6⟩, hB7.set 0 _, ?_⟩
  exact (((G.refl w (some g)).alloc _).trans (hG7.but (some g))).setCell (.inr rfl) _
/-- What stands while the pieces of the day are put together. -/
def PInv (w0 : World) (b g g6 : Nat) (v pv : Value) (w : World) : Prop := Bk w g 140 (syC v) ∧ Bk w g6 99 #[pv] ∧ Se w v b ∧ Rt w b ∧ G w0 w none
theorem PInv.quiet {w0 w w' : World} {b g g6 : Nat} {v pv : Value} (h : PInv w0 b g g6 v pv w) (hG : G w w' none) : PInv w0 b g g6 v pv w' :=
  ⟨h.1.quiet hG, h.2.1.quiet hG, h.2.2.1.quiet hG, h.2.2.2.1.quiet hG, h.2.2.2.2.trans hG⟩
set_option maxRecDepth 100000 in
set_option maxHeartbeats 8000000 in
theorem pieces1_c (v : Value) (b : Nat) (w : World) (h : Se w v b) (hR : Rt w b) : Calls Tryd.prog 114 #[.agg (syC v), .int .i64 0] w fun e w' => ∃ p, e = .returned p ∧ Pc w' p ∧ G w w' none := by
  have hmf : ∀ (fn : Go.Fn) (first cap : Array Value) (w : World), (Instr.makeFunc fn first cap).run Tryd.prog w = .ok (.func fn first cap) w := fun _ _ _ _ => rfl
  have h' := h
  obtain ⟨gs, cap, rfl, q1, q2, q3, q4⟩ := h'
  have hcs : (w.alloc (.cells (syC (.slice (some ⟨gs, 0, none⟩) 1 cap)) 140)).cell? ⟨gs, 0, none⟩ = some (.pointer (some ⟨b, 0, none⟩)) := ((gcell ((G.refl w none).alloc _)).1 gs _ q3).trans q4
  have hbl := hR.lt
  go_enter Tryd.func114, Tryd.ntmps114
  go_wp2_with fail
  clear hcs q4
  have hI : PInv w b w.heap.size (w.heap.size + 1) (.slice (some ⟨gs, 0, none⟩) 1 cap) (.slice none 0 0) ((w.alloc (.cells (syC (.slice (some ⟨gs, 0, none⟩) 1 cap)) 140)).alloc (.cells #[.slice none 0 0] 99)) := ⟨(Bk.new w _ _).alloc _, Bk.newAt (by simp) _ _, (h.quiet ((G.refl _ _).alloc _)).quiet ((G.refl _ _).alloc _), (hR.alloc _).alloc _, ((G.refl w none).alloc _).alloc _⟩
  have hg6 : w.heap.size ≤ w.heap.size + 1 := by omega
  have hgs6 : gs ≠ w.heap.size + 1 := by omega
  have hb6 : b ≠ w.heap.size + 1 := by omega
  have hgg6 : w.heap.size ≠ w.heap.size + 1 := by omega
  clear h hR q3 hbl
  generalize ((w.alloc (.cells (syC (.slice (some ⟨gs, 0, none⟩) 1 cap)) 140)).alloc (.cells #[.slice none 0 0] 99)) = w2 at hI ⊢
  generalize w.heap.size + 1 = g6 at hI hg6 hgs6 hb6 hgg6 ⊢
  obtain ⟨g, hg⟩ : ∃ g, w.heap.size = g := ⟨_, rfl⟩
  rw [hg] at hI hg6 hgg6 ⊢
  refine (stDays1_c _ b _ hI.2.2.1).mono ?_; rintro e w3 ⟨rfl, hG3⟩
  have hI := hI.quiet hG3
  have c0 : w3.cell? ⟨g, 0, none⟩ = some (.int .i64 0) := hI.1.cell 0
  have c1 : w3.cell? ⟨g, 1, none⟩ = some (.int .i64 60) := hI.1.cell 1
  have c2 : w3.cell? ⟨g, 2, none⟩ = some (.slice (some ⟨gs, 0, none⟩) 1 cap) := hI.1.cell 2
  have c6 : w3.cell? ⟨g6, 0, none⟩ = some (.slice none 0 0) := hI.2.1.cell 0
  have r3 : w3.cell? ⟨b, 3, none⟩ = some (.int .i64 (-1)) := (hI.2.2.2.1.cell 3).trans rt3
  have r4 : w3.cell? ⟨b, 4, none⟩ = some (.int .i64 7) := (hI.2.2.2.1.cell 4).trans rt4
  have r5 : w3.cell? ⟨b, 5, none⟩ = some (.int .i64 (-1)) := (hI.2.2.2.1.cell 5).trans rt5
  have r6 : w3.cell? ⟨b, 6, none⟩ = some (.int .i64 (-1)) := (hI.2.2.2.1.cell 6).trans rt6
  go_wp2_with fail
  go_region_held3 (fun w' => w'.cell? ⟨b, 3, none⟩ = some (.int .i64 (-1)) ∧ w'.cell? ⟨g, 0, none⟩ = some (.int .i64 0) ∧ w'.cell? ⟨g, 1, none⟩ = some (.int .i64 60) ∧ w'.cell? ⟨g, 2, none⟩ = some (.slice (some ⟨gs, 0, none⟩) 1 cap)) (first | exact ⟨r3, c0, c1, c2⟩ | exact hS5 | exact hS4 | go_keep) (first | (go_at_call 125; refine (ends1_c _ _).mono ?_; rintro e w4 ⟨rfl, hG4⟩; have hI4 := (hI.quiet ((G.refl w3 none).drew)).quiet hG4; have hS4 : w4.cell? ⟨b, 3, none⟩ = some (.int .i64 (-1)) ∧ w4.cell? ⟨g, 0, none⟩ = some (.int .i64 0) ∧ w4.cell? ⟨g, 1, none⟩ = some (.int .i64 60) ∧ w4.cell? ⟨g, 2, none⟩ = some (.slice (some ⟨gs, 0, none⟩) 1 cap) := ⟨(hI4.2.2.2.1.cell 3).trans rt3, hI4.1.cell 0, hI4.1.cell 1, hI4.1.cell 2⟩) | (go_at_call 126; refine (begins0_c _ _).mono ?_; rintro e w5 ⟨rfl, hG5⟩; have hI5 := hI4.quiet hG5; have hS5 : w5.cell? ⟨b, 3, none⟩ = some (.int .i64 (-1)) ∧ w5.cell? ⟨g, 0, none⟩ = some (.int .i64 0) ∧ w5.cell? ⟨g, 1, none⟩ = some (.int .i64 60) ∧ w5.cell? ⟨g, 2, none⟩ = some (.slice (some ⟨gs, 0, none⟩) 1 cap) := ⟨(hI5.2.2.2.1.cell 3).trans rt3, hI5.1.cell 0, hI5.1.cell 1, hI5.1.cell 2⟩) | (go_at_call 58; refine (begun1_c 60 60 _ (by omega) (by omega) (by omega) (by omega)).mono ?_; rintro e w' ⟨rfl, rfl⟩) | (go_at_call 124; refine (addNo_c _ _ _ _ _).mono ?_; rintro e w' ⟨rfl, rfl⟩))
  clear c0 c1 c2 c6 r3 r4 r5 r6
  have hI := hI5
  clear hI4 hI5 hS4 hS5
  have c0 : w5.cell? ⟨g, 0, none⟩ = some (.int .i64 0) := hI.1.cell 0
  have c1 : w5.cell? ⟨g, 1, none⟩ = some (.int .i64 60) := hI.1.cell 1
  have c2 : w5.cell? ⟨g, 2, none⟩ = some (.slice (some ⟨gs, 0, none⟩) 1 cap) := hI.1.cell 2
  have c6 : w5.cell? ⟨g6, 0, none⟩ = some (.slice none 0 0) := hI.2.1.cell 0
  have r3 : w5.cell? ⟨b, 3, none⟩ = some (.int .i64 (-1)) := (hI.2.2.2.1.cell 3).trans rt3
  have r4 : w5.cell? ⟨b, 4, none⟩ = some (.int .i64 7) := (hI.2.2.2.1.cell 4).trans rt4
  have r5 : w5.cell? ⟨b, 5, none⟩ = some (.int .i64 (-1)) := (hI.2.2.2.1.cell 5).trans rt5
  have r6 : w5.cell? ⟨b, 6, none⟩ = some (.int .i64 (-1)) := (hI.2.2.2.1.cell 6).trans rt6
  go_wp2_with fail
  refine (addDay_c g6 _ hI.2.1).mono ?_; rintro e w6 ⟨pv, rfl, hpc, hP6, hG6⟩
  obtain ⟨i1, i2, i3, i4, i5⟩ := hI
  have hSe6 : Se w6 (.slice (some ⟨gs, 0, none⟩) 1 cap) b := by
    obtain ⟨g', cap', e', k1, k2, k3, k4⟩ := i3
    obtain ⟨rfl, rfl⟩ : gs = g' ∧ cap = cap' := by cases e'; exact ⟨rfl, rfl⟩
    exact ⟨gs, cap, rfl, k1, k2, Nat.lt_of_lt_of_le k3 hG6.size, ((gcell_s hG6).1 gs _ k3 hgs6).trans k4⟩
  have hI : PInv w b g g6 (.slice (some ⟨gs, 0, none⟩) 1 cap) pv w6 := ⟨i1.grown hG6 (fun e => hgg6 (Option.some.inj e)), hP6, hSe6, i4.grown hG6 (fun e => hb6 (Option.some.inj e)), i5.other hG6 (fun j e => .inl (by have := Option.some.inj e; omega))⟩
  clear i1 i2 i3 i4 i5 hSe6 hP6 hG6
  clear c0 c1 c2 c6 r3 r4 r5 r6
  have c0 : w6.cell? ⟨g, 0, none⟩ = some (.int .i64 0) := hI.1.cell 0
  have c1 : w6.cell? ⟨g, 1, none⟩ = some (.int .i64 60) := hI.1.cell 1
  have c2 : w6.cell? ⟨g, 2, none⟩ = some (.slice (some ⟨gs, 0, none⟩) 1 cap) := hI.1.cell 2
  have c6 : w6.cell? ⟨g6, 0, none⟩ = some (pv) := hI.2.1.cell 0
  have r3 : w6.cell? ⟨b, 3, none⟩ = some (.int .i64 (-1)) := (hI.2.2.2.1.cell 3).trans rt3
  have r4 : w6.cell? ⟨b, 4, none⟩ = some (.int .i64 7) := (hI.2.2.2.1.cell 4).trans rt4
  have r5 : w6.cell? ⟨b, 5, none⟩ = some (.int .i64 (-1)) := (hI.2.2.2.1.cell 5).trans rt5
  have r6 : w6.cell? ⟨b, 6, none⟩ = some (.int .i64 (-1)) := (hI.2.2.2.1.cell 6).trans rt6
  go_wp2_with fail
  refine (weekendDays1_c _ b _ hI.2.2.1).mono ?_; rintro e w7 ⟨rfl, hG7⟩
  have hI := hI.quiet hG7
  have hpc := hpc.quiet hG7
  clear c0 c1 c2 c6 r3 r4 r5 r6
  have c0 : w7.cell? ⟨g, 0, none⟩ = some (.int .i64 0) := hI.1.cell 0
  have c1 : w7.cell? ⟨g, 1, none⟩ = some (.int .i64 60) := hI.1.cell 1
  have c2 : w7.cell? ⟨g, 2, none⟩ = some (.slice (some ⟨gs, 0, none⟩) 1 cap) := hI.1.cell 2
  have c6 : w7.cell? ⟨g6, 0, none⟩ = some (pv) := hI.2.1.cell 0
  have r3 : w7.cell? ⟨b, 3, none⟩ = some (.int .i64 (-1)) := (hI.2.2.2.1.cell 3).trans rt3
  have r4 : w7.cell? ⟨b, 4, none⟩ = some (.int .i64 7) := (hI.2.2.2.1.cell 4).trans rt4
  have r5 : w7.cell? ⟨b, 5, none⟩ = some (.int .i64 (-1)) := (hI.2.2.2.1.cell 5).trans rt5
  have r6 : w7.cell? ⟨b, 6, none⟩ = some (.int .i64 (-1)) := (hI.2.2.2.1.cell 6).trans rt6
  go_wp2_with fail
  refine wp_loop_rounds 2 ?_
  rw [rounds_succ]
  go_wp2_with fail
  refine (addNo_c _ _ _ _ _).mono ?_; rintro e w' ⟨rfl, rfl⟩
  go_wp2_with fail
  rw [rounds_succ]
  go_wp2_with fail
  refine (stDays1_c _ b _ hI.2.2.1).mono ?_; rintro e w8 ⟨rfl, hG8⟩
  have hI := hI.quiet hG8
  have hpc := hpc.quiet hG8
  clear c0 c1 c2 c6 r3 r4 r5 r6
  have c0 : w8.cell? ⟨g, 0, none⟩ = some (.int .i64 0) := hI.1.cell 0
  have c1 : w8.cell? ⟨g, 1, none⟩ = some (.int .i64 60) := hI.1.cell 1
  have c2 : w8.cell? ⟨g, 2, none⟩ = some (.slice (some ⟨gs, 0, none⟩) 1 cap) := hI.1.cell 2
  have c6 : w8.cell? ⟨g6, 0, none⟩ = some (pv) := hI.2.1.cell 0
  have r3 : w8.cell? ⟨b, 3, none⟩ = some (.int .i64 (-1)) := (hI.2.2.2.1.cell 3).trans rt3
  have r4 : w8.cell? ⟨b, 4, none⟩ = some (.int .i64 7) := (hI.2.2.2.1.cell 4).trans rt4
  have r5 : w8.cell? ⟨b, 5, none⟩ = some (.int .i64 (-1)) := (hI.2.2.2.1.cell 5).trans rt5
  have r6 : w8.cell? ⟨b, 6, none⟩ = some (.int .i64 (-1)) := (hI.2.2.2.1.cell 6).trans rt6
  go_wp2_with fail
  refine (sameSeason1_c _ b _ hI.2.2.1).mono ?_; rintro e w9 ⟨rfl, hG9⟩
  have hI := hI.quiet hG9
  have hpc := hpc.quiet hG9
  clear c0 c1 c2 c6 r3 r4 r5 r6
  have c0 : w9.cell? ⟨g, 0, none⟩ = some (.int .i64 0) := hI.1.cell 0
  have c1 : w9.cell? ⟨g, 1, none⟩ = some (.int .i64 60) := hI.1.cell 1
  have c2 : w9.cell? ⟨g, 2, none⟩ = some (.slice (some ⟨gs, 0, none⟩) 1 cap) := hI.1.cell 2
  have c6 : w9.cell? ⟨g6, 0, none⟩ = some (pv) := hI.2.1.cell 0
  have r3 : w9.cell? ⟨b, 3, none⟩ = some (.int .i64 (-1)) := (hI.2.2.2.1.cell 3).trans rt3
  have r4 : w9.cell? ⟨b, 4, none⟩ = some (.int .i64 7) := (hI.2.2.2.1.cell 4).trans rt4
  have r5 : w9.cell? ⟨b, 5, none⟩ = some (.int .i64 (-1)) := (hI.2.2.2.1.cell 5).trans rt5
  have r6 : w9.cell? ⟨b, 6, none⟩ = some (.int .i64 (-1)) := (hI.2.2.2.1.cell 6).trans rt6
  go_wp2_with fail
  refine (addNo_c _ _ _ _ _).mono ?_; rintro e w' ⟨rfl, rfl⟩
  go_wp2_with fail
  go_ret
  exact ⟨pv, rfl, hpc, hI.2.2.2.2⟩
end Go.Proofs.YtgofeigebldkiaaDoor
