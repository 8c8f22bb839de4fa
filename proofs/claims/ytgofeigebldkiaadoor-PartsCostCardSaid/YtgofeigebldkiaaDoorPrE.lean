/- The law's own 'priced': the plans of a stay of one rental day. -/
import Derived.Test.YtgofeigebldkiaaDoorPrD
import Derived.Deep.MidRow
namespace Go.Proofs.YtgofeigebldkiaaDoor
open Go.RowKit

abbrev plA : Array Value := #[.bool true, .int .i64 7, .int .i64 1, .int .i64 2, .int .i64 1, .int .i64 7]
abbrev plZ : Array Value := #[.bool false, .int .i64 0, .int .i64 0, .int .i64 0, .int .i64 0, .int .i64 0]
abbrev plE : Array Value := #[.bool true, .int .i64 0, .int .i64 0, .int .i64 0, .int .i64 0, .int .i64 0]
set_option maxRecDepth 100000 in
set_option maxHeartbeats 1000000 in
theorem better1_c (w : World) : Calls Tryd.prog 115 #[.agg plA, .agg plZ] w fun e w' => e = .returned (.bool true) ∧ G w w' none := by
  go_enter Tryd.func115, Tryd.ntmps115
  go_wp2_with fail
  go_ret
  exact ⟨rfl, ((G.refl _ _).alloc _).alloc _⟩
abbrev pl0 : Array Value := #[.bool false, .int .i64 0, .int .i64 0, .int .i64 0, .int .i64 0, .int .i64 0, .bool false, .int .i64 0, .int .i64 0, .int .i64 0, .int .i64 0, .int .i64 0]
abbrev pl1 : Array Value := #[.bool false, .int .i64 0, .int .i64 0, .int .i64 0, .int .i64 0, .int .i64 0, .bool true, .int .i64 0, .int .i64 0, .int .i64 0, .int .i64 0, .int .i64 0]
/-- The two plans, as they are at the end. -/
abbrev pl2 : Array Value := #[.bool true, .int .i64 7, .int .i64 1, .int .i64 2, .int .i64 1, .int .i64 7, .bool true, .int .i64 0, .int .i64 0, .int .i64 0, .int .i64 0, .int .i64 0]
/-- What stands while the plans are made. -/
def QInv (w0 : World) (b g0 gp : Nat) (v : Value) (pl : Array Value) (w : World) : Prop := Bk w g0 140 (syC v) ∧ Bk w gp 145 pl ∧ Se w v b ∧ Rt w b ∧ G w0 w none
theorem QInv.quiet {w0 w w' : World} {b g0 gp : Nat} {v : Value} {pl : Array Value} (h : QInv w0 b g0 gp v pl w) (hG : G w w' none) : QInv w0 b g0 gp v pl w' :=
  ⟨h.1.quiet hG, h.2.1.quiet hG, h.2.2.1.quiet hG, h.2.2.2.1.quiet hG, h.2.2.2.2.trans hG⟩
theorem QInv.set {w0 w : World} {b g0 gp : Nat} {v : Value} {pl : Array Value} (h : QInv w0 b g0 gp v pl w) (h0 : g0 ≠ gp) (hv : ∀ g, v.ownBlock = some g → g ≠ gp) (hb : b ≠ gp) (hw : w0.heap.size ≤ gp) (i : Nat) (x : Value) : QInv w0 b g0 gp v (pl.setIfInBounds i x) (w.setCell ⟨gp, i, none⟩ x) := by
  obtain ⟨h1, h2, h3, h4, h5⟩ := h
  refine ⟨h1.far (p := ⟨gp, i, none⟩) h0 x, h2.set i x, ?_, h4.far (p := ⟨gp, i, none⟩) hb x, h5.setCell (p := ⟨gp, i, none⟩) (.inl hw) x⟩
  obtain ⟨g, cap, rfl, q1, q2, q3, q4⟩ := h3
  exact ⟨g, cap, rfl, q1, q2, by simpa [World.setCell] using q3, (World.cell?_of_block (w := w) (Below.heap_setCell _ _ _ _ (hv g rfl))).trans q4⟩
theorem Bk.sub {w : World} {g : Nat} {T : TypeId} {cs : Array Value} (h : Bk w g T cs) (o : Nat) (sub : Array Value) (hs : ∀ (j : Nat) (u : Value), sub[j]? = some u → cs[o + j]? = some u) : ∀ j u, sub.toList[j]? = some u → w.cell? ((⟨g, o, none⟩ : Addr).add j) = some u := fun j u hu => by
  rw [add_at, h.cell]
  exact hs j u (by simpa using hu)
theorem pl_info : (Tryd.prog.info? 145).map (·.size) = some plA.size := (by kernel_rfl : (Tryd.prog.info? 145).map (·.size) = some 6)
set_option maxRecDepth 100000 in
set_option maxHeartbeats 8000000 in
theorem plans1_c (v : Value) (b : Nat) (w : World) (h : Se w v b) (hR : Rt w b) : Calls Tryd.prog 98 #[.agg (syC v)] w fun e w' => ∃ g, e = .returned (.slice (some ⟨g, 0, none⟩) 2 2) ∧ Bk w' g 145 pl2 ∧ G w w' none := by
  have hms : ∀ w : World, (Instr.makeSlice 142 (.int .i64 2) (.int .i64 2)).run Tryd.prog w = .ok (.slice (some ⟨w.heap.size, 0, none⟩) 2 2) (w.alloc (.cells pl0 145)) := fun _ => by kernel_rfl
  have hB := Bk.new w 140 (syC v)
  have hG := (G.refl w none).alloc (.cells (syC v) 140)
  have hS := h.quiet hG
  have hR' := hR.quiet hG
  have hvs : ∀ g, v.ownBlock = some g → g < w.heap.size := fun g e => by
    obtain ⟨g', cap, rfl, _, _, q3, _⟩ := h
    obtain rfl := Option.some.inj e
    exact q3
  have hbl := hR.lt
  go_enter Tryd.func98, Tryd.ntmps98
  go_wp2_with fail
  refine (stDays1_c _ b _ hS).mono ?_; rintro e w1 ⟨rfl, hG1⟩
  have hB1 := hB.quiet hG1
  have hS1 := hS.quiet hG1
  have hR1 := hR'.quiet hG1
  have hG01 := hG.trans hG1
  clear hB hS hR' hG hG1 h hR
  have hz1 := hB1.lt
  have hI : QInv w b w.heap.size w1.heap.size v pl0 (w1.alloc (.cells pl0 145)) := ⟨hB1.alloc _, Bk.new w1 _ _, hS1.quiet ((G.refl _ _).alloc _), hR1.alloc _, hG01.alloc _⟩
  have n1 : w.heap.size ≠ w1.heap.size := by omega
  have n2 : ∀ g, v.ownBlock = some g → g ≠ w1.heap.size := fun g e => by have := hvs g e; omega
  have n3 : b ≠ w1.heap.size := by omega
  have n4 : w.heap.size ≤ w1.heap.size := by omega
  clear hB1 hS1 hR1 hG01 hvs hbl hz1
  have hL := hI.1
  obtain ⟨g0, hg0⟩ : ∃ g, w.heap.size = g := ⟨_, rfl⟩
  rw [hg0] at hI n1 hL ⊢
  go_wp2_with (refine wpList_load_row rfl 140 _ rfl g0 rfl 140 (syC v) (0, 0) _ hL Tryd.underlying140 rfl (sy_info v) ?_)
  generalize w1.alloc (.cells pl0 145) = w2 at hI hL ⊢
  generalize w1.heap.size = gp at hI n1 n2 n3 n4 ⊢
  refine (stDays1_c _ b _ hI.2.2.1).mono ?_; rintro e w3 ⟨rfl, hG3⟩
  have hI := hI.quiet hG3
  clear hL
  have hL := hI.1.far (p := ⟨gp, 6, none⟩) n1 (.bool true)
  have d6 : w3.cell? ⟨gp, 6, none⟩ = some (.bool false) := hI.2.1.cell 6
  have f6 := hI.2.1.free 6
  have hI6 : QInv w b g0 gp v pl1 (w3.setCell ⟨gp, 6, none⟩ (.bool true)) := hI.set n1 n2 n3 n4 6 (.bool true)
  clear hI
  go_wp2_with (refine wpList_load_row rfl 140 _ rfl g0 rfl 140 (syC v) (0, 0) _ hL Tryd.underlying140 rfl (sy_info v) ?_)
  generalize w3.setCell ⟨gp, 6, none⟩ (.bool true) = w4 at hI6 hL ⊢
  refine (stDays1_c _ b _ hI6.2.2.1).mono ?_; rintro e w5 ⟨rfl, hG5⟩
  have hI := hI6.quiet hG5
  clear hI6 hL d6 f6
  have hL := hI.1
  go_wp2_with fail
  refine wp_loop_rounds 2 ?_
  rw [rounds_succ]
  go_wp2_with (refine wpList_load_row rfl 140 _ rfl g0 rfl 140 (syC v) (0, 0) _ hL Tryd.underlying140 rfl (sy_info v) ?_)
  refine (pieces1_c _ b _ hI.2.2.1 hI.2.2.2.1).mono ?_; rintro e w6 ⟨p, rfl, hp, hG6⟩
  have hI := hI.quiet hG6
  clear hL
  have hp' := hp
  obtain ⟨gc, cap, rfl, q1, q2, q3, q4, q5, q6⟩ := hp'
  go_wp2_with fail
  refine wp_loop_rounds 2 ?_
  rw [rounds_succ]
  have hI' := hI.quiet ((G.refl w6 none).alloc (.cells #[.int .i64 2, .int .i64 1, .int .i64 7] 104))
  have HA := Lib.hid (Bk.sub hI'.2.1 6 plE (fun j u hu => by
    match j, hu with
    | 0, hu => exact hu
    | 1, hu => exact hu
    | 2, hu => exact hu
    | 3, hu => exact hu
    | 4, hu => exact hu
    | 5, hu => exact hu
    | j + 6, hu => simp at hu))
  go_wp2_with (refine wpList_load_at rfl 145 _ rfl ⟨gp, 6, none⟩ rfl plE _ HA.out Tryd.underlying145 rfl pl_info ?_)
  have hP7 : Bk ((w6.alloc (.cells #[.int .i64 2, .int .i64 1, .int .i64 7] 104)).alloc (.cells #[.bool true, .int .i64 7, .int .i64 1, .int .i64 2, .int .i64 1, .int .i64 7] 145)) (w6.heap.size + 1) 145 plA := Bk.newAt (by simp) _ _
  have hI7 := hI'.quiet ((G.refl _ none).alloc (.cells #[.bool true, .int .i64 7, .int .i64 1, .int .i64 2, .int .i64 1, .int .i64 7] 145))
  have hgp : gp < w6.heap.size := hI.2.1.lt
  have n7 : w6.heap.size + 1 ≠ gp := by omega
  clear hI' HA hI hp q3 q4 q5 q6
  generalize ((w6.alloc (.cells #[.int .i64 2, .int .i64 1, .int .i64 7] 104)).alloc (.cells #[.bool true, .int .i64 7, .int .i64 1, .int .i64 2, .int .i64 1, .int .i64 7] 145)) = w7 at hP7 hI7 ⊢
  generalize w6.heap.size + 1 = g7 at hP7 n7 ⊢
  have hS7 : w7.cell? ⟨g7, 0, none⟩ = some (.bool true) ∧ w7.cell? ⟨g7, 1, none⟩ = some (.int .i64 7) ∧ w7.cell? ⟨g7, 2, none⟩ = some (.int .i64 1) ∧ w7.cell? ⟨g7, 3, none⟩ = some (.int .i64 2) ∧ w7.cell? ⟨g7, 4, none⟩ = some (.int .i64 1) ∧ w7.cell? ⟨g7, 5, none⟩ = some (.int .i64 7) ∧ w7.cell? ⟨gp, 0, none⟩ = some (.bool false) ∧ w7.cell? ⟨gp, 1, none⟩ = some (.int .i64 0) ∧ w7.cell? ⟨gp, 2, none⟩ = some (.int .i64 0) ∧ w7.cell? ⟨gp, 3, none⟩ = some (.int .i64 0) ∧ w7.cell? ⟨gp, 4, none⟩ = some (.int .i64 0) ∧ w7.cell? ⟨gp, 5, none⟩ = some (.int .i64 0) := ⟨hP7.cell 0, hP7.cell 1, hP7.cell 2, hP7.cell 3, hP7.cell 4, hP7.cell 5, hI7.2.1.cell 0, hI7.2.1.cell 1, hI7.2.1.cell 2, hI7.2.1.cell 3, hI7.2.1.cell 4, hI7.2.1.cell 5⟩
  go_region_held3 (fun w' => w'.cell? ⟨g7, 0, none⟩ = some (.bool true) ∧ w'.cell? ⟨g7, 1, none⟩ = some (.int .i64 7) ∧ w'.cell? ⟨g7, 2, none⟩ = some (.int .i64 1) ∧ w'.cell? ⟨g7, 3, none⟩ = some (.int .i64 2) ∧ w'.cell? ⟨g7, 4, none⟩ = some (.int .i64 1) ∧ w'.cell? ⟨g7, 5, none⟩ = some (.int .i64 7) ∧ w'.cell? ⟨gp, 0, none⟩ = some (.bool false) ∧ w'.cell? ⟨gp, 1, none⟩ = some (.int .i64 0) ∧ w'.cell? ⟨gp, 2, none⟩ = some (.int .i64 0) ∧ w'.cell? ⟨gp, 3, none⟩ = some (.int .i64 0) ∧ w'.cell? ⟨gp, 4, none⟩ = some (.int .i64 0) ∧ w'.cell? ⟨gp, 5, none⟩ = some (.int .i64 0)) (first | exact hS7 | exact hS8 | go_keep) (first | (go_at_call 115; refine (better1_c _).mono ?_; rintro e w8 ⟨rfl, hG8⟩; have hP8 := (hP7.quiet ((G.refl w7 none).drew)).quiet hG8; have hI8 := (hI7.quiet ((G.refl w7 none).drew)).quiet hG8; have hS8 : w8.cell? ⟨g7, 0, none⟩ = some (.bool true) ∧ w8.cell? ⟨g7, 1, none⟩ = some (.int .i64 7) ∧ w8.cell? ⟨g7, 2, none⟩ = some (.int .i64 1) ∧ w8.cell? ⟨g7, 3, none⟩ = some (.int .i64 2) ∧ w8.cell? ⟨g7, 4, none⟩ = some (.int .i64 1) ∧ w8.cell? ⟨g7, 5, none⟩ = some (.int .i64 7) ∧ w8.cell? ⟨gp, 0, none⟩ = some (.bool false) ∧ w8.cell? ⟨gp, 1, none⟩ = some (.int .i64 0) ∧ w8.cell? ⟨gp, 2, none⟩ = some (.int .i64 0) ∧ w8.cell? ⟨gp, 3, none⟩ = some (.int .i64 0) ∧ w8.cell? ⟨gp, 4, none⟩ = some (.int .i64 0) ∧ w8.cell? ⟨gp, 5, none⟩ = some (.int .i64 0) := ⟨hP8.cell 0, hP8.cell 1, hP8.cell 2, hP8.cell 3, hP8.cell 4, hP8.cell 5, hI8.2.1.cell 0, hI8.2.1.cell 1, hI8.2.1.cell 2, hI8.2.1.cell 3, hI8.2.1.cell 4, hI8.2.1.cell 5⟩))
  have e0 : w8.cell? ⟨gp, 0, none⟩ = some (.bool false) := hI8.2.1.cell 0
  have f0 := hI8.2.1.free 0
  have e1 : w8.cell? ⟨gp, 1, none⟩ = some (.int .i64 0) := hI8.2.1.cell 1
  have f1 := hI8.2.1.free 1
  have e2 : w8.cell? ⟨gp, 2, none⟩ = some (.int .i64 0) := hI8.2.1.cell 2
  have f2 := hI8.2.1.free 2
  have e3 : w8.cell? ⟨gp, 3, none⟩ = some (.int .i64 0) := hI8.2.1.cell 3
  have f3 := hI8.2.1.free 3
  have e4 : w8.cell? ⟨gp, 4, none⟩ = some (.int .i64 0) := hI8.2.1.cell 4
  have f4 := hI8.2.1.free 4
  have e5 : w8.cell? ⟨gp, 5, none⟩ = some (.int .i64 0) := hI8.2.1.cell 5
  have f5 := hI8.2.1.free 5
  have hJ0 := hI8.set n1 n2 n3 n4 0 (.bool true)
  have hJ1 := hJ0.set n1 n2 n3 n4 1 (.int .i64 7)
  have hJ2 := hJ1.set n1 n2 n3 n4 2 (.int .i64 1)
  have hJ3 := hJ2.set n1 n2 n3 n4 3 (.int .i64 2)
  have hJ4 := hJ3.set n1 n2 n3 n4 4 (.int .i64 1)
  have hJ5 := hJ4.set n1 n2 n3 n4 5 (.int .i64 7)
  have hset : w8.setCells gp 0 plA.toList = ((((((w8.setCell ⟨gp, 0, none⟩ (.bool true)).setCell ⟨gp, 1, none⟩ (.int .i64 7)).setCell ⟨gp, 2, none⟩ (.int .i64 1)).setCell ⟨gp, 3, none⟩ (.int .i64 2)).setCell ⟨gp, 4, none⟩ (.int .i64 1)).setCell ⟨gp, 5, none⟩ (.int .i64 7)) := rfl
  have hJ : QInv w b g0 gp v pl2 (w8.setCells gp 0 plA.toList) := by rw [hset]; exact hJ5
  have hth : w8.there gp 0 6 := fun j hj => by
    match j, hj with
    | 0, _ => exact ⟨by rw [e0]; rfl, f0⟩
    | 1, _ => exact ⟨by rw [e1]; rfl, f1⟩
    | 2, _ => exact ⟨by rw [e2]; rfl, f2⟩
    | 3, _ => exact ⟨by rw [e3]; rfl, f3⟩
    | 4, _ => exact ⟨by rw [e4]; rfl, f4⟩
    | 5, _ => exact ⟨by rw [e5]; rfl, f5⟩
  have HT := Lib.hid hth
  have HJ := Lib.hid hJ
  clear hJ hset hth hJ0 hJ1 hJ2 hJ3 hJ4 hJ5 hS7 hS8 hI7 hI8 n1 n2 n3 n4 hms hP7 e0 e1 e2 e3 e4 e5 f0 f1 f2 f3 f4 f5
  go_wp2_with (first | (refine wpList_load_row rfl 145 _ rfl g7 rfl 145 plA (0, 0) _ hP8 Tryd.underlying145 rfl pl_info ?_) | (refine wpList_store_mid rfl 145 _ _ rfl gp 0 plA rfl rfl HT.out pl_info (by simp [Value.oneCell']) ?_; generalize w8.setCells gp 0 plA.toList = w9 at HJ ⊢))
  rw [rounds_succ]
  go_wp2_with fail
  rw [rounds_succ]
  go_wp2_with fail
  go_ret
  exact ⟨gp, rfl, HJ.out.2.1, HJ.out.2.2.2.2⟩
end Go.Proofs.YtgofeigebldkiaaDoor
