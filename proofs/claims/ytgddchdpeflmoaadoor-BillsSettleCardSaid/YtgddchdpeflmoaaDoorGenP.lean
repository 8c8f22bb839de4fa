/- Generator: Deal. Written by gendep.py. -/
import Derived.Test.YtgddchdpeflmoaaDoorDea
import Derived.Test.YtgddchdpeflmoaaDoorStream
import Derived.Test.YtgddchdpeflmoaaDoorGenT
import Derived.Test.YtgddchdpeflmoaaDoorPck
import Derived.Laws.ResultCell
namespace Go.Proofs.YtgddchdpeflmoaaDoor
open Go.RowKit

def DealPost (s K : Nat) (w : World) (e : Ending) (w' : World) : Prop :=
  ∃ x : De, e = .returned (.agg (deC x)) ∧ SB w' s (K + 16) ∧ G w w' (some s)
theorem de_one (x : De) : (deC x).all (·.oneCell') = true := by simp [deC, Value.oneCell']
theorem deal_fin {w w3 : World} {s K : Nat} {x : De} (hs : s < w.heap.size) (hSB : SB w3 s (K + 16)) (hG : G w w3 (some s)) :
    DealPost s K w (.returned (.agg (deC x))) (w3.setRow w.heap.size (deC x)) :=
  ⟨x, rfl, hSB.setRow hs _, hG.setRow (.inl (Nat.le_refl _)) _⟩
set_option maxRecDepth 100000 in
set_option maxHeartbeats 4000000 in
theorem deal_c (w : World) (s : Nat) (K : Nat) (hs : SB w s K) (hk : K ≤ 900000000000) :
    Calls Tryd.prog 12 #[.pointer (some ⟨s, 0, none⟩)] w (DealPost s K w) := by
  have hslt := hs.lt
  go_enter Tryd.func12, Tryd.ntmps12
  go_wp2_with fail
  refine (pick_c _ _ _ [0, 100, 200, 10000] _ _ K ((hs.alloc _).alloc _) (by omega) (by decide) (by decide) (Rd.newAt _ (by simp) rfl (by decide)) (hs.newAt _ _ _ (by omega))).mono ?_
  rintro e w1 ⟨a0, rfl, hp, hSB1, hG1⟩
  have hz1 : w.heap.size + 2 ≤ w1.heap.size := by have := hG1.size; simp at this; omega
  have hB1 := ((Bk.new w 27 #[.int .i64 0, .int .i64 0, .int .i64 0, .int .i64 0, .int .i64 0, .int .i64 0, .int .i64 0]).alloc (.cells _ 3)).grown hG1 (by simp; omega)
  have hG01 : G w w1 (some s) := (((G.refl w (some s)).alloc _).alloc _).trans hG1
  clear hG1 hp hz1
  go_wp2_with fail
  refine (pick_c _ _ _ [0, 2, 30] _ _ _ (hSB1.alloc _) (by omega) (by decide) (by decide) (Rd.newAt _ rfl rfl (by decide)) (hSB1.newAt _ _ _ (Nat.le_refl _))).mono ?_
  rintro e w2 ⟨a1, rfl, hp, hSB2, hG2⟩
  have hB2 := (hB1.alloc (.cells _ 3)).grown hG2 (by simp; omega)
  have hG02 := (hG01.alloc _).trans hG2
  clear hG2 hp hB1 hG01 hSB1
  go_wp2_with fail
  refine (pick_c _ _ _ [0, 300, 1000] _ _ _ (hSB2.alloc _) (by omega) (by decide) (by decide) (Rd.newAt _ rfl rfl (by decide)) (hSB2.newAt _ _ _ (Nat.le_refl _))).mono ?_
  rintro e w3 ⟨a2, rfl, hp, hSB3, hG3⟩
  have hB3 := (hB2.alloc (.cells _ 3)).grown hG3 (fun e => by have := Option.some.inj e; omega)
  have hG03 := (hG02.alloc _).trans hG3
  clear hG3 hp hB2 hG02 hSB2
  go_wp2_with fail
  refine (pick_c _ _ _ [0, 29, 30, 59, 60] _ _ _ (hSB3.alloc _) (by omega) (by decide) (by decide) (Rd.newAt _ rfl rfl (by decide)) (hSB3.newAt _ _ _ (Nat.le_refl _))).mono ?_
  rintro e w4 ⟨a3, rfl, hp, hSB4, hG4⟩
  have hB4 := (hB3.alloc (.cells _ 3)).grown hG4 (fun e => by have := Option.some.inj e; omega)
  have hG04 := (hG03.alloc _).trans hG4
  clear hG4 hp hB3 hG03 hSB3
  go_wp2_with fail
  refine (pick_c _ _ _ [0, 500, 1000, 2000] _ _ _ (hSB4.alloc _) (by omega) (by decide) (by decide) (Rd.newAt _ rfl rfl (by decide)) (hSB4.newAt _ _ _ (Nat.le_refl _))).mono ?_
  rintro e w5 ⟨a4, rfl, hp, hSB5, hG5⟩
  have hB5 := (hB4.alloc (.cells _ 3)).grown hG5 (fun e => by have := Option.some.inj e; omega)
  have hG05 := (hG04.alloc _).trans hG5
  clear hG5 hp hB4 hG04 hSB4
  go_wp2_with fail
  refine (pick_c _ _ _ [0, 4000, 5000, 9000] _ _ _ (hSB5.alloc _) (by omega) (by decide) (by decide) (Rd.newAt _ rfl rfl (by decide)) (hSB5.newAt _ _ _ (Nat.le_refl _))).mono ?_
  rintro e w6 ⟨a5, rfl, hp, hSB6, hG6⟩
  have hB6 := (hB5.alloc (.cells _ 3)).grown hG6 (fun e => by have := Option.some.inj e; omega)
  have hG06 := (hG05.alloc _).trans hG6
  clear hG6 hp hB5 hG05 hSB5
  go_wp2_with fail
  refine (pick_c _ _ _ [0, 10000, 1000000] _ _ _ (hSB6.alloc _) (by omega) (by decide) (by decide) (Rd.newAt _ rfl rfl (by decide)) (hSB6.newAt _ _ _ (Nat.le_refl _))).mono ?_
  rintro e w7 ⟨a6, rfl, hp, hSB7, hG7⟩
  have hB7 := (hB6.alloc (.cells _ 3)).grown hG7 (fun e => by have := Option.some.inj e; omega)
  have hG07 := (hG06.alloc _).trans hG7
  clear hG7 hp hB6 hG06 hSB6
  have hN8 := Bk.new w7 27 #[.int .i64 a0, .int .i64 a1, .int .i64 a2, .int .i64 a3, .int .i64 a4, .int .i64 a5, .int .i64 a6]
  have hSB8 := hSB7.alloc (.cells #[.int .i64 a0, .int .i64 a1, .int .i64 a2, .int .i64 a3, .int .i64 a4, .int .i64 a5, .int .i64 a6] 27)
  have hB8 := hB7.alloc (.cells #[.int .i64 a0, .int .i64 a1, .int .i64 a2, .int .i64 a3, .int .i64 a4, .int .i64 a5, .int .i64 a6] 27)
  have hG08 := hG07.alloc (.cells #[.int .i64 a0, .int .i64 a1, .int .i64 a2, .int .i64 a3, .int .i64 a4, .int .i64 a5, .int .i64 a6] 27)
  have hs7 := hSB7.lt
  have hl7 := hB7.lt
  have hgw : w.heap.size ≤ w7.heap.size := hG07.size
  clear hB7 hG07 hSB7
  go_wp2_with fail
  generalize w7.alloc (.cells #[.int .i64 a0, .int .i64 a1, .int .i64 a2, .int .i64 a3, .int .i64 a4, .int .i64 a5, .int .i64 a6] 27) = w8 at hN8 hSB8 hB8 hG08 ⊢
  generalize w7.heap.size = g at hN8 hs7 hl7 hgw ⊢
  refine (flip_c _ _ _ _ hSB8 (by omega) (by omega)).mono ?_; rintro e w9 ⟨q, rfl, hSB9, hG9⟩
  have hN9 := hN8.grown hG9 (fun e => by have := Option.some.inj e; omega)
  have hB9 := hB8.grown hG9 (fun e => by have := Option.some.inj e; omega)
  have hG09 := hG08.trans hG9
  clear hN8 hB8 hG08 hG9 hSB8
  cases q with
  | false =>
    go_wp2_with (first | (refine wpList_load_row rfl 27 _ rfl g rfl 27 #[.int .i64 a0, .int .i64 a1, .int .i64 a2, .int .i64 a3, .int .i64 a4, .int .i64 a5, .int .i64 a6] (0, 0) _ hN9 Tryd.underlying27 rfl (de_info ⟨a0, a1, a2, a3, a4, a5, a6⟩) ?_) | (refine wpList_store_row rfl 27 _ _ rfl w.heap.size #[.int .i64 a0, .int .i64 a1, .int .i64 a2, .int .i64 a3, .int .i64 a4, .int .i64 a5, .int .i64 a6] rfl rfl 27 _ hB9 (de_info ⟨a0, a1, a2, a3, a4, a5, a6⟩) rfl (de_one ⟨a0, a1, a2, a3, a4, a5, a6⟩) ?_) | (refine wpList_load_row rfl 27 _ rfl w.heap.size rfl 27 #[.int .i64 a0, .int .i64 a1, .int .i64 a2, .int .i64 a3, .int .i64 a4, .int .i64 a5, .int .i64 a6] (0, 0) _ (hB9.setRow _) Tryd.underlying27 rfl (de_info ⟨a0, a1, a2, a3, a4, a5, a6⟩) ?_))
    refine bodyPost_ret (results_cell_row rfl _ _ w.heap.size 27 #[.int .i64 a0, .int .i64 a1, .int .i64 a2, .int .i64 a3, .int .i64 a4, .int .i64 a5, .int .i64 a6] (0, 0) _ rfl (hB9.setRow _) Tryd.underlying27 rfl (de_info ⟨a0, a1, a2, a3, a4, a5, a6⟩)) rfl ?_
    exact deal_fin (x := ⟨a0, a1, a2, a3, a4, a5, a6⟩) hslt (hSB9.le (by omega)) hG09
  | true =>
    go_wp2_with fail
    refine (odd_c _ _ _ _ _ hSB9 (by omega) (by omega) (by omega) (by omega) (by omega)).mono ?_; rintro e wa ⟨b0, rfl, b0, b1, hSBa, hGa⟩
    have hNa := hN9.grown hGa (fun e => by have := Option.some.inj e; omega)
    have hBa := hB9.grown hGa (fun e => by have := Option.some.inj e; omega)
    have hG0a := hG09.trans hGa
    clear hN9 hB9 hG09 hGa hSB9 b0 b1
    go_wp2_with fail
    refine (odd_c _ _ _ _ _ hSBa (by omega) (by omega) (by omega) (by omega) (by omega)).mono ?_; rintro e wb ⟨b1, rfl, b0, b1, hSBb, hGb⟩
    have hNb := hNa.grown hGb (fun e => by have := Option.some.inj e; omega)
    have hBb := hBa.grown hGb (fun e => by have := Option.some.inj e; omega)
    have hG0b := hG0a.trans hGb
    clear hNa hBa hG0a hGb hSBa b0 b1
    go_wp2_with fail
    refine (odd_c _ _ _ _ _ hSBb (by omega) (by omega) (by omega) (by omega) (by omega)).mono ?_; rintro e wc ⟨b2, rfl, b0, b1, hSBc, hGc⟩
    have hNc := hNb.grown hGc (fun e => by have := Option.some.inj e; omega)
    have hBc := hBb.grown hGc (fun e => by have := Option.some.inj e; omega)
    have hG0c := hG0b.trans hGc
    clear hNb hBb hG0b hGc hSBb b0 b1
    go_wp2_with fail
    refine (odd_c _ _ _ _ _ hSBc (by omega) (by omega) (by omega) (by omega) (by omega)).mono ?_; rintro e wd ⟨b3, rfl, b0, b1, hSBd, hGd⟩
    have hNd := hNc.grown hGd (fun e => by have := Option.some.inj e; omega)
    have hBd := hBc.grown hGd (fun e => by have := Option.some.inj e; omega)
    have hG0d := hG0c.trans hGd
    clear hNc hBc hG0c hGd hSBc b0 b1
    have n0 : wd.cell? ⟨g, 0, none⟩ = some (.int .i64 a0) := hNd.cell 0
    have n1 : wd.cell? ⟨g, 1, none⟩ = some (.int .i64 a1) := hNd.cell 1
    have n2 : wd.cell? ⟨g, 2, none⟩ = some (.int .i64 a2) := hNd.cell 2
    have n3 : wd.cell? ⟨g, 3, none⟩ = some (.int .i64 a3) := hNd.cell 3
    have n4 : wd.cell? ⟨g, 4, none⟩ = some (.int .i64 a4) := hNd.cell 4
    have n5 : wd.cell? ⟨g, 5, none⟩ = some (.int .i64 a5) := hNd.cell 5
    have n6 : wd.cell? ⟨g, 6, none⟩ = some (.int .i64 a6) := hNd.cell 6
    have x0 := hNd.free 0
    have x3 := hNd.free 3
    have x4 := hNd.free 4
    have x6 := hNd.free 6
    go_upto_region 4 with fail
    have hNe : Bk ((((wd.setCell ⟨g, 0, none⟩ (.int .i64 b0)).setCell ⟨g, 3, none⟩ (.int .i64 b1)).setCell ⟨g, 4, none⟩ (.int .i64 b2)).setCell ⟨g, 6, none⟩ (.int .i64 b3)) g 27 #[.int .i64 b0, .int .i64 a1, .int .i64 a2, .int .i64 b1, .int .i64 b2, .int .i64 a5, .int .i64 b3] := (((hNd.set 0 _).set 3 _).set 4 _).set 6 _
    have hBe := ((((hBd.far (p := ⟨g, 0, none⟩) (show w.heap.size ≠ g by omega) (.int .i64 b0)).far (p := ⟨g, 3, none⟩) (show w.heap.size ≠ g by omega) (.int .i64 b1)).far (p := ⟨g, 4, none⟩) (show w.heap.size ≠ g by omega) (.int .i64 b2)).far (p := ⟨g, 6, none⟩) (show w.heap.size ≠ g by omega) (.int .i64 b3))
    have hSBe := ((((hSBd.setCell (p := ⟨g, 0, none⟩) hs7 (.int .i64 b0)).setCell (p := ⟨g, 3, none⟩) hs7 (.int .i64 b1)).setCell (p := ⟨g, 4, none⟩) hs7 (.int .i64 b2)).setCell (p := ⟨g, 6, none⟩) hs7 (.int .i64 b3))
    have hG0e := ((((hG0d.setCell (p := ⟨g, 0, none⟩) (.inl hgw) (.int .i64 b0)).setCell (p := ⟨g, 3, none⟩) (.inl hgw) (.int .i64 b1)).setCell (p := ⟨g, 4, none⟩) (.inl hgw) (.int .i64 b2)).setCell (p := ⟨g, 6, none⟩) (.inl hgw) (.int .i64 b3))
    generalize ((((wd.setCell ⟨g, 0, none⟩ (.int .i64 b0)).setCell ⟨g, 3, none⟩ (.int .i64 b1)).setCell ⟨g, 4, none⟩ (.int .i64 b2)).setCell ⟨g, 6, none⟩ (.int .i64 b3)) = we at hNe hBe hSBe hG0e ⊢
    clear hNd hBd hSBd hG0d n0 n1 n2 n3 n4 n5 n6 x0 x3 x4 x6
    go_wp2_with (first | (refine wpList_load_row rfl 27 _ rfl g rfl 27 #[.int .i64 b0, .int .i64 a1, .int .i64 a2, .int .i64 b1, .int .i64 b2, .int .i64 a5, .int .i64 b3] (0, 0) _ hNe Tryd.underlying27 rfl (de_info ⟨b0, a1, a2, b1, b2, a5, b3⟩) ?_) | (refine wpList_store_row rfl 27 _ _ rfl w.heap.size #[.int .i64 b0, .int .i64 a1, .int .i64 a2, .int .i64 b1, .int .i64 b2, .int .i64 a5, .int .i64 b3] rfl rfl 27 _ hBe (de_info ⟨b0, a1, a2, b1, b2, a5, b3⟩) rfl (de_one ⟨b0, a1, a2, b1, b2, a5, b3⟩) ?_) | (refine wpList_load_row rfl 27 _ rfl w.heap.size rfl 27 #[.int .i64 b0, .int .i64 a1, .int .i64 a2, .int .i64 b1, .int .i64 b2, .int .i64 a5, .int .i64 b3] (0, 0) _ (hBe.setRow _) Tryd.underlying27 rfl (de_info ⟨b0, a1, a2, b1, b2, a5, b3⟩) ?_))
    refine bodyPost_ret (results_cell_row rfl _ _ w.heap.size 27 #[.int .i64 b0, .int .i64 a1, .int .i64 a2, .int .i64 b1, .int .i64 b2, .int .i64 a5, .int .i64 b3] (0, 0) _ rfl (hBe.setRow _) Tryd.underlying27 rfl (de_info ⟨b0, a1, a2, b1, b2, a5, b3⟩)) rfl ?_
    exact deal_fin (x := ⟨b0, a1, a2, b1, b2, a5, b3⟩) hslt (hSBe.le (by omega)) hG0e
end Go.Proofs.YtgddchdpeflmoaaDoor
