/- Generator: a reading. -/
import Derived.Test.YtbieiefbgcgogaaDoorHir
import Derived.Test.YtbieiefbgcgogaaDoorStream
import Derived.Test.YtbieiefbgcgogaaDoorGenT
import Derived.Test.YtbieiefbgcgogaaDoorPck
import Derived.Laws.ResultCell
namespace Go.Proofs.YtbieiefbgcgogaaDoor
open Go.RowKit

def bnd2 (n : Int) : Prop := -2199023255552 ≤ n ∧ n ≤ 2199023255552
def rgB (x : Rg) : Prop := bnd2 x.1 ∧ Small x.2.1 ∧ bnd x.2.2.1 ∧ bnd x.2.2.2
def ReadingPost (s K : Nat) (w : World) (e : Ending) (w' : World) : Prop :=
  ∃ r : Rg, e = .returned (.agg (rgC r)) ∧ rgB r ∧ SB w' s (K + 12) ∧ G w w' (some s)
theorem rg_one (x : Rg) : (rgC x).all (·.oneCell') = true := by simp [rgC, Value.oneCell']
theorem reading_fin {w w3 : World} {s K : Nat} {r : Rg} (hs : s < w.heap.size) (hr : rgB r) (hSB : SB w3 s (K + 12)) (hG : G w w3 (some s)) :
    ReadingPost s K w (.returned (.agg (rgC r))) (w3.setRow w.heap.size (rgC r)) :=
  ⟨r, rfl, hr, hSB.setRow hs _, hG.setRow (.inl (Nat.le_refl _)) _⟩
set_option maxRecDepth 100000 in
set_option maxHeartbeats 4000000 in
theorem reading_c (t : Int) (w : World) (s : Nat) (K : Nat) (ht : bnd t) (hs : SB w s K) (hk : K ≤ 900000000000) :
    Calls Tryd.prog 25 #[.pointer (some ⟨s, 0, none⟩), .int .i64 t] w (ReadingPost s K w) := by
  have hslt := hs.lt
  unfold bnd at ht
  have HT := Lib.hid ht
  obtain ⟨ht0, ht1⟩ := ht
  go_enter Tryd.func25, Tryd.ntmps25
  go_wp2_with fail
  refine (some_c _ _ _ [⟨#[115, 49]⟩, ⟨#[115, 49]⟩, ⟨#[115, 50]⟩, ⟨#[115, 51]⟩] _ _ K ((hs.alloc _).alloc _) (by omega) (by decide) (by decide) (Rd.newAt _ (by simp) rfl (by decide)) (hs.newAt _ _ _ (by omega))).mono ?_
  rintro e w2 ⟨k, rfl, hp, hSB2, hG2⟩
  have HK := Lib.hid (small_pick hp (by decide))
  have hz2 : w.heap.size + 2 ≤ w2.heap.size := by have := hG2.size; simp at this; omega
  have hB2 := ((Bk.new w 57 #[.int .i64 0, .string ⟨#[]⟩, .int .i64 0, .int .i64 0]).alloc (.cells _ 9)).grown hG2 (by simp; omega)
  have hG02 : G w w2 (some s) := (((G.refl w (some s)).alloc _).alloc _).trans hG2
  clear hG2 hp
  go_wp2_with fail
  refine (pick_c _ _ _ [0, 5, 100, 500, 999990, 999999] _ _ _ (hSB2.alloc _) (by omega) (by decide) (by decide) (Rd.newAt _ rfl rfl (by decide)) (hSB2.newAt _ _ _ (Nat.le_refl _))).mono ?_
  rintro e w3 ⟨m, rfl, hp, hSB3, hG3⟩
  have HM := Lib.hid (bnd_pick hp (by decide))
  have hB3 := (hB2.alloc (.cells _ 3)).grown hG3 (by simp; omega)
  have hG03 := (hG02.alloc _).trans hG3
  clear hG3 hp hB2 hG02 hSB2 hz2
  go_wp2_with fail
  refine (range_c 0 8 _ _ _ hSB3 (by omega) (by omega) (by omega) (by omega)).mono ?_; rintro e w4 ⟨f, rfl, f0, f1, hSB4, hG4⟩
  have HF : Hid (bnd f) := Lib.hid (by unfold bnd; omega)
  have hB4 := hB3.grown hG4 (fun e => by have := Option.some.inj e; omega)
  have hG04 := hG03.trans hG4
  clear hG4 hB3 hG03 hSB3 f0 f1
  have hN5 := Bk.new w4 57 #[.int .i64 t, .string k, .int .i64 m, .int .i64 f]
  have hSB5 := hSB4.alloc (.cells #[.int .i64 t, .string k, .int .i64 m, .int .i64 f] 57)
  have hB5 := hB4.alloc (.cells #[.int .i64 t, .string k, .int .i64 m, .int .i64 f] 57)
  have hG05 := hG04.alloc (.cells #[.int .i64 t, .string k, .int .i64 m, .int .i64 f] 57)
  have hs4 := hSB4.lt
  have hl4 := hB4.lt
  have hgw : w.heap.size ≤ w4.heap.size := hG04.size
  clear hB4 hG04 hSB4
  go_wp2_with fail
  generalize w4.alloc (.cells #[.int .i64 t, .string k, .int .i64 m, .int .i64 f] 57) = w5 at hN5 hSB5 hB5 hG05 ⊢
  generalize w4.heap.size = g at hN5 hs4 hl4 hgw ⊢
  refine (flip_c _ _ _ _ hSB5 (by omega) (by omega)).mono ?_; rintro e w6 ⟨q, rfl, hSB6, hG6⟩
  have hN6 := hN5.grown hG6 (fun e => by have := Option.some.inj e; omega)
  have hB6 := hB5.grown hG6 (fun e => by have := Option.some.inj e; omega)
  have hG06 := hG05.trans hG6
  clear hN5 hB5 hG05 hG6 hSB5
  cases q with
  | false =>
    go_wp2_with (first | (refine wpList_load_row rfl 57 _ rfl g rfl 57 #[.int .i64 t, .string k, .int .i64 m, .int .i64 f] (0, 0) _ hN6 Tryd.underlying57 rfl (rg_info (t, k, m, f)) ?_) | (refine wpList_store_row rfl 57 _ _ rfl w.heap.size #[.int .i64 t, .string k, .int .i64 m, .int .i64 f] rfl rfl 57 _ hB6 (rg_info (t, k, m, f)) rfl (rg_one (t, k, m, f)) ?_))
    refine bodyPost_ret (results_cell_row rfl _ _ w.heap.size 57 #[.int .i64 t, .string k, .int .i64 m, .int .i64 f] (0, 0) _ rfl (hB6.setRow _) Tryd.underlying57 rfl (rg_info (t, k, m, f))) rfl ?_
    exact reading_fin (r := (t, k, m, f)) hslt ⟨by have := HT.out; unfold bnd2; dsimp only; omega, HK.out, HM.out, HF.out⟩ (hSB6.le (by omega)) hG06
  | true =>
    have hwr : IntKind.i64.wrap (t + 1) = t + 1 := by rw [IntKind.wrap_i64]; omega
    go_wp2_with fail
    refine (pick_c _ _ _ [t, t + 1, -1, 5761440] _ _ _ (hSB6.alloc _) (by omega) (by decide) (by decide) (Rd.newAt _ rfl rfl (by decide)) (hSB6.newAt _ _ _ (Nat.le_refl _))).mono ?_; rintro e w7 ⟨t2, rfl, hp, hSB7, hG7⟩
    have HT2 : Hid (bnd2 t2) := Lib.hid (by simp only [List.mem_cons, List.mem_nil_iff, or_false] at hp; unfold bnd2; omega)
    have hN7 := (hN6.alloc (.cells _ 3)).grown hG7 (fun e => by have := Option.some.inj e; omega)
    have hB7 := (hB6.alloc (.cells _ 3)).grown hG7 (fun e => by have := Option.some.inj e; omega)
    have hG07 := (hG06.alloc _).trans hG7
    clear hN6 hB6 hG06 hG7 hSB6 hp
    go_wp2_with fail
    refine (some_c _ _ _ [⟨#[115, 49]⟩, ⟨#[]⟩, ⟨#[65]⟩] _ _ _ (hSB7.alloc _) (by omega) (by decide) (by decide) (Rd.newAt _ rfl rfl (by decide)) (hSB7.newAt _ _ _ (Nat.le_refl _))).mono ?_; rintro e w8 ⟨k2, rfl, hp, hSB8, hG8⟩
    have HK2 := Lib.hid (small_pick hp (by decide))
    have hN8 := (hN7.alloc (.cells _ 9)).grown hG8 (fun e => by have := Option.some.inj e; omega)
    have hB8 := (hB7.alloc (.cells _ 9)).grown hG8 (fun e => by have := Option.some.inj e; omega)
    have hG08 := (hG07.alloc _).trans hG8
    clear hN7 hB7 hG07 hG8 hSB7 hp
    go_wp2_with fail
    refine (odd_c _ _ _ _ _ hSB8 (by omega) (by omega) (by omega) (by omega) (by omega)).mono ?_; rintro e w9 ⟨m2, rfl, m20, m21, hSB9, hG9⟩
    have HM2 : Hid (bnd m2) := Lib.hid ⟨m20, m21⟩
    have hN9 := hN8.grown hG9 (fun e => by have := Option.some.inj e; omega)
    have hB9 := hB8.grown hG9 (fun e => by have := Option.some.inj e; omega)
    have hG09 := hG08.trans hG9
    clear hN8 hB8 hG08 hG9 hSB8 m20 m21
    go_wp2_with fail
    refine (odd_c _ _ _ _ _ hSB9 (by omega) (by omega) (by omega) (by omega) (by omega)).mono ?_; rintro e wa ⟨f2, rfl, f20, f21, hSBa, hGa⟩
    have HF2 : Hid (bnd f2) := Lib.hid ⟨f20, f21⟩
    have hNa := hN9.grown hGa (fun e => by have := Option.some.inj e; omega)
    have hBa := hB9.grown hGa (fun e => by have := Option.some.inj e; omega)
    have hG0a := hG09.trans hGa
    clear hN9 hB9 hG09 hGa hSB9 f20 f21 hwr
    have n0 : wa.cell? ⟨g, 0, none⟩ = some (.int .i64 t) := hNa.cell 0
    have n1 : wa.cell? ⟨g, 1, none⟩ = some (.string k) := hNa.cell 1
    have n2 : wa.cell? ⟨g, 2, none⟩ = some (.int .i64 m) := hNa.cell 2
    have n3 : wa.cell? ⟨g, 3, none⟩ = some (.int .i64 f) := hNa.cell 3
    have x0 := hNa.free 0
    have x1 := hNa.free 1
    have x2 := hNa.free 2
    have x3 := hNa.free 3
    go_upto_region 4 with fail
    have hNb : Bk ((((wa.setCell ⟨g, 0, none⟩ (.int .i64 t2)).setCell ⟨g, 1, none⟩ (.string k2)).setCell ⟨g, 2, none⟩ (.int .i64 m2)).setCell ⟨g, 3, none⟩ (.int .i64 f2)) g 57 #[.int .i64 t2, .string k2, .int .i64 m2, .int .i64 f2] := (((hNa.set 0 _).set 1 _).set 2 _).set 3 _
    have hBb := (((hBa.far (p := ⟨g, 0, none⟩) (show w.heap.size ≠ g by omega) (.int .i64 t2)).far (p := ⟨g, 1, none⟩) (show w.heap.size ≠ g by omega) (.string k2)).far (p := ⟨g, 2, none⟩) (show w.heap.size ≠ g by omega) (.int .i64 m2)).far (p := ⟨g, 3, none⟩) (show w.heap.size ≠ g by omega) (.int .i64 f2)
    have hSBb := (((hSBa.setCell (p := ⟨g, 0, none⟩) hs4 (.int .i64 t2)).setCell (p := ⟨g, 1, none⟩) hs4 (.string k2)).setCell (p := ⟨g, 2, none⟩) hs4 (.int .i64 m2)).setCell (p := ⟨g, 3, none⟩) hs4 (.int .i64 f2)
    have hGb := (((hG0a.setCell (p := ⟨g, 0, none⟩) (.inl hgw) (.int .i64 t2)).setCell (p := ⟨g, 1, none⟩) (.inl hgw) (.string k2)).setCell (p := ⟨g, 2, none⟩) (.inl hgw) (.int .i64 m2)).setCell (p := ⟨g, 3, none⟩) (.inl hgw) (.int .i64 f2)
    generalize (((wa.setCell ⟨g, 0, none⟩ (.int .i64 t2)).setCell ⟨g, 1, none⟩ (.string k2)).setCell ⟨g, 2, none⟩ (.int .i64 m2)).setCell ⟨g, 3, none⟩ (.int .i64 f2) = wb at hNb hBb hSBb hGb ⊢
    go_wp2_with (first | (refine wpList_load_row rfl 57 _ rfl g rfl 57 #[.int .i64 t2, .string k2, .int .i64 m2, .int .i64 f2] (0, 0) _ hNb Tryd.underlying57 rfl (rg_info (t2, k2, m2, f2)) ?_) | (refine wpList_store_row rfl 57 _ _ rfl w.heap.size #[.int .i64 t2, .string k2, .int .i64 m2, .int .i64 f2] rfl rfl 57 _ hBb (rg_info (t2, k2, m2, f2)) rfl (rg_one (t2, k2, m2, f2)) ?_))
    refine bodyPost_ret (results_cell_row rfl _ _ w.heap.size 57 #[.int .i64 t2, .string k2, .int .i64 m2, .int .i64 f2] (0, 0) _ rfl (hBb.setRow _) Tryd.underlying57 rfl (rg_info (t2, k2, m2, f2))) rfl ?_
    exact reading_fin (r := (t2, k2, m2, f2)) hslt ⟨HT2.out, HK2.out, HM2.out, HF2.out⟩ (hSBb.le (by omega)) hGb
end Go.Proofs.YtbieiefbgcgogaaDoor
