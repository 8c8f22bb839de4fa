/- Generator: the time of a hire. -/
import Derived.Test.YtbieiefbgcgogaaDoorStream
import Derived.Test.YtbieiefbgcgogaaDoorGenT
import Derived.Test.YtbieiefbgcgogaaDoorPck
import Derived.Laws.ResultCell
import Derived.Test.YtbieiefbgcgogaaDoorTmb
import Derived.Outline
namespace Go.Proofs.YtbieiefbgcgogaaDoor
open Go.RowKit

def TimePost (s K : Nat) (w : World) (e : Ending) (w' : World) : Prop :=
  ∃ a z : Int, e = .returned (.agg #[.int .i64 a, .int .i64 z]) ∧ bnd a ∧ bnd z ∧ SB w' s (K + 8) ∧ G w w' (some s)
theorem time_fin {w w3 : World} {s K : Nat} {a z : Int} (hs : s < w.heap.size) (ha : bnd a) (hz : bnd z) (hSB : SB w3 s (K + 8)) (hG : G w w3 (some s)) :
    TimePost s K w (.returned (.agg #[.int .i64 a, .int .i64 z])) (w3.setRow w.heap.size #[.int .i64 a, .int .i64 z]) :=
  ⟨a, z, rfl, ha, hz, hSB.setRow hs _, hG.setRow (.inl (Nat.le_refl _)) _⟩
set_option maxRecDepth 100000 in
set_option maxHeartbeats 2000000 in
theorem time_c (w : World) (s : Nat) (K : Nat) (hs : SB w s K) (hk : K ≤ 900000000000) :
    Calls Tryd.prog 24 #[.pointer (some ⟨s, 0, none⟩)] w (TimePost s K w) := by
  have hslt := hs.lt
  go_enter Tryd.func24, Tryd.ntmps24
  go_wp2_with fail
  refine (pick_c _ _ _ [0, 0, 700, 5040, 5700, 6480, 6500, 8000, 10079, 20000] _ _ K ((hs.alloc _).alloc _) (by omega) (by decide) (by decide) (Rd.newAt _ (by simp) rfl (by decide)) (hs.newAt _ _ _ (by omega))).mono ?_
  rintro e w2 ⟨a, rfl, ha, hSB2, hG2⟩
  have ha0 : 0 ≤ a ∧ a ≤ 20000 := by simp only [List.mem_cons, List.mem_nil_iff, or_false] at ha; omega
  obtain ⟨a0, a1⟩ := ha0
  have hz2 : w.heap.size + 2 ≤ w2.heap.size := by have := hG2.size; simp at this; omega
  have hB2 := ((Bk.new w 31 #[.int .i64 0, .int .i64 0]).alloc (.cells _ 3)).grown hG2 (by simp; omega)
  have hG02 : G w w2 (some s) := (((G.refl w (some s)).alloc _).alloc _).trans hG2
  clear hG2 ha
  go_wp2_with fail
  refine (pick_c _ _ _ [1, 59, 60, 61, 300, 1440, 1441, 1500, 2880, 4320, 5850, 7200, 8641, 10080, 11520, 14800, 21600] _ _ _ (hSB2.alloc _) (by omega) (by decide) (by decide) (Rd.newAt _ rfl rfl (by decide)) (hSB2.newAt _ _ _ (Nat.le_refl _))).mono ?_
  rintro e w3 ⟨d, rfl, hd, hSB3, hG3⟩
  have hd0 : 1 ≤ d ∧ d ≤ 21600 := by simp only [List.mem_cons, List.mem_nil_iff, or_false] at hd; omega
  obtain ⟨d0, d1⟩ := hd0
  have hz3 := hG3.size
  have hB3 := (hB2.alloc (.cells _ 3)).grown hG3 (by simp; omega)
  have hG03 := (hG02.alloc _).trans hG3
  simp at hz3
  clear hG3 hd hB2 hG02 hSB2
  obtain ⟨z, hz⟩ : ∃ z, a + d = z := ⟨_, rfl⟩
  have hzb : 1 ≤ z ∧ z ≤ 41600 := by omega
  obtain ⟨z0, z1⟩ := hzb
  have hN4 := Bk.new w3 31 #[.int .i64 a, .int .i64 z]
  have hSB4 := hSB3.alloc (.cells #[.int .i64 a, .int .i64 z] 31)
  have hB4 := hB3.alloc (.cells #[.int .i64 a, .int .i64 z] 31)
  have hG04 := hG03.alloc (.cells #[.int .i64 a, .int .i64 z] 31)
  have hs3 := hSB3.lt
  have hl3 := hB3.lt
  have hgw : w.heap.size ≤ w3.heap.size := hG03.size
  clear hB3 hG03 hSB3 hz3
  have HZ : Hid (bnd a ∧ bnd z) := Lib.hid (by unfold bnd; omega)
  go_wp2_with fail
  generalize w3.alloc (.cells #[.int .i64 a, .int .i64 z] 31) = w4 at hN4 hSB4 hB4 hG04 ⊢
  generalize w3.heap.size = g at hN4 hs3 hl3 hgw ⊢
  clear hz z0 z1 a0 a1 d0 d1
  refine (flip_c _ _ _ _ hSB4 (by omega) (by omega)).mono ?_; rintro e w5 ⟨q, rfl, hSB5, hG5⟩
  have hN5 := hN4.grown hG5 (fun e => by have := Option.some.inj e; omega)
  have hB5 := hB4.grown hG5 (fun e => by have := Option.some.inj e; omega)
  have hG05 := hG04.trans hG5
  clear hN4 hB4 hG04 hG5 hSB4
  cases q with
  | false =>
    go_wp2_with (first | (refine wpList_load_row rfl 31 _ rfl g rfl 31 #[.int .i64 a, .int .i64 z] (0, 0) _ hN5 Tryd.underlying31 rfl (wi_info a z) ?_) | (refine wpList_store_row rfl 31 _ _ rfl w.heap.size #[.int .i64 a, .int .i64 z] rfl rfl 31 _ hB5 (wi_info a z) rfl (wi_one a z) ?_))
    refine bodyPost_ret (results_cell_row rfl _ _ w.heap.size 31 #[.int .i64 a, .int .i64 z] (0, 0) _ rfl (hB5.setRow _) Tryd.underlying31 rfl (wi_info a z)) rfl ?_
    exact time_fin hslt HZ.out.1 HZ.out.2 (hSB5.le (by omega)) hG05
  | true =>
    go_wp2_with fail
    refine (odd_c _ _ _ _ _ hSB5 (by omega) (by omega) (by omega) (by omega) (by omega)).mono ?_; rintro e w6 ⟨y1, rfl, y10, y11, hSB6, hG6⟩
    have hN6 := hN5.grown hG6 (fun e => by have := Option.some.inj e; omega)
    have hB6 := hB5.grown hG6 (fun e => by have := Option.some.inj e; omega)
    have hG06 := hG05.trans hG6
    clear hN5 hB5 hG05 hG6 hSB5
    go_wp2_with fail
    refine (pick_c _ _ _ [0, 1000, 5761439, 5761440, 172800, 173801] _ _ _ (hSB6.alloc _) (by omega) (by decide) (by decide) (Rd.newAt _ rfl rfl (by decide)) (hSB6.newAt _ _ _ (Nat.le_refl _))).mono ?_; rintro e w7 ⟨y2, rfl, hy2, hSB7, hG7⟩
    have b2 := bnd_pick hy2 (by decide)
    have hN7 := (hN6.alloc _).grown hG7 (fun e => by have := Option.some.inj e; omega)
    have hB7 := (hB6.alloc _).grown hG7 (fun e => by have := Option.some.inj e; omega)
    have hG07 := (hG06.alloc _).trans hG7
    clear hN6 hB6 hG06 hG7 hSB6 hy2
    have hN8 := hN7.setRow #[.int .i64 y1, .int .i64 y2]
    have hB8 := hB7.farRow (show w.heap.size ≠ g by omega) #[.int .i64 y1, .int .i64 y2]
    go_wp2_with (first | (refine wpList_store_row rfl 31 _ _ rfl g #[.int .i64 y1, .int .i64 y2] rfl rfl 31 _ hN7 (wi_info y1 y2) rfl (wi_one y1 y2) ?_) | (refine wpList_load_row rfl 31 _ rfl g rfl 31 #[.int .i64 y1, .int .i64 y2] (0, 0) _ hN8 Tryd.underlying31 rfl (wi_info y1 y2) ?_) | (refine wpList_store_row rfl 31 _ _ rfl w.heap.size #[.int .i64 y1, .int .i64 y2] rfl rfl 31 _ hB8 (wi_info y1 y2) rfl (wi_one y1 y2) ?_))
    refine bodyPost_ret (results_cell_row rfl _ _ w.heap.size 31 #[.int .i64 y1, .int .i64 y2] (0, 0) _ rfl (hB8.setRow _) Tryd.underlying31 rfl (wi_info y1 y2)) rfl ?_
    exact time_fin hslt ⟨y10, y11⟩ b2 ((hSB7.setRow hs3 _).le (by omega)) (hG07.setRow (.inl hgw) _)
end Go.Proofs.YtbieiefbgcgogaaDoor
