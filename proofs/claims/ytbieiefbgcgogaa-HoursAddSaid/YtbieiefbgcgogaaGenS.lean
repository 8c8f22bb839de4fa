/- Generators: Moment, Window, Station, Stations. -/
import Derived.Test.YtbieiefbgcgogaaRows
import Derived.Test.YtbieiefbgcgogaaBase
import Derived.Test.YtbieiefbgcgogaaStream
import Derived.Outline
namespace Go.Proofs.Ytbieiefbgcgogaa
open Go.RowKit

def MomentPost (s K : Nat) (w : World) (e : Ending) (w' : World) : Prop := ∃ r : Int, e = .returned (.int .i64 r) ∧ -1 ≤ r ∧ r ≤ 5761440 ∧ SB w' s (K + 1) ∧ G w w' (some s)
/-- The fifteen cells of a station: its key, and the two ends of its hours on seven days. -/
def stC (r : ByteArray) (h : Nat → Int) : Array Value := #[.string r, .int .i64 (h 0), .int .i64 (h 1), .int .i64 (h 2), .int .i64 (h 3), .int .i64 (h 4), .int .i64 (h 5), .int .i64 (h 6), .int .i64 (h 7), .int .i64 (h 8), .int .i64 (h 9), .int .i64 (h 10), .int .i64 (h 11), .int .i64 (h 12), .int .i64 (h 13)]
def upd (h : Nat → Int) (i : Nat) (x : Int) : Nat → Int := fun j => if j = i then x else h j
def HB (h : Nat → Int) : Prop := ∀ j, -1099511627776 ≤ h j ∧ h j ≤ 1099511627776
theorem HB.upd {h : Nat → Int} (hh : HB h) (i : Nat) {x : Int} (h1 : -1099511627776 ≤ x) (h2 : x ≤ 1099511627776) : HB (upd h i x) := by
  intro j
  unfold Go.Proofs.Ytbieiefbgcgogaa.upd
  split
  · exact ⟨h1, h2⟩
  · exact hh j
theorem HB.zero : HB (fun _ => 0) := fun _ => ⟨by show (-1099511627776 : Int) ≤ 0; decide, by show (0 : Int) ≤ 1099511627776; decide⟩
theorem stC_zero (r : ByteArray) : #[Value.string r, .int .i64 0, .int .i64 0, .int .i64 0, .int .i64 0, .int .i64 0, .int .i64 0, .int .i64 0, .int .i64 0, .int .i64 0, .int .i64 0, .int .i64 0, .int .i64 0, .int .i64 0, .int .i64 0] = stC r (fun _ => 0) := rfl
theorem stC_set (r : ByteArray) (h : Nat → Int) (i : Nat) (hi : i < 14) (x : Int) : (stC r h).setIfInBounds (1 + i) (.int .i64 x) = stC r (upd h i x) := by
  match i, hi with
  | 0, _ => rfl
  | 1, _ => rfl
  | 2, _ => rfl
  | 3, _ => rfl
  | 4, _ => rfl
  | 5, _ => rfl
  | 6, _ => rfl
  | 7, _ => rfl
  | 8, _ => rfl
  | 9, _ => rfl
  | 10, _ => rfl
  | 11, _ => rfl
  | 12, _ => rfl
  | 13, _ => rfl
theorem stC_get (r : ByteArray) (h : Nat → Int) (i : Nat) (hi : i < 14) : (stC r h)[1 + i]? = some (.int .i64 (h i)) := by
  match i, hi with
  | 0, _ => rfl
  | 1, _ => rfl
  | 2, _ => rfl
  | 3, _ => rfl
  | 4, _ => rfl
  | 5, _ => rfl
  | 6, _ => rfl
  | 7, _ => rfl
  | 8, _ => rfl
  | 9, _ => rfl
  | 10, _ => rfl
  | 11, _ => rfl
  | 12, _ => rfl
  | 13, _ => rfl

theorem st_info (r : ByteArray) (h : Nat → Int) : (Try.prog.info? 30).map (·.size) = some (stC r h).size := (by kernel_rfl : (Try.prog.info? 30).map (·.size) = some 15)
theorem st_one (r : ByteArray) (h : Nat → Int) : (stC r h).all (·.oneCell') = true := by simp [stC, Value.oneCell']
def StationKeys : List ByteArray := [⟨#[115, 49]⟩, ⟨#[115, 49]⟩, ⟨#[115, 49]⟩, ⟨#[115, 49]⟩, ⟨#[]⟩, ⟨#[65]⟩]
def StationPost (s K : Nat) (w : World) (e : Ending) (w' : World) : Prop :=
  ∃ (r : ByteArray) (h : Nat → Int), e = .returned (.agg (stC r h)) ∧ r ∈ StationKeys ∧ HB h ∧ SB w' s (K + 40) ∧ G w w' (some s)
/-- What stands at the loop's head in 'Station'. -/
def StRel (w : World) (s K g : Nat) (r : ByteArray) (i : Value) (wr : World) : Prop :=
  ∃ (k : Nat) (h : Nat → Int), k ≤ 7 ∧ i = .int .i64 k ∧ HB h ∧ Bk wr g 30 (stC r h) ∧ SB wr s (K + 1 + 3 * k) ∧ G w wr (some s) ∧ Bk wr w.heap.size 30 (stC ⟨#[]⟩ (fun _ => 0)) ∧ w.heap.size < g

set_option maxRecDepth 100000 in
set_option maxHeartbeats 400000 in
theorem station_c (w : World) (s : Nat) (K : Nat) (hs : SB w s K) (hk : K ≤ 900000000000) :
    Calls Try.prog 4 #[.pointer (some ⟨s, 0, none⟩)] w (StationPost s K w) := by
  have hslt := hs.lt
  go_enter Try.func4, Try.ntmps4
  go_wp2_with fail
  refine (some_c _ _ _ [⟨#[115, 49]⟩, ⟨#[115, 49]⟩, ⟨#[115, 49]⟩, ⟨#[115, 49]⟩, ⟨#[]⟩, ⟨#[65]⟩] _ _ K ((hs.alloc _).alloc _) (by omega) (by decide) (by decide) (Rd.newAt _ (by simp) rfl (by decide)) (hs.newAt _ _ _ (by omega))).mono ?_
  rintro e w2 ⟨r, rfl, hr, hp2, hg2⟩
  have hz2 : w.heap.size + 2 ≤ w2.heap.size := by have := hg2.size; simp at this; omega
  have hB0 := ((Bk.new w 30 (stC ⟨#[]⟩ (fun _ => 0))).alloc (.cells #[Value.string ⟨#[115, 49]⟩, .string ⟨#[115, 49]⟩, .string ⟨#[115, 49]⟩, .string ⟨#[115, 49]⟩, .string ⟨#[]⟩, .string ⟨#[65]⟩] 9)).grown hg2 (by simp; omega)
  have hG2 : G w w2 (some s) := (((G.refl w (some s)).alloc _).alloc _).trans hg2
  clear hg2
  go_wp2_with fail
  go_loopw [10] (StRel w s K w2.heap.size r) (fun i _ => 7 - (intOf i).toNat)
  case atStart =>
    exact ⟨0, fun _ => 0, by omega, rfl, HB.zero, Bk.new w2 _ _, (hp2.le (by omega)).alloc _, hG2.alloc _, hB0.alloc _, by omega⟩
  case round =>
    obtain ⟨k, hh, hk7, rfl, hHB, hBk, hSB, hG, hB0', hlt⟩ := hrel
    go_wp2_with fail
    · have hk6 : k < 7 := by omega
      refine (flip_c _ _ _ _ hSB (by omega) (by omega)).mono ?_; rintro e w3 ⟨b, rfl, hSB3, hG3⟩
      have hBk3 := hBk.grown hG3 (by simp; omega)
      have hB03 := hB0'.grown hG3 (by simp; omega)
      have hG03 := hG.trans hG3
      clear hBk hB0' hG hG3 hSB
      cases b with
      | true =>
        go_wp2_with fail
        go_roundw
        case rel => exact ⟨k + 1, hh, by omega, by go_num, hHB, hBk3, hSB3.le (by omega), hG03, hB03, hlt⟩
        case measure => simp [intOf]; omega
      | false =>
        go_wp2_with fail
        refine (pick_c _ _ _ [0, 480, 720, 1439] _ _ _ (hSB3.alloc _) (by omega) (by decide) (by decide) (Rd.newAt _ (by simp) rfl (by decide)) (hSB3.newAt _ _ _ (by omega))).mono ?_
        rintro e w4 ⟨x, rfl, hx, hSB4, hG4⟩
        have hx0 : 0 ≤ x ∧ x ≤ 1439 := by simp only [List.mem_cons, List.mem_nil_iff, or_false] at hx; omega
        obtain ⟨hx0, hx1⟩ := hx0
        have hBk4 := (hBk3.alloc (.cells #[Value.int .i64 0, .int .i64 480, .int .i64 720, .int .i64 1439] 3)).grown hG4 (by simp; omega)
        have hB04 := (hB03.alloc (.cells #[Value.int .i64 0, .int .i64 480, .int .i64 720, .int .i64 1439] 3)).grown hG4 (by simp; omega)
        have hG04 := (hG03.alloc _).trans hG4
        clear hBk3 hB03 hG03 hG4 hSB3 hx
        go_wp2_with fail
        all_goals
          refine (pick_c _ _ _ [_, _, _, _] _ _ _ (hSB4.alloc _) (by omega) (by decide) (by decide) (Rd.newAt _ rfl rfl (by decide)) (hSB4.newAt _ _ _ (by omega))).mono ?_
          rintro e w5 ⟨y, rfl, hy, hSB5, hG5⟩
          have hy0 : 0 ≤ y ∧ y ≤ 3000 := by simp only [List.mem_cons, List.mem_nil_iff, or_false] at hy; omega
          obtain ⟨hy0, hy1⟩ := hy0
          have hBk5 := (hBk4.alloc (.cells _ 3)).grown hG5 (by simp; omega)
          have hB05 := (hB04.alloc (.cells _ 3)).grown hG5 (by simp; omega)
          have hG05 := (hG04.alloc _).trans hG5
          clear hBk4 hB04 hG04 hG5 hSB4 hy
          have c1 : w5.cell? ⟨w2.heap.size, 1 + k * 2, none⟩ = some (.int .i64 (hh (k * 2))) := by rw [hBk5.cell]; exact stC_get _ _ _ (by omega)
          have c2 : w5.cell? ⟨w2.heap.size, 1 + k * 2 + 1, none⟩ = some (.int .i64 (hh (k * 2 + 1))) := by rw [hBk5.cell]; exact stC_get _ hh (k * 2 + 1) (by omega)
          have f1 := hBk5.free (1 + k * 2)
          have f2 := hBk5.free (1 + k * 2 + 1)
          go_wp2_with fail
          go_roundw
          case rel =>
            refine ⟨k + 1, upd (upd hh (k * 2) x) (k * 2 + 1) y, by omega, by go_num, (hHB.upd _ (by omega) (by omega)).upd _ (by omega) (by omega), ?_, ?_, ?_, ?_, hlt⟩
            · rw [← stC_set _ _ _ (by omega), ← stC_set _ _ _ (by omega)]
              exact (hBk5.set _ _).set _ _
            · exact ((hSB5.setCell (by show s < w2.heap.size; omega) _).setCell (by show s < w2.heap.size; omega) _).le (by omega)
            · exact (hG05.setCell (.inl (by show w.heap.size ≤ w2.heap.size; omega)) _).setCell (.inl (by show w.heap.size ≤ w2.heap.size; omega)) _
            · exact (hB05.far (by show w.heap.size ≠ w2.heap.size; omega) _).far (by show w.heap.size ≠ w2.heap.size; omega) _
          case measure => simp [intOf]; omega
    · refine (flip_c _ _ _ _ hSB (by omega) (by omega)).mono ?_; rintro e w3 ⟨b, rfl, hSB3, hG3⟩
      have hBk3 := hBk.grown hG3 (by simp; omega)
      have hB03 := hB0'.grown hG3 (by simp; omega)
      have hG03 := hG.trans hG3
      clear hBk hB0' hG hG3 hSB
      cases b with
      | false =>
        go_wp2_with (first | (refine wpList_load_row rfl 30 _ rfl w2.heap.size rfl 30 (stC r hh) (0, 0) _ hBk3 Try.underlying30 rfl (st_info _ _) ?_) | (refine wpList_store_row rfl 30 _ _ rfl w.heap.size (stC r hh) rfl rfl 30 _ hB03 (st_info _ _) rfl (st_one _ _) ?_))
        refine bodyPost_ret (results_cell_row rfl _ _ w.heap.size 30 (stC r hh) (0, 0) _ rfl (hB03.setRow (stC r hh)) Try.underlying30 rfl (st_info _ _)) rfl ?_
        exact ⟨r, hh, rfl, hr, hHB, (hSB3.setRow (by omega) _).le (by omega), hG03.setRow (.inl (Nat.le_refl _)) _⟩
      | true =>
        go_wp2_with fail
        refine (next_c _ _ _ _ hSB3 (by omega) (by omega)).mono ?_; rintro e w4 ⟨i, rfl, hi, hSB4, hG4⟩
        obtain ⟨i0, i1⟩ := hi
        obtain ⟨i, rfl⟩ := Int.eq_ofNat_of_zero_le i0
        have i7 : i < 7 := by omega
        clear i1
        go_wp2_with fail
        refine (odd_c _ _ _ _ _ hSB4 (by omega) (by omega) (by omega) (by omega) (by omega)).mono ?_; rintro e w5 ⟨x, rfl, x0, x1, hSB5, hG5⟩
        go_wp2_with fail
        refine (odd_c _ _ _ _ _ hSB5 (by omega) (by omega) (by omega) (by omega) (by omega)).mono ?_; rintro e w6 ⟨y, rfl, y0, y1, hSB6, hG6⟩
        have hG36 := (hG4.trans hG5).trans hG6
        have hBk6 := hBk3.grown hG36 (by simp; omega)
        have hB06 := hB03.grown hG36 (by simp; omega)
        have hG06 := hG03.trans hG36
        clear hG4 hG5 hG6 hG36 hBk3 hB03 hG03 hSB3 hSB4 hSB5
        have c1 : w6.cell? ⟨w2.heap.size, 1 + i * 2, none⟩ = some (.int .i64 (hh (i * 2))) := by rw [hBk6.cell]; exact stC_get _ _ _ (by omega)
        have c2 : w6.cell? ⟨w2.heap.size, 1 + i * 2 + 1, none⟩ = some (.int .i64 (hh (i * 2 + 1))) := by rw [hBk6.cell]; exact stC_get _ hh (i * 2 + 1) (by omega)
        have f1 := hBk6.free (1 + i * 2)
        have f2 := hBk6.free (1 + i * 2 + 1)
        have hBk7 : Bk ((w6.setCell ⟨w2.heap.size, 1 + i * 2, none⟩ (.int .i64 x)).setCell ⟨w2.heap.size, 1 + i * 2 + 1, none⟩ (.int .i64 y)) w2.heap.size 30 (stC r (upd (upd hh (i * 2) x) (i * 2 + 1) y)) := by
          rw [← stC_set _ _ _ (by omega), ← stC_set _ _ _ (by omega)]
          exact (hBk6.set _ _).set _ _
        have hB07 : Bk ((w6.setCell ⟨w2.heap.size, 1 + i * 2, none⟩ (.int .i64 x)).setCell ⟨w2.heap.size, 1 + i * 2 + 1, none⟩ (.int .i64 y)) w.heap.size 30 (stC ⟨#[]⟩ (fun _ => 0)) := (hB06.far (by show w.heap.size ≠ w2.heap.size; omega) _).far (by show w.heap.size ≠ w2.heap.size; omega) _
        go_wp2_with (first | (refine wpList_load_row rfl 30 _ rfl w2.heap.size rfl 30 (stC r (upd (upd hh (i * 2) x) (i * 2 + 1) y)) (0, 0) _ hBk7 Try.underlying30 rfl (st_info _ _) ?_) | (refine wpList_store_row rfl 30 _ _ rfl w.heap.size (stC r (upd (upd hh (i * 2) x) (i * 2 + 1) y)) rfl rfl 30 _ hB07 (st_info _ _) rfl (st_one _ _) ?_))
        refine bodyPost_ret (results_cell_row rfl _ _ w.heap.size 30 (stC r (upd (upd hh (i * 2) x) (i * 2 + 1) y)) (0, 0) _ rfl (hB07.setRow (stC r (upd (upd hh (i * 2) x) (i * 2 + 1) y))) Try.underlying30 rfl (st_info _ _)) rfl ?_
        refine ⟨r, _, rfl, hr, (hHB.upd _ (by omega) (by omega)).upd _ (by omega) (by omega), ((((hSB6.setCell (by show s < w2.heap.size; omega) _).setCell (by show s < w2.heap.size; omega) _)).setRow (by omega) _).le (by omega), ?_⟩
        exact ((hG06.setCell (.inl (by show w.heap.size ≤ w2.heap.size; omega)) _).setCell (.inl (by show w.heap.size ≤ w2.heap.size; omega)) _).setRow (.inl (Nat.le_refl _)) _

theorem wn_info (a b : Int) : (Try.prog.info? 27).map (·.size) = some #[Value.int .i64 a, .int .i64 b].size := (by kernel_rfl : (Try.prog.info? 27).map (·.size) = some 2)
theorem wn_one (a b : Int) : #[Value.int .i64 a, .int .i64 b].all (·.oneCell') = true := by simp [Value.oneCell']
def WindowPost (s K : Nat) (w : World) (e : Ending) (w' : World) : Prop :=
  ∃ a b : Int, e = .returned (.agg #[.int .i64 a, .int .i64 b]) ∧ -1099511627776 ≤ a ∧ a ≤ 1099511627776 ∧ -1099511627776 ≤ b ∧ b ≤ 1099511627776 ∧ SB w' s (K + 8) ∧ G w w' (some s)
end Go.Proofs.Ytbieiefbgcgogaa
