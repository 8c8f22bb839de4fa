/- Generators: Classes, ClassKey. -/
import Derived.Test.YtjjgohainbjecaaDoorStream
import Derived.Test.YtjjgohainbjecaaDoorPig
import Derived.Test.YtjjgohainbjecaaDoorGenT
namespace Go.Proofs.YtjjgohainbjecaaDoor
open Go.RowKit

/-- Four classes: their keys, their ups. -/
def cellsC (k u : Nat → ByteArray) : Array Value := #[.string (k 0), .string (u 0), .string (k 1), .string (u 1), .string (k 2), .string (u 2), .string (k 3), .string (u 3)]
def clsC (k u : Nat → ByteArray) : List Cla := [(k 0, u 0), (k 1, u 1), (k 2, u 2), (k 3, u 3)]
theorem clsC_cells (k u : Nat → ByteArray) : clL (clsC k u) = (cellsC k u).toList := rfl
def updS (f : Nat → ByteArray) (i : Nat) (x : ByteArray) : Nat → ByteArray := fun j => if j = i then x else f j
theorem cellsC_key (k u : Nat → ByteArray) (i : Nat) (hi : i < 4) : (cellsC k u)[i * 2]? = some (.string (k i)) := by
  match i, hi with
  | 0, _ => rfl
  | 1, _ => rfl
  | 2, _ => rfl
  | 3, _ => rfl
theorem cellsC_up (k u : Nat → ByteArray) (i : Nat) (hi : i < 4) : (cellsC k u)[i * 2 + 1]? = some (.string (u i)) := by
  match i, hi with
  | 0, _ => rfl
  | 1, _ => rfl
  | 2, _ => rfl
  | 3, _ => rfl
theorem cellsC_setUp (k u : Nat → ByteArray) (i : Nat) (hi : i < 4) (x : ByteArray) : (cellsC k u).setIfInBounds (i * 2 + 1) (.string x) = cellsC k (updS u i x) := by
  match i, hi with
  | 0, _ => rfl
  | 1, _ => rfl
  | 2, _ => rfl
  | 3, _ => rfl
theorem cellsC_setKey (k u : Nat → ByteArray) (i : Nat) (hi : i < 4) (x : ByteArray) : (cellsC k u).setIfInBounds (i * 2) (.string x) = cellsC (updS k i x) u := by
  match i, hi with
  | 0, _ => rfl
  | 1, _ => rfl
  | 2, _ => rfl
  | 3, _ => rfl
def SmF (f : Nat → ByteArray) : Prop := ∀ i, Small (f i)
theorem SmF.upd {f : Nat → ByteArray} (h : SmF f) (i : Nat) {x : ByteArray} (hx : Small x) : SmF (updS f i x) := fun j => by
  unfold updS
  split
  · exact hx
  · exact h j
theorem clsC_ok {k u : Nat → ByteArray} (hk : SmF k) (hu : SmF u) : ClsOk (clsC k u) := by
  intro p hp
  simp only [clsC, List.mem_cons, List.mem_nil_iff, or_false] at hp
  rcases hp with rfl | rfl | rfl | rfl <;> exact ⟨hk _, hu _⟩
def kB : Nat → ByteArray
  | 0 => ⟨#[98, 105, 103]⟩
  | 1 => ⟨#[109, 97, 120, 105]⟩
  | 2 => ⟨#[109, 105, 100, 105]⟩
  | _ => ⟨#[109, 105, 110, 105]⟩
theorem small_of {s : ByteArray} (h : s.size ≤ 100) : Small s := by unfold Small; omega
theorem kB_small : SmF kB := fun i => small_of (by
  match i with
  | 0 => decide
  | 1 => decide
  | 2 => decide
  | n + 3 => exact (by decide : (⟨#[109, 105, 110, 105]⟩ : ByteArray).size ≤ 100))
theorem eS_small : SmF fun _ => eS := fun _ => Small.eS
def ClassesPost (s K d : Nat) (w : World) (e : Ending) (w' : World) : Prop :=
  ∃ (g : Nat) (k u : Nat → ByteArray), e = .returned (.slice (some ⟨g, 0, none⟩) 4 4) ∧ w.heap.size ≤ g ∧ Bk w' g 48 (cellsC k u) ∧ SmF k ∧ SmF u ∧ SB w' s (K + d) ∧ G w w' (some s)
def ClassesRel (w : World) (s K : Nat) (i : Value) (wr : World) : Prop :=
  ∃ (n : Nat) (u : Nat → ByteArray), n ≤ 4 ∧ i = .int .i64 n ∧ Bk wr w.heap.size 48 (cellsC kB u) ∧ SmF u ∧ SB wr s (K + 2 * n) ∧ G w wr (some s)
set_option maxRecDepth 100000 in
set_option maxHeartbeats 4000000 in
theorem classes_c (w : World) (s : Nat) (K : Nat) (hs : SB w s K) (hk : K ≤ 900000000000) :
    Calls Tryd.prog 17 #[.pointer (some ⟨s, 0, none⟩)] w (ClassesPost s K 8 w) := by
  have hslt := hs.lt
  go_enter Tryd.func17, Tryd.ntmps17
  go_wp2_with fail
  go_loopw [12] (ClassesRel w s K) (fun i _ => 4 - (intOf i).toNat)
  case atStart =>
    exact ⟨0, fun _ => eS, by omega, rfl, Bk.new w _ _, eS_small, hs.alloc _, (G.refl _ _).alloc _⟩
  case round =>
    obtain ⟨n, u, hn, rfl, hB, hu, hSB, hG⟩ := hrel
    have hwl := hB.lt
    by_cases hn4 : n < 4
    · by_cases hn0 : n = 0
      · subst hn0
        go_wp2_with fail
        go_roundw
        case rel => exact ⟨1, u, by omega, rfl, hB, hu, hSB.le (by omega), hG⟩
        case measure => simp [intOf]
      · have hn0' : 0 < n := by omega
        go_wp2_with fail
        refine (flip_c _ _ _ _ hSB (by omega) (by omega)).mono ?_; rintro e w3 ⟨b, rfl, hSB3, hG3⟩
        have hB3 := hB.grown hG3 (by simp; omega)
        have hG03 := hG.trans hG3
        clear hB hG hG3 hSB
        cases b with
        | true =>
          go_wp2_with fail
          go_roundw
          case rel => exact ⟨n + 1, u, by omega, by go_num, hB3, hu, hSB3.le (by omega), hG03⟩
          case measure => simp [intOf]; omega
        | false =>
          go_wp2_with fail
          refine (next_c _ _ _ _ hSB3 (by omega) (by omega)).mono ?_; rintro e w4 ⟨j, rfl, hj, hSB4, hG4⟩
          obtain ⟨j0, j1⟩ := hj
          obtain ⟨j, rfl⟩ := Int.eq_ofNat_of_zero_le j0
          have j4 : j < n := by omega
          clear j1
          have hB4 := hB3.grown hG4 (by simp; omega)
          have hG04 := hG03.trans hG4
          clear hB3 hG03 hG4 hSB3
          have c1 : w4.cell? ⟨w.heap.size, j * 2, none⟩ = some (.string (kB j)) := by rw [hB4.cell]; exact cellsC_key _ _ _ (by omega)
          have c2 : w4.cell? ⟨w.heap.size, n * 2 + 1, none⟩ = some (.string (u n)) := by rw [hB4.cell]; exact cellsC_up _ _ _ (by omega)
          have f2 := hB4.free (n * 2 + 1)
          go_wp2_with fail
          go_roundw
          case rel =>
            refine ⟨n + 1, updS u n (kB j), by omega, by go_num, ?_, hu.upd _ (kB_small j), (hSB4.setCell (by show s < w.heap.size; omega) _).le (by omega), hG04.setCell (.inl (Nat.le_refl _)) _⟩
            rw [← cellsC_setUp _ _ _ (by omega)]
            exact hB4.set _ _
          case measure => simp [intOf]; omega
    · obtain rfl : n = 4 := by omega
      go_wp2_with fail
      go_ret
      exact ⟨w.heap.size, kB, u, rfl, Nat.le_refl _, hB, kB_small, hu, hSB.le (by omega), hG⟩
def ClassKeyPost (s K : Nat) (w : World) (e : Ending) (w' : World) : Prop := ∃ r : ByteArray, e = .returned (.string r) ∧ Small r ∧ SB w' s (K + 1) ∧ G w w' (some s)
set_option maxRecDepth 100000 in
set_option maxHeartbeats 1000000 in
theorem classKey_c (w : World) (s : Nat) (K : Nat) (hs : SB w s K) (hk : K ≤ 900000000000) :
    Calls Tryd.prog 5 #[.pointer (some ⟨s, 0, none⟩)] w (ClassKeyPost s K w) := by
  have hslt := hs.lt
  go_enter Tryd.func5, Tryd.ntmps5
  go_wp2_with fail
  refine (some_c _ _ _ [⟨#[109, 105, 110, 105]⟩, ⟨#[109, 105, 110, 105]⟩, ⟨#[109, 105, 100, 105]⟩, ⟨#[109, 97, 120, 105]⟩, ⟨#[98, 105, 103]⟩, ⟨#[109, 105, 110, 105]⟩, ⟨#[110, 111, 110, 101]⟩, ⟨#[]⟩, ⟨#[65]⟩] _ _ K (hs.alloc _) (by omega) (by decide) (by decide) (Rd.newAt _ rfl rfl (by decide)) (hs.newAt _ _ _ (by omega))).mono ?_
  rintro e w2 ⟨r, rfl, hr, hp2, hg2⟩
  have hsm : Small r := small_of (by
    simp only [List.mem_cons, List.mem_nil_iff, or_false] at hr
    rcases hr with rfl | rfl | rfl | rfl | rfl | rfl | rfl | rfl | rfl <;> decide)
  go_wp2_with fail
  go_ret
  exact ⟨r, rfl, hsm, hp2, ((G.refl w (some s)).alloc _).trans hg2⟩
end Go.Proofs.YtjjgohainbjecaaDoor
