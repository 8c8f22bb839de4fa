/- The stream of raw numbers: Below, Next, Range, Flip, Pick, Some, Odd. Any list, any numbers. -/
import Derived.Test.YtgddchdpeflmoaaDoorRows
import Derived.Test.YtgddchdpeflmoaaDoorBase
namespace Go.Proofs.YtgddchdpeflmoaaDoor
open Go.RowKit

/-- 'Below' returns a number from 0 to n-1; 0, if n is less than 1. -/
def InR (n r : Int) : Prop := 0 ≤ r ∧ (r < n ∨ (r = 0 ∧ n < 1))
def BelowPost (n : Int) (w : World) (e : Ending) (w' : World) : Prop := ∃ r : Int, e = .returned (.int .i64 r) ∧ InR n r ∧ w = w'

set_option maxHeartbeats 400000 in
theorem below_c (x n : Int) (w : World) (hn : n ≤ 4611686018427387904) (hx : -9223372036854775808 ≤ x ∧ x ≤ 9223372036854775807) :
    Calls Tryd.prog 28 #[.int .i64 x, .int .i64 n] w (BelowPost n w) := by
  have H : Hid (-9223372036854775808 ≤ x ∧ x ≤ 9223372036854775807) := Lib.hid hx
  clear hx
  by_cases h1 : n < 1
  · go_enter Tryd.func28, Tryd.ntmps28
    go_wp2
    go_ret
    exact ⟨0, rfl, ⟨by omega, .inr ⟨rfl, h1⟩⟩, rfl⟩
  · have hn1 : 1 ≤ n := by omega
    have ha : x.tmod n < n := Int.tmod_lt_of_pos _ (by omega)
    have hb : -n < x.tmod n := by have := Int.lt_tmod_of_pos x (show 0 < n by omega); omega
    have Ha : Hid (x.tmod n < n ∧ -n < x.tmod n) := Lib.hid ⟨ha, hb⟩
    clear ha hb
    go_enter Tryd.func28, Tryd.ntmps28
    go_wp2
    · go_ret
      obtain ⟨q1, q2⟩ := Ha.out
      have q3 : x.tmod n < 0 := by assumption
      exact ⟨_, rfl, (by rw [IntWalk.wrap64_in (x.tmod n + n) ⟨by omega, by omega⟩]; exact ⟨by omega, .inl (by omega)⟩), rfl⟩
    · go_ret
      obtain ⟨q1, q2⟩ := Ha.out
      have q3 : 0 ≤ x.tmod n := by assumption
      exact ⟨x.tmod n, rfl, ⟨by omega, .inl (by omega)⟩, rfl⟩

/-- A stream at block 's' that has handed out 'K' numbers at most. -/
def SB (w : World) (s : Nat) (K : Nat) : Prop :=
  ∃ (k : Nat) (a : Option Addr) (n c : Nat) (zs : List Int), k ≤ K ∧ Rd w 1 (.slice a n c) n (zs.map (Value.int .i64)) ∧ (∀ b, a = some b → b.block < s) ∧ (∀ z ∈ zs, -9223372036854775808 ≤ z ∧ z ≤ 9223372036854775807) ∧
    w.cell? ⟨s, 0, none⟩ = some (.slice a n c) ∧ w.cell? ⟨s, 1, none⟩ = some (.int .i64 k) ∧ w.frozen? ⟨s, 1, none⟩ = false ∧ s < w.heap.size

theorem SB.quiet {w w' : World} {s K : Nat} (h : SB w s K) (hg : G w w' none) : SB w' s K := by
  obtain ⟨k, a, len, c, zs, hk, hrd, hne, hz, c0, c1, f1, hlt⟩ := h
  have e := hg.block s hlt (by simp)
  exact ⟨k, a, len, c, zs, hk, hrd.quiet hg, hne, hz, (World.cell?_of_block (w := w) (a := ⟨s, 0, none⟩) e).trans c0, (World.cell?_of_block (w := w) (a := ⟨s, 1, none⟩) e).trans c1,
    (World.frozen?_of_block (w := w) (a := ⟨s, 1, none⟩) e).trans f1, Nat.lt_of_lt_of_le hlt hg.size⟩
theorem SB.lt {w : World} {s K : Nat} (h : SB w s K) : s < w.heap.size := by obtain ⟨_, _, _, _, _, _, _, _, _, _, _, _, h⟩ := h; exact h
theorem SB.le {w : World} {s K L : Nat} (h : SB w s K) (hl : K ≤ L) : SB w s L := by
  obtain ⟨k, a, len, c, zs, hk, h⟩ := h
  exact ⟨k, a, len, c, zs, Nat.le_trans hk hl, h⟩
theorem SB.alloc {w : World} {s K : Nat} (h : SB w s K) (o : Obj) : SB (w.alloc o) s K := h.quiet ((G.refl _ _).alloc o)
theorem SB.drewN {w : World} {s K : Nat} (h : SB w s K) (n : Nat) : SB (w.drewN n) s K := h.quiet ((G.refl _ _).drewN n)
/-- A store into a block behind the stream's. -/
theorem SB.setCell {w : World} {s K : Nat} (h : SB w s K) {p : Addr} (hp : s < p.block) (u : Value) : SB (w.setCell p u) s K := by
  obtain ⟨k, a, len, c, zs, hk, hrd, hne, hz, c0, c1, f1, hlt⟩ := h
  have hg : G w (w.setCell p u) (some p.block) := (G.refl w _).setCell (.inr rfl) _
  refine ⟨k, a, len, c, zs, hk, hrd.grown hg (fun b e hb => ?_), hne, hz, ?_, ?_, ?_, Nat.lt_of_lt_of_le hlt hg.size⟩
  · obtain rfl := Option.some.inj e
    cases a with
    | none => cases hb
    | some x => have h1 := hne x rfl; have h2 : x.block = p.block := Option.some.inj hb; omega
  · rw [World.cell?_setCell_other w _ _ _ (by intro e; rw [e] at hp; exact Nat.lt_irrefl _ hp)]; exact c0
  · rw [World.cell?_setCell_other w _ _ _ (by intro e; rw [e] at hp; exact Nat.lt_irrefl _ hp)]; exact c1
  · rw [World.frozen?_setCell]; exact f1

theorem SB.bump {w : World} {s : Nat} {k K : Nat} (hk : k ≤ K) {a : Option Addr} {n c : Nat} {zs : List Int} (hrd : Rd w 1 (.slice a n c) n (zs.map (Value.int .i64))) (hne : ∀ b, a = some b → b.block < s) (hz : ∀ z ∈ zs, -9223372036854775808 ≤ z ∧ z ≤ 9223372036854775807)
    (c0 : w.cell? ⟨s, 0, none⟩ = some (.slice a n c)) (c1 : w.cell? ⟨s, 1, none⟩ = some (.int .i64 k)) (f1 : w.frozen? ⟨s, 1, none⟩ = false) (hlt : s < w.heap.size) :
    SB (w.setCell ⟨s, 1, none⟩ (.int .i64 ((k : Int) + 1))) s (K + 1) ∧ G w (w.setCell ⟨s, 1, none⟩ (.int .i64 ((k : Int) + 1))) (some s) := by
  have hg : G w (w.setCell ⟨s, 1, none⟩ (.int .i64 ((k : Int) + 1))) (some s) := (G.refl w _).setCell (.inr rfl) _
  refine ⟨⟨k + 1, a, n, c, zs, by omega, hrd.grown hg (fun b e hb => ?_), hne, hz, ?_, ?_, ?_, Nat.lt_of_lt_of_le hlt hg.size⟩, hg⟩
  · obtain rfl := Option.some.inj e
    cases a with
    | none => cases hb
    | some x => have h1 := hne x rfl; have h2 : x.block = s := Option.some.inj hb; omega
  · rw [World.cell?_setCell_other w _ _ _ (by simp)]; exact c0
  · rw [World.cell?_setCell_same w _ _ c1]; rfl
  · rw [World.frozen?_setCell]; exact f1

def NextPost (n : Int) (s : Nat) (K : Nat) (w : World) (e : Ending) (w' : World) : Prop := ∃ r : Int, e = .returned (.int .i64 r) ∧ InR n r ∧ SB w' s (K + 1) ∧ G w w' (some s)

set_option maxHeartbeats 400000 in
theorem next_c (n : Int) (w : World) (s : Nat) (K : Nat) (hs : SB w s K) (hk : K ≤ 1152921504606846976) (hn : n ≤ 4611686018427387904) :
    Calls Tryd.prog 17 #[.pointer (some ⟨s, 0, none⟩), .int .i64 n] w (NextPost n s K w) := by
  obtain ⟨k, a, len, c, zs, hkK, hrd, hne, hz, c0, c1, f1, hlt⟩ := hs
  have B := SB.bump hkK hrd hne hz c0 c1 f1 hlt
  by_cases hl : len = 0
  · subst hl
    go_enter Tryd.func17, Tryd.ntmps17
    go_wp2_with (go_at_call 28; refine (below_c _ _ _ hn (wrap64_range _)).mono ?_; rintro e w' ⟨r, rfl, hr, rfl⟩)
    go_ret
    exact ⟨_, rfl, hr, B⟩
  · obtain ⟨a', c', e', r1, r2, r3, r4, r5⟩ := hrd
    obtain ⟨rfl, rfl⟩ : a = a' ∧ c = c' := by cases e'; exact ⟨rfl, rfl⟩
    clear e'
    cases a with
    | none => exact absurd (r4 rfl).1 hl
    | some b =>
      obtain ⟨bb, bo, bs⟩ := b
      obtain ⟨e1, e2, e3⟩ := r5 _ rfl
      dsimp only at e1 e2 e3
      subst e1
      clear r4 r5
      have hlz : zs.length = len := by simpa using r3
      have hn2 : bb ≠ s := Nat.ne_of_lt (hne _ rfl)
      have hml : k % len < len := Nat.mod_lt _ (by omega)
      have hcell : w.cell? ⟨bb, bo + k % len, none⟩ = some (.int .i64 (zs.getD (k % len) 0)) := e3 (k % len) _ (by simp [List.getD, show k % len < zs.length by omega])
      have hzk := hz (zs.getD (k % len) 0) (by simp [List.getD, show k % len < zs.length by omega])
      generalize zs.getD (k % len) 0 = z at hcell hzk
      have hb1 : IntKind.i64.wrap ((k : Int) + 1 - 1) = (k : Int) := by rw [show (k : Int) + 1 - 1 = k by omega]; exact IntWalk.i64_in _ (by omega)
      have hl0 : (((len : Nat) : Int) == 0) = false := by simp; omega
      have hl1 : (1 : Int) ≤ (len : Int) := by omega
      have hlm : len ≤ 9223372036854775807 := by simp only [maxLen] at r2; omega
      clear e3
      go_enter Tryd.func17, Tryd.ntmps17
      go_wp2_with fail
      go_quiet (fail)
      go_wp2_with fail
      go_quiet (fail)
      go_wp2_with fail
      refine (below_c _ _ _ (by omega) hzk).mono ?_; rintro e w' ⟨r, rfl, hr, rfl⟩
      go_wp2_with fail
      refine (below_c _ _ _ hn (wrap64_range _)).mono ?_; rintro e w' ⟨r, rfl, hr, rfl⟩
      go_wp2_with fail
      go_ret
      exact ⟨_, rfl, hr, B.1.drewN _, B.2.drewN _⟩

/-- 'Range' returns a number from low to high. -/
def RangePost (lo hi : Int) (s : Nat) (K : Nat) (w : World) (e : Ending) (w' : World) : Prop := ∃ r : Int, e = .returned (.int .i64 r) ∧ lo ≤ r ∧ (r ≤ hi ∨ r = lo) ∧ SB w' s (K + 1) ∧ G w w' (some s)
set_option maxHeartbeats 400000 in
theorem range_c (lo hi : Int) (w : World) (s : Nat) (K : Nat) (hs : SB w s K) (hk : K ≤ 1152921504606846976) (h1 : -1152921504606846976 ≤ lo) (h2 : lo ≤ 1152921504606846976) (h3 : hi ≤ 1152921504606846976) :
    Calls Tryd.prog 14 #[.pointer (some ⟨s, 0, none⟩), .int .i64 lo, .int .i64 hi] w (RangePost lo hi s K w) := by
  by_cases h : hi < lo
  · go_enter Tryd.func14, Tryd.ntmps14
    go_wp2_with fail
    go_ret
    exact ⟨_, rfl, by omega, .inr rfl, hs.le (by omega), G.refl _ _⟩
  · have hle : lo ≤ hi := by omega
    go_enter Tryd.func14, Tryd.ntmps14
    go_wp2_with fail
    refine (next_c _ _ _ _ hs hk (by omega)).mono ?_; rintro e w' ⟨r, rfl, hr, hp⟩
    obtain ⟨r0, r1⟩ := hr
    have r2 : r ≤ hi - lo := by omega
    clear r1
    go_wp2_with fail
    go_ret
    exact ⟨_, rfl, by omega, .inl (by omega), hp⟩

def FlipPost (s : Nat) (K : Nat) (w : World) (e : Ending) (w' : World) : Prop := ∃ b : Bool, e = .returned (.bool b) ∧ SB w' s (K + 1) ∧ G w w' (some s)
set_option maxHeartbeats 400000 in
theorem flip_c (n : Int) (w : World) (s : Nat) (K : Nat) (hs : SB w s K) (hk : K ≤ 1152921504606846976) (hn : n ≤ 4611686018427387904) :
    Calls Tryd.prog 16 #[.pointer (some ⟨s, 0, none⟩), .int .i64 n] w (FlipPost s K w) := by
  go_enter Tryd.func16, Tryd.ntmps16
  go_wp2_with fail
  refine (next_c _ _ _ _ hs hk hn).mono ?_; rintro e w' ⟨r, rfl, hr, hp⟩
  go_wp2_with fail
  go_ret
  exact ⟨_, rfl, hp⟩

/-- 'Pick' returns one of the numbers. -/
def PickPost (zs : List Int) (s : Nat) (K : Nat) (w : World) (e : Ending) (w' : World) : Prop := ∃ r : Int, e = .returned (.int .i64 r) ∧ r ∈ zs ∧ SB w' s (K + 1) ∧ G w w' (some s)
set_option maxHeartbeats 400000 in
theorem pick_c (a : Option Addr) (n c : Nat) (zs : List Int) (w : World) (s : Nat) (K : Nat) (hs : SB w s K) (hk : K ≤ 1152921504606846976) (hn : 0 < n) (hnm : n ≤ 1000000000) (hr : Rd w 1 (.slice a n c) n (zs.map (Value.int .i64))) (hv : (Value.slice a n c).ownBlock ≠ some s) :
    Calls Tryd.prog 6 #[.pointer (some ⟨s, 0, none⟩), .slice a n c] w (PickPost zs s K w) := by
  obtain ⟨_, hnc, hcm, hl, b, o, rfl, hb, hc⟩ := hr.elem hn
  simp only [List.length_map, Nat.mul_one] at hl
  have hbs : b ≠ s := fun e => hv (by rw [e]; rfl)
  have hlm : n ≤ 9223372036854775807 := by simp only [maxLen] at hcm; omega
  go_enter Tryd.func6, Tryd.ntmps6
  go_wp2_with fail
  refine (next_c _ _ _ _ hs hk (by omega)).mono ?_; rintro e w' ⟨r, rfl, hr, hp⟩
  obtain ⟨r0, r1⟩ := hr
  obtain ⟨i, rfl⟩ := Int.eq_ofNat_of_zero_le r0
  have hi : i < n := by omega
  obtain ⟨u, hu, hcu⟩ := hc i (by omega)
  have hcell := ((gcell_s hp.2).1 b (o + i) hb hbs).trans hcu
  obtain ⟨z, hz, rfl⟩ : ∃ z, zs[i]? = some z ∧ u = .int .i64 z := by
    rw [List.getElem?_map] at hu
    obtain ⟨z, h1, h2⟩ := Option.map_eq_some_iff.1 hu
    exact ⟨z, h1, h2.symm⟩
  have Hz : Hid (zs[i]? = some z) := Lib.hid hz
  clear hu hcu hz r1
  go_wp2_with fail
  go_ret
  exact ⟨_, rfl, List.mem_of_getElem? Hz.out, hp⟩

/-- 'Some' returns one of the strings. -/
def SomePost (zs : List ByteArray) (s : Nat) (K : Nat) (w : World) (e : Ending) (w' : World) : Prop := ∃ r : ByteArray, e = .returned (.string r) ∧ r ∈ zs ∧ SB w' s (K + 1) ∧ G w w' (some s)
set_option maxHeartbeats 400000 in
theorem some_c (a : Option Addr) (n c : Nat) (zs : List ByteArray) (w : World) (s : Nat) (K : Nat) (hs : SB w s K) (hk : K ≤ 1152921504606846976) (hn : 0 < n) (hnm : n ≤ 1000000000) (hr : Rd w 1 (.slice a n c) n (zs.map Value.string)) (hv : (Value.slice a n c).ownBlock ≠ some s) :
    Calls Tryd.prog 15 #[.pointer (some ⟨s, 0, none⟩), .slice a n c] w (SomePost zs s K w) := by
  obtain ⟨_, hnc, hcm, hl, b, o, rfl, hb, hc⟩ := hr.elem hn
  simp only [List.length_map, Nat.mul_one] at hl
  have hbs : b ≠ s := fun e => hv (by rw [e]; rfl)
  have hlm : n ≤ 9223372036854775807 := by simp only [maxLen] at hcm; omega
  go_enter Tryd.func15, Tryd.ntmps15
  go_wp2_with fail
  refine (next_c _ _ _ _ hs hk (by omega)).mono ?_; rintro e w' ⟨r, rfl, hr, hp⟩
  obtain ⟨r0, r1⟩ := hr
  obtain ⟨i, rfl⟩ := Int.eq_ofNat_of_zero_le r0
  have hi : i < n := by omega
  obtain ⟨u, hu, hcu⟩ := hc i (by omega)
  have hcell := ((gcell_s hp.2).1 b (o + i) hb hbs).trans hcu
  obtain ⟨z, hz, rfl⟩ : ∃ z, zs[i]? = some z ∧ u = .string z := by
    rw [List.getElem?_map] at hu
    obtain ⟨z, h1, h2⟩ := Option.map_eq_some_iff.1 hu
    exact ⟨z, h1, h2.symm⟩
  have Hz : Hid (zs[i]? = some z) := Lib.hid hz
  clear hu hcu hz r1
  go_wp2_with fail
  go_ret
  exact ⟨_, rfl, List.mem_of_getElem? Hz.out, hp⟩

/-- A new block is not the stream's. -/
theorem SB.new {w : World} {s K : Nat} (h : SB w s K) (n c : Nat) (o : Nat) : (Value.slice (some ⟨w.heap.size, o, none⟩) n c).ownBlock ≠ some s := by
  have := h.lt
  simp only [Value.ownBlock, ne_eq, Option.some.injEq]
  omega

/-- 'Odd': whatever it returns is of small size. -/
def OddPost (s : Nat) (K : Nat) (w : World) (e : Ending) (w' : World) : Prop := ∃ r : Int, e = .returned (.int .i64 r) ∧ -1099511627776 ≤ r ∧ r ≤ 1099511627776 ∧ SB w' s (K + 2) ∧ G w w' (some s)
set_option maxHeartbeats 400000 in
theorem odd_c (lo hi : Int) (w : World) (s : Nat) (K : Nat) (hs : SB w s K) (hk : K ≤ 1000000000000) (h1 : -1000000000 ≤ lo) (h2 : lo ≤ 1000000000) (h3 : hi ≤ 1000000000) (h4 : -1000000000 ≤ hi) :
    Calls Tryd.prog 18 #[.pointer (some ⟨s, 0, none⟩), .int .i64 lo, .int .i64 hi] w (OddPost s K w) := by
  go_enter Tryd.func18, Tryd.ntmps18
  go_wp2_with fail
  refine (flip_c _ _ _ _ hs (by omega) (by omega)).mono ?_; rintro e w' ⟨b, rfl, hp, hg⟩
  cases b with
  | true =>
    go_wp2_with fail
    refine (pick_c _ _ _ [lo - 1, hi + 1, lo, hi, -1099511627776, 1099511627776] _ _ _ (hp.alloc _) (by omega) (by decide) (by decide) (Rd.new _ rfl (by decide)) (hp.new _ _ _)).mono ?_
    rintro e w2 ⟨r, rfl, hr, hp2, hg2⟩
    go_wp2_with fail
    go_ret
    simp only [List.mem_cons, List.mem_nil_iff, or_false] at hr
    exact ⟨_, rfl, by omega, by omega, hp2, (hg.alloc _).trans hg2⟩
  | false =>
    go_wp2_with fail
    refine (range_c _ _ _ _ _ hp (by omega) (by omega) (by omega) (by omega)).mono ?_
    rintro e w2 ⟨r, rfl, hr1, hr2, hp2, hg2⟩
    go_wp2_with fail
    go_ret
    exact ⟨_, rfl, by omega, by omega, hp2, hg.trans hg2⟩
/-- Only a block behind the stream's may have turned. -/
theorem SB.far {w w' : World} {s K r : Nat} (h : SB w s K) (hg : G w w' (some r)) (hr : s < r) : SB w' s K := by
  obtain ⟨k, a, len, c, zs, hk, hrd, hne, hz, c0, c1, f1, hlt⟩ := h
  have e := hg.block s hlt (by simp; omega)
  refine ⟨k, a, len, c, zs, hk, hrd.grown hg (fun b e hb => ?_), hne, hz, (World.cell?_of_block (w := w) (a := ⟨s, 0, none⟩) e).trans c0, (World.cell?_of_block (w := w) (a := ⟨s, 1, none⟩) e).trans c1,
    (World.frozen?_of_block (w := w) (a := ⟨s, 1, none⟩) e).trans f1, Nat.lt_of_lt_of_le hlt hg.size⟩
  obtain rfl := Option.some.inj e
  cases a with
  | none => cases hb
  | some x => have h1 := hne x rfl; have h2 : x.block = r := Option.some.inj hb; omega
theorem SB.own {w w' : World} {s K : Nat} {o : Option Nat} (h : SB w s K) (hg : G w w' o) (ho : ∀ r, o = some r → s < r) : SB w' s K := by
  cases o with
  | none => exact h.quiet hg
  | some r => exact h.far hg (ho r rfl)
theorem SB.setRow {w : World} {s K r : Nat} (h : SB w s K) (hr : s < r) (cs : Array Value) : SB (w.setRow r cs) s K := h.far (grownBy_setRow w r cs) hr
/-- The same, the block's number written as the walk writes it. -/
theorem SB.newAt {w : World} {s K : Nat} (h : SB w s K) (n c o : Nat) {b : Nat} (hb : w.heap.size ≤ b) : (Value.slice (some ⟨b, o, none⟩) n c).ownBlock ≠ some s := by
  have := h.lt
  simp only [Value.ownBlock, ne_eq, Option.some.injEq]
  omega
end Go.Proofs.YtgddchdpeflmoaaDoor
