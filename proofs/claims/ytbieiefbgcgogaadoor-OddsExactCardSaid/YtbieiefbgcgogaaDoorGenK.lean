/- Generator: Bookings. -/
import Derived.Test.YtbieiefbgcgogaaDoorBkf
import Derived.Test.YtbieiefbgcgogaaDoorOws
import Derived.Test.YtbieiefbgcgogaaDoorStream
import Derived.Test.YtbieiefbgcgogaaDoorGenT
import Derived.Test.YtbieiefbgcgogaaDoorPck
namespace Go.Proofs.YtbieiefbgcgogaaDoor
open Go.RowKit

theorem bo_oneL (r : Bo) : ∀ u ∈ (boC r).toList, u.oneCell' = true := by
  intro u hu
  simp [boC] at hu
  rcases hu with rfl | rfl | rfl | rfl | rfl | rfl <;> rfl
theorem bo_rowOk : RowOk Tryd.prog 33 26 6 64 (.agg (boC (⟨#[]⟩, ⟨#[]⟩, 0, 0, 0, 0))) boC := ⟨by kernel_rfl, Tryd.underlying26, bo_oneL, boC_sz, rfl, by omega, by omega⟩
abbrev OwnBo (w : World) (base : Nat) (v : Value) (l : List Bo) : Prop := OwnX 33 6 boC w base v l
theorem BoOk.snoc {l : List Bo} {r : Bo} (h : BoOk l) (hr : boB r) : BoOk (l ++ [r]) := fun p hp => by
  rcases List.mem_append.1 hp with hp | hp
  · exact h p hp
  · obtain rfl := List.mem_singleton.1 hp
    exact hr
theorem BoOk.set {l : List Bo} (h : BoOk l) {r : Bo} (hr : boB r) (k : Nat) : BoOk (l.set k r) := fun p hp => by
  rcases List.mem_or_eq_of_mem_set hp with hp | rfl
  · exact h p hp
  · exact hr
theorem min2k (x y : Int) (w : World) : (Builtin.min_ #[3, 3] 3 #[.int .i64 x, .int .i64 y]).run Tryd.prog w = .ok (.int .i64 (min x y)) w := by
  have e : (if y < x then y else x) = min x y := by
    rw [Int.min_def]
    split <;> split <;> omega
  simp [Builtin.min_, Builtin.min2, e]
def boKeys : Array Value := #[.string ⟨#[98, 97]⟩, .string ⟨#[98, 98]⟩, .string ⟨#[98, 99]⟩, .string ⟨#[98, 100]⟩, .string ⟨#[98, 101]⟩, .string ⟨#[98, 102]⟩, .string ⟨#[98, 103]⟩, .string ⟨#[98, 104]⟩, .string ⟨#[98, 105]⟩]
theorem boKeys_at (k : Nat) (hk : k < 9) : ∃ a : ByteArray, Small a ∧ boKeys[k]? = some (.string a) := by
  match k, hk with
  | 0, _ => exact ⟨_, small_of (s := ⟨#[98, 97]⟩) (by decide), rfl⟩
  | 1, _ => exact ⟨_, small_of (s := ⟨#[98, 98]⟩) (by decide), rfl⟩
  | 2, _ => exact ⟨_, small_of (s := ⟨#[98, 99]⟩) (by decide), rfl⟩
  | 3, _ => exact ⟨_, small_of (s := ⟨#[98, 100]⟩) (by decide), rfl⟩
  | 4, _ => exact ⟨_, small_of (s := ⟨#[98, 101]⟩) (by decide), rfl⟩
  | 5, _ => exact ⟨_, small_of (s := ⟨#[98, 102]⟩) (by decide), rfl⟩
  | 6, _ => exact ⟨_, small_of (s := ⟨#[98, 103]⟩) (by decide), rfl⟩
  | 7, _ => exact ⟨_, small_of (s := ⟨#[98, 104]⟩) (by decide), rfl⟩
  | 8, _ => exact ⟨_, small_of (s := ⟨#[98, 105]⟩) (by decide), rfl⟩
def BookingsPost (s K m : Nat) (w : World) (e : Ending) (w' : World) : Prop :=
  ∃ (v : Value) (l : List Bo), e = .returned v ∧ OwnBo w' (w.heap.size + 1) v l ∧ BoOk l ∧ l.length ≤ m ∧ SB w' s (K + 60) ∧ G w w' (some s)
theorem bookings_fin {w w' : World} {s K m : Nat} {v : Value} {l : List Bo} (hown : OwnBo w' (w.heap.size + 1) v l) (hl : BoOk l) (hn : l.length ≤ m) (hSB : SB w' s (K + 60)) (hG : G w w' (some s)) : BookingsPost s K m w (.returned v) w' :=
  ⟨v, l, rfl, hown, hl, hn, hSB, hG⟩
def BgRel (w : World) (s K m : Nat) (s5 s15 : Value) (wr : World) : Prop :=
  ∃ (k : Nat) (l : List Bo), k ≤ m ∧ l.length ≤ k ∧ s15 = .int .i64 k ∧ OwnBo wr (w.heap.size + 1) s5 l ∧ BoOk l ∧ SB wr s (K + 5 * k) ∧ G w wr (some s) ∧ Bk wr w.heap.size 9 boKeys
set_option maxRecDepth 100000 in
set_option maxHeartbeats 8000000 in
theorem bookings_c (w : World) (s : Nat) (K n : Nat) (hs : SB w s K) (hk : K ≤ 900000000000) (hn : n ≤ 1000) :
    Calls Tryd.prog 8 #[.pointer (some ⟨s, 0, none⟩), .int .i64 n] w (BookingsPost s K (min n 9) w) := by
  have hsw := hs.lt
  have hsb : s < w.heap.size + 1 := Nat.lt_succ_of_lt hsw
  obtain ⟨m, hm⟩ : ∃ m, min n 9 = m := ⟨_, rfl⟩
  have hm9 : m ≤ 9 := by omega
  have hmi : (m : Int) ≤ 9 := by omega
  have hmin : ∀ w : World, (Builtin.min_ #[3, 3] 3 #[.int .i64 n, .int .i64 9]).run Tryd.prog w = .ok (.int .i64 m) w := fun w => by rw [min2k, ← hm]; congr 2; omega
  rw [hm]
  clear hm
  go_enter Tryd.func8, Tryd.ntmps8
  go_wp2_with fail
  go_loopw [5, 15] (BgRel w s K m) (fun _ i _ => m - (intOf i).toNat)
  case atStart => exact ⟨0, [], by omega, by simp, rfl, World.ownsRow_nil _ _ _ _, fun p hp => (by cases hp), hs.alloc _, (G.refl _ _).alloc _, Bk.new w _ _⟩
  case round =>
    obtain ⟨k, l, hkm, hlk, rfl, hown, hl, hSB, hG, hB⟩ := hrel
    have HL := Lib.hid hl
    clear hl hs hmin
    by_cases hk2 : k < m
    · obtain ⟨key, hkey, hpa⟩ := boKeys_at k (by omega)
      have hrow : wr.cell? ⟨w.heap.size, k, none⟩ = some (.string key) := by rw [hB.cell]; exact hpa
      have hBl := hB.lt
      have hki : (k : Int) < (m : Int) := by omega
      clear hpa
      go_wp2_with fail
      refine (pick_c _ _ _ [0, 10, 10, 20, 25, 30, 100] _ _ _ (hSB.alloc _) (by omega) (by decide) (by decide) (Rd.newAt _ rfl rfl (by decide)) (hSB.newAt _ _ _ (Nat.le_refl _))).mono ?_; rintro e w3 ⟨f, rfl, hp, hSB3, hg⟩
      have hf0 : 0 ≤ f ∧ f ≤ 100 := by simp only [List.mem_cons, List.mem_nil_iff, or_false] at hp; omega
      obtain ⟨f0, f1⟩ := hf0
      have hown3 := OwnX.kept (OwnX.alloc hown (.cells _ 3)) hg hsb
      have hB3 := (hB.alloc (.cells _ 3)).grown hg (fun e => by have := Option.some.inj e; omega)
      have hG3 := (hG.alloc (.cells _ 3)).trans hg
      clear hown hB hG hSB hg hp
      clear hrow
      go_wp2_with fail
      refine (some_c _ _ _ [⟨#[109, 105, 110, 105]⟩, ⟨#[109, 105, 110, 105]⟩, ⟨#[109, 105, 100, 105]⟩, ⟨#[109, 97, 120, 105]⟩, ⟨#[98, 105, 103]⟩] _ _ _ (hSB3.alloc _) (by omega) (by decide) (by decide) (Rd.newAt _ rfl rfl (by decide)) (hSB3.newAt _ _ _ (Nat.le_refl _))).mono ?_; rintro e w4 ⟨cl, rfl, hp, hSB4, hg⟩
      have hcl := small_pick hp (by decide)
      have hown4 := OwnX.kept (OwnX.alloc hown3 (.cells _ 9)) hg hsb
      have hB4 := (hB3.alloc (.cells _ 9)).grown hg (fun e => by have := Option.some.inj e; omega)
      have hG4 := (hG3.alloc (.cells _ 9)).trans hg
      clear hown3 hB3 hG3 hSB3 hg hp
      go_wp2_with fail
      refine (pick_c _ _ _ [1, 5, 10, 10, 20, 100] _ _ _ (hSB4.alloc _) (by omega) (by decide) (by decide) (Rd.newAt _ rfl rfl (by decide)) (hSB4.newAt _ _ _ (Nat.le_refl _))).mono ?_; rintro e w5 ⟨t, rfl, hp, hSB5, hg⟩
      have ht0 : 0 ≤ t ∧ t ≤ 100 := by simp only [List.mem_cons, List.mem_nil_iff, or_false] at hp; omega
      obtain ⟨t0, t1⟩ := ht0
      have hown5 := OwnX.kept (OwnX.alloc hown4 (.cells _ 3)) hg hsb
      have hB5 := (hB4.alloc (.cells _ 3)).grown hg (fun e => by have := Option.some.inj e; omega)
      have hG5 := (hG4.alloc (.cells _ 3)).trans hg
      clear hown4 hB4 hG4 hSB4 hg hp
      obtain ⟨q, hq⟩ : ∃ q, min f 9 = q := ⟨_, rfl⟩
      have hmin2 : ∀ w : World, (Builtin.min_ #[3, 3] 3 #[.int .i64 f, .int .i64 9]).run Tryd.prog w = .ok (.int .i64 q) w := fun w => by rw [min2k, hq]
      have hq0 : 0 ≤ q ∧ q ≤ 9 := by omega
      obtain ⟨q0, q1⟩ := hq0
      clear hq
      go_wp2_with fail
      refine (range_c 0 q _ _ _ hSB5 (by omega) (by omega) (by omega) (by omega)).mono ?_; rintro e w6 ⟨d, rfl, d0, d1, hSB6, hg⟩
      have bd : Hid (bnd d) := Lib.hid (by unfold bnd; omega)
      have hown6 := OwnX.kept hown5 hg hsb
      have hB6 := hB5.grown hg (fun e => by have := Option.some.inj e; omega)
      have hG6 := hG5.trans hg
      clear hown5 hB5 hG5 hSB5 hg d0 d1 hmin2
      go_wp2_with fail
      refine (pick_c _ _ _ [0, 10, 50, 75, 90, 100] _ _ _ (hSB6.alloc _) (by omega) (by decide) (by decide) (Rd.newAt _ rfl rfl (by decide)) (hSB6.newAt _ _ _ (Nat.le_refl _))).mono ?_; rintro e w7 ⟨y, rfl, hp, hSB7, hg⟩
      have bm := Lib.hid (bnd_pick hp (by decide))
      have hown7 := OwnX.kept (OwnX.alloc hown6 (.cells _ 3)) hg hsb
      have hB7 := (hB6.alloc (.cells _ 3)).grown hg (fun e => by have := Option.some.inj e; omega)
      have hG7 := (hG6.alloc (.cells _ 3)).trans hg
      clear hown6 hB6 hG6 hSB6 hg hp
      have hsz := hG7.size
      have HRB : Hid (boB (key, cl, f, f + t, d, y)) := Lib.hid ⟨hkey, hcl, (by show bnd f; unfold bnd; omega), (by show bnd (f + t); unfold bnd; omega), bd.out, bm.out⟩
      have hownA := OwnX.alloc hown7 (.cells #[.string key, .string cl, .int .i64 f, .int .i64 (f + t), .int .i64 d, .int .i64 y] 33)
      go_wp2_with (at_builtin; refine wpList_plain rfl fun K' hK' => wp_append_x bo_rowOk _ _ rfl (w.heap.size + 1) u5 l rfl hownA w7.heap.size (key, cl, f, f + t, d, y) rfl (Bk.new w7 _ _) (by omega) (by have := hB7.lt; simp; omega) ?_; intro v8 w8 hown8 hgrow; refine hK' _ _ ?_)
      have hob := OwnX.low hown7
      go_roundw
      case rel => exact ⟨k + 1, l ++ [(key, cl, f, f + t, d, y)], by omega, by simp; omega, by go_num, hown8, HL.out.snoc HRB.out, ((hSB7.alloc _).own hgrow (fun r e => Nat.lt_of_lt_of_le hsb (hob r e))).le (by omega), (hG7.alloc _).other hgrow (fun r e => .inl (Nat.le_of_succ_le (hob r e))), (hB7.alloc _).grown hgrow (OwnX.ne hown7 (.inl (Nat.lt_succ_self _)))⟩
      case measure => simp [intOf]; omega
    · obtain rfl : k = m := by omega
      have hf := hown.2
      have hnk : ¬ ((k : Int) < (k : Int)) := by omega
      rcases hf with ⟨rfl, hn0⟩ | ⟨g, cap, cur, rfl, hbg, _, hnc, hmc, _, _⟩
      · clear hn0
        go_wp2_with fail
        go_ret
        exact bookings_fin hown HL.out hlk (hSB.le (by omega)) hG
      · by_cases h0 : l.length = 0
        · have h0i : ¬ ((0 : Int) < (l.length : Int)) := by omega
          clear h0
          go_wp2_with fail
          go_ret
          exact bookings_fin hown HL.out hlk (hSB.le (by omega)) hG
        · have h0i : ((0 : Int) < (l.length : Int)) := by omega
          have hsg : s < g := by omega
          have hgw : w.heap.size ≤ g := by omega
          clear h0
          go_wp2_with fail
          refine (flip_c _ _ _ _ hSB (by omega) (by omega)).mono ?_; rintro e w2 ⟨b, rfl, hSB2, hG2⟩
          have hown2 := OwnX.kept hown hG2 hsb
          have hG02 := hG.trans hG2
          clear hown hG hG2 hSB hB
          cases b with
          | false =>
            go_wp2_with fail
            go_ret
            exact bookings_fin hown2 HL.out hlk (hSB2.le (by omega)) hG02
          | true =>
            go_wp2_with fail
            refine (next_c _ _ _ _ hSB2 (by omega) (by omega)).mono ?_; rintro e w3 ⟨j, rfl, hj, hSB3, hG3⟩
            obtain ⟨j0, j1⟩ := hj
            obtain ⟨j, rfl⟩ := Int.eq_ofNat_of_zero_le j0
            have jl : j < l.length := by omega
            have jli : (j : Int) < (l.length : Int) := by omega
            clear j1
            have hown3 := OwnX.kept hown2 hG3 hsb
            have hG03 := hG02.trans hG3
            clear hown2 hG02 hG3 hSB2
            obtain ⟨p, hp⟩ : ∃ p, l[j]? = some p := ⟨_, List.getElem?_eq_getElem jl⟩
            have HP := Lib.hid hp
            have hpb := Lib.hid (HL.out p (List.mem_of_getElem? hp))
            clear hp
            go_wp2_with fail
            refine (next_c _ _ _ _ hSB3 (by omega) (by omega)).mono ?_; rintro e w4 ⟨t, rfl, ht, hSB4, hG4⟩
            have hown4 := OwnX.kept hown3 hG4 hsb
            have hG04 := hG03.trans hG4
            clear hown3 hG03 hG4 hSB3
            obtain ⟨t0, t1⟩ := ht
            rcases (show t = 0 ∨ t = 1 ∨ t = 2 ∨ t = 3 ∨ t = 4 by omega) with rfl | rfl | rfl | rfl | rfl
            · clear t0 t1
              go_wp2_with fail
              refine (some_c _ _ _ [⟨#[]⟩, ⟨#[65]⟩, ⟨#[98, 97]⟩, ⟨#[122, 122]⟩] _ _ _ (hSB4.alloc _) (by omega) (by decide) (by decide) (Rd.newAt _ rfl rfl (by decide)) (hSB4.newAt _ _ _ (Nat.le_refl _))).mono ?_; rintro e w5 ⟨r, rfl, hr, hSB5, hG5⟩
              have hrs := small_pick hr (by decide)
              have hown5 := OwnX.kept (OwnX.alloc hown4 _) hG5 hsb
              have hG05 := (hG04.alloc _).trans hG5
              clear hr hown4 hSB4 hG04 hG5
              have c0 := RdR.cell boC_sz (Rd.of_owns hown5) (G.refl _ _) HP.out 0 (.string p.1) rfl
              have f0 := ownsRow_free hown5 (j * 6 + 0)
              have hown6 := OwnX.set boC_sz hown5 HP.out (q := (r, p.2)) 0 (.string r) (by omega) rfl
              simp only [Nat.zero_add, Nat.add_zero] at c0 f0 hown6
              go_wp2_with fail
              go_ret
              exact bookings_fin (l := l.set j (r, p.2)) (by unfold OwnBo OwnX; rw [List.length_set]; exact hown6) (HL.out.set (r := (r, p.2)) ⟨hrs, hpb.out.2⟩ j) (by rw [List.length_set]; exact hlk) ((hSB5.setCell (p := ⟨g, j * 6, none⟩) hsg _).le (by omega)) (hG05.setCell (p := ⟨g, j * 6, none⟩) (.inl hgw) _)
            · clear t0 t1
              go_wp2_with fail
              refine (some_c _ _ _ [⟨#[110, 111, 110, 101]⟩, ⟨#[]⟩, ⟨#[65]⟩] _ _ _ (hSB4.alloc _) (by omega) (by decide) (by decide) (Rd.newAt _ rfl rfl (by decide)) (hSB4.newAt _ _ _ (Nat.le_refl _))).mono ?_; rintro e w5 ⟨r, rfl, hr, hSB5, hG5⟩
              have hrs := small_pick hr (by decide)
              have hown5 := OwnX.kept (OwnX.alloc hown4 _) hG5 hsb
              have hG05 := (hG04.alloc _).trans hG5
              clear hr hown4 hSB4 hG04 hG5
              have c0 := RdR.cell boC_sz (Rd.of_owns hown5) (G.refl _ _) HP.out 1 (.string p.2.1) rfl
              have f0 := ownsRow_free hown5 (j * 6 + 1)
              have hown6 := OwnX.set boC_sz hown5 HP.out (q := (p.1, r, p.2.2)) 1 (.string r) (by omega) rfl
              simp only [Nat.zero_add, Nat.add_zero] at c0 f0 hown6
              go_wp2_with fail
              go_ret
              exact bookings_fin (l := l.set j (p.1, r, p.2.2)) (by unfold OwnBo OwnX; rw [List.length_set]; exact hown6) (HL.out.set (r := (p.1, r, p.2.2)) ⟨hpb.out.1, hrs, hpb.out.2.2⟩ j) (by rw [List.length_set]; exact hlk) ((hSB5.setCell (p := ⟨g, j * 6 + 1, none⟩) hsg _).le (by omega)) (hG05.setCell (p := ⟨g, j * 6 + 1, none⟩) (.inl hgw) _)
            · clear t0 t1
              go_wp2_with fail
              refine (odd_c _ _ _ _ _ hSB4 (by omega) (by omega) (by omega) (by omega) (by omega)).mono ?_; rintro e w5 ⟨y1, rfl, y10, y11, hSB5, hG5⟩
              have hown5 := OwnX.kept hown4 hG5 hsb
              have hG05 := hG04.trans hG5
              clear hown4 hSB4 hG04 hG5
              go_wp2_with fail
              refine (odd_c _ _ _ _ _ hSB5 (by omega) (by omega) (by omega) (by omega) (by omega)).mono ?_; rintro e w6 ⟨y2, rfl, y20, y21, hSB6, hG6⟩
              have hown6 := OwnX.kept hown5 hG6 hsb
              have hG06 := hG05.trans hG6
              clear hown5 hSB5 hG05 hG6
              have c2 := RdR.cell boC_sz (Rd.of_owns hown6) (G.refl _ _) HP.out 2 (.int .i64 p.2.2.1) rfl
              have c3 := RdR.cell boC_sz (Rd.of_owns hown6) (G.refl _ _) HP.out 3 (.int .i64 p.2.2.2.1) rfl
              have f2 := ownsRow_free hown6 (j * 6 + 2)
              have f3 := ownsRow_free hown6 (j * 6 + 3)
              have hown7 := OwnX.set boC_sz hown6 HP.out (q := (p.1, p.2.1, y1, p.2.2.2)) 2 (.int .i64 y1) (by omega) rfl
              have hown8 := OwnX.set boC_sz hown7 (show (l.set j (p.1, p.2.1, y1, p.2.2.2))[j]? = some (p.1, p.2.1, y1, p.2.2.2) by rw [List.getElem?_set_self jl]) (q := (p.1, p.2.1, y1, y2, p.2.2.2.2)) 3 (.int .i64 y2) (by omega) rfl
              rw [List.set_set] at hown8
              simp only [Nat.zero_add] at c2 c3
              clear hown7
              go_wp2_with fail
              go_ret
              exact bookings_fin (l := l.set j (p.1, p.2.1, y1, y2, p.2.2.2.2)) (by unfold OwnBo OwnX; rw [List.length_set]; exact hown8) (HL.out.set (r := (p.1, p.2.1, y1, y2, p.2.2.2.2)) ⟨hpb.out.1, hpb.out.2.1, ⟨y10, y11⟩, ⟨y20, y21⟩, hpb.out.2.2.2.2⟩ j) (by rw [List.length_set]; exact hlk) (((hSB6.setCell (p := ⟨g, j * 6 + 2, none⟩) hsg _).setCell (p := ⟨g, j * 6 + 3, none⟩) hsg _).le (by omega)) ((hG06.setCell (p := ⟨g, j * 6 + 2, none⟩) (.inl hgw) _).setCell (p := ⟨g, j * 6 + 3, none⟩) (.inl hgw) _)
            · clear t0 t1
              go_wp2_with fail
              refine (odd_c _ _ _ _ _ hSB4 (by omega) (by omega) (by omega) (by omega) (by omega)).mono ?_; rintro e w5 ⟨y1, rfl, y10, y11, hSB5, hG5⟩
              have hown5 := OwnX.kept hown4 hG5 hsb
              have hG05 := hG04.trans hG5
              clear hown4 hSB4 hG04 hG5
              have c0 := RdR.cell boC_sz (Rd.of_owns hown5) (G.refl _ _) HP.out 4 (.int .i64 p.2.2.2.2.1) rfl
              have f0 := ownsRow_free hown5 (j * 6 + 4)
              have hown6 := OwnX.set boC_sz hown5 HP.out (q := (p.1, p.2.1, p.2.2.1, p.2.2.2.1, y1, p.2.2.2.2.2)) 4 (.int .i64 y1) (by omega) rfl
              simp only [Nat.zero_add] at c0
              go_wp2_with fail
              go_ret
              exact bookings_fin (l := l.set j (p.1, p.2.1, p.2.2.1, p.2.2.2.1, y1, p.2.2.2.2.2)) (by unfold OwnBo OwnX; rw [List.length_set]; exact hown6) (HL.out.set (r := (p.1, p.2.1, p.2.2.1, p.2.2.2.1, y1, p.2.2.2.2.2)) ⟨hpb.out.1, hpb.out.2.1, hpb.out.2.2.1, hpb.out.2.2.2.1, ⟨y10, y11⟩, hpb.out.2.2.2.2.2⟩ j) (by rw [List.length_set]; exact hlk) ((hSB5.setCell (p := ⟨g, j * 6 + 4, none⟩) hsg _).le (by omega)) (hG05.setCell (p := ⟨g, j * 6 + 4, none⟩) (.inl hgw) _)
            · clear t0 t1
              go_wp2_with fail
              refine (odd_c _ _ _ _ _ hSB4 (by omega) (by omega) (by omega) (by omega) (by omega)).mono ?_; rintro e w5 ⟨y1, rfl, y10, y11, hSB5, hG5⟩
              have hown5 := OwnX.kept hown4 hG5 hsb
              have hG05 := hG04.trans hG5
              clear hown4 hSB4 hG04 hG5
              have c0 := RdR.cell boC_sz (Rd.of_owns hown5) (G.refl _ _) HP.out 5 (.int .i64 p.2.2.2.2.2) rfl
              have f0 := ownsRow_free hown5 (j * 6 + 5)
              have hown6 := OwnX.set boC_sz hown5 HP.out (q := (p.1, p.2.1, p.2.2.1, p.2.2.2.1, p.2.2.2.2.1, y1)) 5 (.int .i64 y1) (by omega) rfl
              simp only [Nat.zero_add] at c0
              go_wp2_with fail
              go_ret
              exact bookings_fin (l := l.set j (p.1, p.2.1, p.2.2.1, p.2.2.2.1, p.2.2.2.2.1, y1)) (by unfold OwnBo OwnX; rw [List.length_set]; exact hown6) (HL.out.set (r := (p.1, p.2.1, p.2.2.1, p.2.2.2.1, p.2.2.2.2.1, y1)) ⟨hpb.out.1, hpb.out.2.1, hpb.out.2.2.1, hpb.out.2.2.2.1, hpb.out.2.2.2.2.1, ⟨y10, y11⟩⟩ j) (by rw [List.length_set]; exact hlk) ((hSB5.setCell (p := ⟨g, j * 6 + 5, none⟩) hsg _).le (by omega)) (hG05.setCell (p := ⟨g, j * 6 + 5, none⟩) (.inl hgw) _)
end Go.Proofs.YtbieiefbgcgogaaDoor
