/- Generator: the lines of a bill. Written by genlin.py. -/
import Derived.Test.YtgddchdpeflmoaaDoorLin
import Derived.Test.YtgddchdpeflmoaaDoorOws
import Derived.Test.YtgddchdpeflmoaaDoorStream
import Derived.Test.YtgddchdpeflmoaaDoorGenT
import Derived.Test.YtgddchdpeflmoaaDoorPck
namespace Go.Proofs.YtgddchdpeflmoaaDoor
open Go.RowKit

theorem li_oneL (r : Li) : ∀ u ∈ (liC r).toList, u.oneCell' = true := by
  intro u hu
  simp [liC] at hu
  rcases hu with rfl | rfl | rfl <;> rfl
theorem li_rowOk : RowOk Tryd.prog 44 29 3 32 (.agg (liC (0, ⟨#[]⟩, 0))) liC := ⟨by kernel_rfl, Tryd.underlying29, li_oneL, liC_sz, rfl, by omega, by omega⟩
abbrev OwnLi (w : World) (base : Nat) (v : Value) (l : List Li) : Prop := OwnX 44 3 liC w base v l
theorem LiOk.snoc {l : List Li} {r : Li} (h : LiOk l) (hr : Small r.2.1) : LiOk (l ++ [r]) := fun p hp => by
  rcases List.mem_append.1 hp with hp | hp
  · exact h p hp
  · obtain rfl := List.mem_singleton.1 hp
    exact hr
theorem LiOk.set {l : List Li} (h : LiOk l) {r : Li} (hr : Small r.2.1) (k : Nat) : LiOk (l.set k r) := fun p hp => by
  rcases List.mem_or_eq_of_mem_set hp with hp | rfl
  · exact h p hp
  · exact hr
def BillPost (s K : Nat) (w : World) (e : Ending) (w' : World) : Prop :=
  ∃ (v : Value) (l : List Li), e = .returned v ∧ OwnLi w' w.heap.size v l ∧ LiOk l ∧ l.length ≤ 6 ∧ SB w' s (K + 30) ∧ G w w' (some s)
theorem bill_fin {w w' : World} {s K : Nat} {v : Value} {l : List Li} (hown : OwnLi w' w.heap.size v l) (hl : LiOk l) (hn : l.length ≤ 6) (hSB : SB w' s (K + 30)) (hG : G w w' (some s)) : BillPost s K w (.returned v) w' :=
  ⟨v, l, rfl, hown, hl, hn, hSB, hG⟩
def BlRel (w : World) (s K m : Nat) (s3 s7 : Value) (wr : World) : Prop :=
  ∃ (k : Nat) (l : List Li), k ≤ m ∧ l.length ≤ k ∧ s7 = .int .i64 k ∧ OwnLi wr w.heap.size s3 l ∧ LiOk l ∧ SB wr s (K + 1 + 3 * k) ∧ G w wr (some s)
set_option maxRecDepth 100000 in
set_option maxHeartbeats 8000000 in
theorem billLines_c (w : World) (s : Nat) (K : Nat) (hs : SB w s K) (hk : K ≤ 900000000000) :
    Calls Tryd.prog 5 #[.pointer (some ⟨s, 0, none⟩)] w (BillPost s K w) := by
  have hsb := hs.lt
  go_enter Tryd.func5, Tryd.ntmps5
  go_wp2_with fail
  refine (range_c 0 6 _ _ _ hs (by omega) (by omega) (by omega) (by omega)).mono ?_; rintro e w1 ⟨m, rfl, m0, m1, hSB1, hG1⟩
  obtain ⟨m, rfl⟩ := Int.eq_ofNat_of_zero_le m0
  have hm6 : m ≤ 6 := by omega
  clear m0 m1 hs
  go_wp2_with fail
  go_loopw [3, 7] (BlRel w s K m) (fun _ i _ => m - (intOf i).toNat)
  case atStart => exact ⟨0, [], by omega, by simp, rfl, World.ownsRow_nil _ _ _ _, fun p hp => (by cases hp), hSB1, hG1⟩
  case round =>
    obtain ⟨k, l, hkm, hlk, rfl, hown, hl, hSB, hG⟩ := hrel
    have HL := Lib.hid hl
    clear hl hSB1 hG1
    by_cases hk2 : k < m
    · have hki : (k : Int) < (m : Int) := by omega
      have HK := Lib.hid hk2
      go_wp2_with fail
      refine (pick_c _ _ _ [1, 1, 2, 3, 4, 6] _ _ _ (hSB.alloc _) (by omega) (by decide) (by decide) (Rd.newAt _ rfl rfl (by decide)) (hSB.newAt _ _ _ (Nat.le_refl _))).mono ?_; rintro e w4 ⟨q1, rfl, hp, hSB4, hg⟩
      have hown4 := OwnX.kept (OwnX.alloc hown (.cells _ 3)) hg hsb
      have hG4 := (hG.alloc (.cells _ 3)).trans hg
      clear hown hG hSB hg hp
      go_wp2_with fail
      refine (some_c _ _ _ [⟨#[100, 97, 121]⟩, ⟨#[119, 101, 101, 107]⟩, ⟨#[115, 101, 97, 116]⟩, ⟨#[108, 97, 116, 101]⟩] _ _ _ (hSB4.alloc _) (by omega) (by decide) (by decide) (Rd.newAt _ rfl rfl (by decide)) (hSB4.newAt _ _ _ (Nat.le_refl _))).mono ?_; rintro e w5 ⟨q2, rfl, hp, hSB5, hg⟩
      have HQ2 := Lib.hid (small_pick hp (by decide))
      have hown5 := OwnX.kept (OwnX.alloc hown4 (.cells _ 9)) hg hsb
      have hG5 := (hG4.alloc (.cells _ 9)).trans hg
      clear hown4 hG4 hSB4 hg hp
      go_wp2_with fail
      refine (pick_c _ _ _ [0, 5, 50, 105, 999, -10, -3, 1000000] _ _ _ (hSB5.alloc _) (by omega) (by decide) (by decide) (Rd.newAt _ rfl rfl (by decide)) (hSB5.newAt _ _ _ (Nat.le_refl _))).mono ?_; rintro e w6 ⟨q3, rfl, hp, hSB6, hg⟩
      have hown6 := OwnX.kept (OwnX.alloc hown5 (.cells _ 3)) hg hsb
      have hG6 := (hG5.alloc (.cells _ 3)).trans hg
      clear hown5 hG5 hSB5 hg hp
      have hsz := hG6.size
      have hownA := OwnX.alloc hown6 (.cells #[.int .i64 q1, .string q2, .int .i64 q3] 44)
      go_wp2_with (at_builtin; refine wpList_plain rfl fun K' hK' => wp_append_x li_rowOk _ _ rfl w.heap.size u3 l rfl hownA w6.heap.size (q1, q2, q3) rfl (Bk.new w6 _ _) (by omega) (by simp; omega) ?_; intro v8 w8 hown8 hgrow; refine hK' _ _ ?_)
      have hob := OwnX.low hown6
      go_roundw
      case rel => exact ⟨k + 1, l ++ [(q1, q2, q3)], by omega, by simp; omega, by go_num, hown8, HL.out.snoc HQ2.out, ((hSB6.alloc _).own hgrow (fun r e => Nat.lt_of_lt_of_le hsb (hob r e))).le (by omega), (hG6.alloc _).other hgrow (fun r e => .inl (hob r e))⟩
      case measure => have := HK.out; simp [intOf]; omega
    · obtain rfl : k = m := by omega
      have hf := hown.2
      have hnk : ¬ ((k : Int) < (k : Int)) := by omega
      rcases hf with ⟨rfl, hn0⟩ | ⟨g, cap, cur, rfl, hbg, _, hnc, hmc, _, _⟩
      · clear hn0
        go_wp2_with fail
        go_ret
        exact bill_fin hown HL.out (by omega) (hSB.le (by omega)) hG
      · by_cases h0 : l.length = 0
        · have h0i : ¬ ((0 : Int) < (l.length : Int)) := by omega
          clear h0
          go_wp2_with fail
          go_ret
          exact bill_fin hown HL.out (by omega) (hSB.le (by omega)) hG
        · have h0i : ((0 : Int) < (l.length : Int)) := by omega
          have hsg : s < g := by omega
          have hgw : w.heap.size ≤ g := by omega
          clear h0
          go_wp2_with fail
          refine (flip_c _ _ _ _ hSB (by omega) (by omega)).mono ?_; rintro e w2 ⟨b, rfl, hSB2, hG2⟩
          have hown2 := OwnX.kept hown hG2 hsb
          have hG02 := hG.trans hG2
          clear hown hG hG2 hSB
          cases b with
          | false =>
            go_wp2_with fail
            go_ret
            exact bill_fin hown2 HL.out (by omega) (hSB2.le (by omega)) hG02
          | true =>
            go_wp2_with fail
            refine (next_c _ _ _ _ hSB2 (by omega) (by omega)).mono ?_; rintro e w3 ⟨j, rfl, hj, hSB3, hG3⟩
            obtain ⟨j0, j1⟩ := hj
            obtain ⟨j, rfl⟩ := Int.eq_ofNat_of_zero_le j0
            have jl : j < l.length := by omega
            have jli : (j : Int) < (l.length : Int) := by omega
            clear j1
            have hown3 := OwnX.kept hown2 hG3 hsb
            have hG03 := hG02.trans hG3
            clear hown2 hG02 hG3 hSB2
            obtain ⟨p, hp⟩ : ∃ p, l[j]? = some p := ⟨_, List.getElem?_eq_getElem jl⟩
            have HP := Lib.hid hp
            clear hp
            go_wp2_with fail
            refine (pick_c _ _ _ [1, 5, 0, 7] _ _ _ (hSB3.alloc _) (by omega) (by decide) (by decide) (Rd.newAt _ rfl rfl (by decide)) (hSB3.newAt _ _ _ (Nat.le_refl _))).mono ?_; rintro e w5 ⟨y1, rfl, hr, hSB5, hG5⟩
            have hown5 := OwnX.kept (OwnX.alloc hown3 _) hG5 hsb
            have hG05 := (hG03.alloc _).trans hG5
            clear hr hown3 hSB3 hG03 hG5
            go_wp2_with fail
            refine (some_c _ _ _ [⟨#[100, 97, 121]⟩, ⟨#[]⟩, ⟨#[65]⟩] _ _ _ (hSB5.alloc _) (by omega) (by decide) (by decide) (Rd.newAt _ rfl rfl (by decide)) (hSB5.newAt _ _ _ (Nat.le_refl _))).mono ?_; rintro e w6 ⟨y2, rfl, hr, hSB6, hG6⟩
            have HY2 := Lib.hid (small_pick hr (by decide))
            have hown6 := OwnX.kept (OwnX.alloc hown5 _) hG6 hsb
            have hG06 := (hG05.alloc _).trans hG6
            clear hr hown5 hSB5 hG05 hG6
            go_wp2_with fail
            refine (odd_c _ _ _ _ _ hSB6 (by omega) (by omega) (by omega) (by omega) (by omega)).mono ?_; rintro e w7 ⟨y3, rfl, y30, y31, hSB7, hG7⟩
            have hown7 := OwnX.kept hown6 hG7 hsb
            have hG07 := hG06.trans hG7
            clear hown6 hSB6 hG06 hG7
            have c0 := RdR.cell liC_sz (Rd.of_owns hown7) (G.refl _ _) HP.out 0 (.int .i64 p.1) rfl
            have c1 := RdR.cell liC_sz (Rd.of_owns hown7) (G.refl _ _) HP.out 1 (.string p.2.1) rfl
            have c2 := RdR.cell liC_sz (Rd.of_owns hown7) (G.refl _ _) HP.out 2 (.int .i64 p.2.2) rfl
            have f0 := ownsRow_free hown7 (j * 3 + 0)
            have f1 := ownsRow_free hown7 (j * 3 + 1)
            have f2 := ownsRow_free hown7 (j * 3 + 2)
            have o1 := OwnX.set liC_sz hown7 HP.out (q := (y1, p.2)) 0 (.int .i64 y1) (by omega) rfl
            have o2 := OwnX.set liC_sz o1 (show (l.set j (y1, p.2))[j]? = some (y1, p.2) by rw [List.getElem?_set_self jl]) (q := (y1, y2, p.2.2)) 1 (.string y2) (by omega) rfl
            rw [List.set_set] at o2
            have o3 := OwnX.set liC_sz o2 (show (l.set j (y1, y2, p.2.2))[j]? = some (y1, y2, p.2.2) by rw [List.getElem?_set_self jl]) (q := (y1, y2, y3)) 2 (.int .i64 y3) (by omega) rfl
            rw [List.set_set] at o3
            simp only [Nat.zero_add, Nat.add_zero] at c0 c1 c2 f0 o3
            clear o1 o2
            go_wp2_with fail
            go_ret
            exact bill_fin (l := l.set j (y1, y2, y3)) (by unfold OwnLi OwnX; rw [List.length_set]; exact o3) (HL.out.set (r := (y1, y2, y3)) HY2.out j) (by rw [List.length_set]; omega) ((((hSB7.setCell (p := ⟨g, j * 3, none⟩) hsg _).setCell (p := ⟨g, j * 3 + 1, none⟩) hsg _).setCell (p := ⟨g, j * 3 + 2, none⟩) hsg _).le (by omega)) (((hG07.setCell (p := ⟨g, j * 3, none⟩) (.inl hgw) _).setCell (p := ⟨g, j * 3 + 1, none⟩) (.inl hgw) _).setCell (p := ⟨g, j * 3 + 2, none⟩) (.inl hgw) _)
end Go.Proofs.YtgddchdpeflmoaaDoor
