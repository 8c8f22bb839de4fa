/- Generators: drivers, ages. -/
import Derived.Test.YtbieiefbgcgogaaDoorDrv
import Derived.Test.YtbieiefbgcgogaaDoorOws
import Derived.Test.YtbieiefbgcgogaaDoorStream
import Derived.Test.YtbieiefbgcgogaaDoorGenT
import Derived.Test.YtbieiefbgcgogaaDoorPck
namespace Go.Proofs.YtbieiefbgcgogaaDoor
open Go.RowKit

theorem dr_oneL (r : Dr) : ∀ u ∈ (drC r).toList, u.oneCell' = true := by
  intro u hu
  simp [drC] at hu
  rcases hu with rfl | rfl | rfl | rfl <;> rfl
theorem dr_rowOk : RowOk Tryd.prog 75 65 4 40 (.agg (drC (⟨#[]⟩, 0, 0, 0))) drC := ⟨by kernel_rfl, Tryd.underlying65, dr_oneL, drC_sz, rfl, by omega, by omega⟩
abbrev OwnDr (w : World) (base : Nat) (v : Value) (l : List Dr) : Prop := OwnX 75 4 drC w base v l
theorem DrOk.snoc {l : List Dr} {r : Dr} (h : DrOk l) (hr : Small r.1) : DrOk (l ++ [r]) := fun p hp => by
  rcases List.mem_append.1 hp with hp | hp
  · exact h p hp
  · obtain rfl := List.mem_singleton.1 hp
    exact hr
theorem DrOk.set {l : List Dr} (h : DrOk l) {r : Dr} (hr : Small r.1) (k : Nat) : DrOk (l.set k r) := fun p hp => by
  rcases List.mem_or_eq_of_mem_set hp with hp | rfl
  · exact h p hp
  · exact hr
def drKeys : Array Value := #[.string ⟨#[97, 110, 110]⟩, .string ⟨#[98, 111, 98]⟩, .string ⟨#[99, 105, 100]⟩]
theorem drKeys_at (k : Nat) (hk : k < 3) : ∃ a : ByteArray, Small a ∧ drKeys[k]? = some (.string a) := by
  match k, hk with
  | 0, _ => exact ⟨_, small_of (s := ⟨#[97, 110, 110]⟩) (by decide), rfl⟩
  | 1, _ => exact ⟨_, small_of (s := ⟨#[98, 111, 98]⟩) (by decide), rfl⟩
  | 2, _ => exact ⟨_, small_of (s := ⟨#[99, 105, 100]⟩) (by decide), rfl⟩
def DriversPost (s K : Nat) (w : World) (e : Ending) (w' : World) : Prop :=
  ∃ (v : Value) (l : List Dr), e = .returned v ∧ OwnDr w' (w.heap.size + 1) v l ∧ DrOk l ∧ l.length ≤ 3 ∧ SB w' s (K + 30) ∧ G w w' (some s)
theorem drivers_fin {w w' : World} {s K : Nat} {v : Value} {l : List Dr} (hown : OwnDr w' (w.heap.size + 1) v l) (hl : DrOk l) (hn : l.length ≤ 3) (hSB : SB w' s (K + 30)) (hG : G w w' (some s)) : DriversPost s K w (.returned v) w' :=
  ⟨v, l, rfl, hown, hl, hn, hSB, hG⟩
def DgRel (w : World) (s K : Nat) (s3 s10 : Value) (wr : World) : Prop :=
  ∃ (k : Nat) (l : List Dr), k ≤ 3 ∧ l.length ≤ k ∧ s10 = .int .i64 k ∧ OwnDr wr (w.heap.size + 1) s3 l ∧ DrOk l ∧ SB wr s (K + 4 * k) ∧ G w wr (some s) ∧ Bk wr w.heap.size 9 drKeys
set_option maxRecDepth 100000 in
set_option maxHeartbeats 8000000 in
theorem drivers_c (w : World) (s : Nat) (K : Nat) (hs : SB w s K) (hk : K ≤ 900000000000) :
    Calls Tryd.prog 30 #[.pointer (some ⟨s, 0, none⟩)] w (DriversPost s K w) := by
  have hsw := hs.lt
  have hsb : s < w.heap.size + 1 := Nat.lt_succ_of_lt hsw
  go_enter Tryd.func30, Tryd.ntmps30
  go_wp2_with fail
  go_loopw [3, 10] (DgRel w s K) (fun _ i _ => 3 - (intOf i).toNat)
  case atStart => exact ⟨0, [], by omega, by simp, rfl, World.ownsRow_nil _ _ _ _, fun p hp => (by cases hp), hs.alloc _, (G.refl _ _).alloc _, Bk.new w _ _⟩
  case round =>
    obtain ⟨k, l, hkm, hlk, rfl, hown, hl, hSB, hG, hB⟩ := hrel
    have HL := Lib.hid hl
    clear hl hs
    by_cases hk2 : k < 3
    · obtain ⟨key, hkey, hpa⟩ := drKeys_at k (by omega)
      have hrow : wr.cell? ⟨w.heap.size, k, none⟩ = some (.string key) := by rw [hB.cell]; exact hpa
      have hBl := hB.lt
      have hki : (k : Int) < 3 := by omega
      have HKEY := Lib.hid hkey
      clear hpa hkey
      go_wp2_with fail
      refine (flip_c _ _ _ _ hSB (by omega) (by omega)).mono ?_; rintro e w3 ⟨q, rfl, hSB3, hg⟩
      have hown3 := OwnX.kept hown hg hsb
      have hB3 := hB.grown hg (fun e => by have := Option.some.inj e; omega)
      have hG3 := hG.trans hg
      clear hown hB hG hSB hg hrow
      cases q with
      | true =>
        go_wp2_with fail
        go_roundw
        case rel => exact ⟨k + 1, l, by omega, by omega, by go_num, hown3, HL.out, hSB3.le (by omega), hG3, hB3⟩
        case measure => simp [intOf]; omega
      | false =>
        go_wp2_with fail
        refine (pick_c _ _ _ [-1000, 0, 1, 5] _ _ _ (hSB3.alloc _) (by omega) (by decide) (by decide) (Rd.newAt _ rfl rfl (by decide)) (hSB3.newAt _ _ _ (Nat.le_refl _))).mono ?_; rintro e w4 ⟨f, rfl, hp, hSB4, hg⟩
        have hf0 : -1000 ≤ f ∧ f ≤ 5 := by simp only [List.mem_cons, List.mem_nil_iff, or_false] at hp; omega
        obtain ⟨f0, f1⟩ := hf0
        have hown4 := OwnX.kept (OwnX.alloc hown3 (.cells _ 3)) hg hsb
        have hB4 := (hB3.alloc (.cells _ 3)).grown hg (fun e => by have := Option.some.inj e; omega)
        have hG4 := (hG3.alloc (.cells _ 3)).trans hg
        clear hown3 hB3 hG3 hSB3 hg hp
        go_wp2_with fail
        refine (pick_c _ _ _ [-9000, -7000, -6570, 0] _ _ _ (hSB4.alloc _) (by omega) (by decide) (by decide) (Rd.newAt _ rfl rfl (by decide)) (hSB4.newAt _ _ _ (Nat.le_refl _))).mono ?_; rintro e w5 ⟨b, rfl, hp, hSB5, hg⟩
        have hown5 := OwnX.kept (OwnX.alloc hown4 (.cells _ 3)) hg hsb
        have hB5 := (hB4.alloc (.cells _ 3)).grown hg (fun e => by have := Option.some.inj e; omega)
        have hG5 := (hG4.alloc (.cells _ 3)).trans hg
        clear hown4 hB4 hG4 hSB4 hg hp
        go_wp2_with fail
        refine (pick_c _ _ _ [0, 1, 2, 5, 2000] _ _ _ (hSB5.alloc _) (by omega) (by decide) (by decide) (Rd.newAt _ rfl rfl (by decide)) (hSB5.newAt _ _ _ (Nat.le_refl _))).mono ?_; rintro e w6 ⟨t, rfl, hp, hSB6, hg⟩
        have ht0 : 0 ≤ t ∧ t ≤ 2000 := by simp only [List.mem_cons, List.mem_nil_iff, or_false] at hp; omega
        obtain ⟨t0, t1⟩ := ht0
        have hown6 := OwnX.kept (OwnX.alloc hown5 (.cells _ 3)) hg hsb
        have hB6 := (hB5.alloc (.cells _ 3)).grown hg (fun e => by have := Option.some.inj e; omega)
        have hG6 := (hG5.alloc (.cells _ 3)).trans hg
        clear hown5 hB5 hG5 hSB5 hg hp
        have hsz := hG6.size
        have hownA := OwnX.alloc hown6 (.cells #[.string key, .int .i64 b, .int .i64 f, .int .i64 (f + t)] 75)
        go_wp2_with (at_builtin; refine wpList_plain rfl fun K' hK' => wp_append_x dr_rowOk _ _ rfl (w.heap.size + 1) u3 l rfl hownA w6.heap.size (key, b, f, f + t) rfl (Bk.new w6 _ _) (by omega) (by have := hB6.lt; simp; omega) ?_; intro v8 w8 hown8 hgrow; refine hK' _ _ ?_)
        have hob := OwnX.low hown6
        go_roundw
        case rel => exact ⟨k + 1, l ++ [(key, b, f, f + t)], by omega, by simp; omega, by go_num, hown8, HL.out.snoc HKEY.out, ((hSB6.alloc _).own hgrow (fun r e => Nat.lt_of_lt_of_le hsb (hob r e))).le (by omega), (hG6.alloc _).other hgrow (fun r e => .inl (Nat.le_of_succ_le (hob r e))), (hB6.alloc _).grown hgrow (OwnX.ne hown6 (.inl (Nat.lt_succ_self _)))⟩
        case measure => simp [intOf]; omega
    · obtain rfl : k = 3 := by omega
      have hf := hown.2
      rcases hf with ⟨rfl, hn0⟩ | ⟨g, cap, cur, rfl, hbg, _, hnc, hmc, _, _⟩
      · clear hn0
        go_wp2_with fail
        go_ret
        exact drivers_fin hown HL.out hlk (hSB.le (by omega)) hG
      · by_cases h0 : l.length = 0
        · have h0i : ¬ ((0 : Int) < (l.length : Int)) := by omega
          clear h0
          go_wp2_with fail
          go_ret
          exact drivers_fin hown HL.out hlk (hSB.le (by omega)) hG
        · have h0i : ((0 : Int) < (l.length : Int)) := by omega
          have hsg : s < g := by omega
          have hgw : w.heap.size ≤ g := by omega
          clear h0
          go_wp2_with fail
          refine (flip_c _ _ _ _ hSB (by omega) (by omega)).mono ?_; rintro e w2 ⟨b, rfl, hSB2, hG2⟩
          have hown2 := OwnX.kept hown hG2 hsb
          have hG02 := hG.trans hG2
          clear hown hG hG2 hSB hB
          cases b with
          | false =>
            go_wp2_with fail
            go_ret
            exact drivers_fin hown2 HL.out hlk (hSB2.le (by omega)) hG02
          | true =>
            go_wp2_with fail
            refine (next_c _ _ _ _ hSB2 (by omega) (by omega)).mono ?_; rintro e w3 ⟨j, rfl, hj, hSB3, hG3⟩
            obtain ⟨j0, j1⟩ := hj
            obtain ⟨j, rfl⟩ := Int.eq_ofNat_of_zero_le j0
            have jl : j < l.length := by omega
            have jli : (j : Int) < (l.length : Int) := by omega
            clear j1
            have hown3 := OwnX.kept hown2 hG3 hsb
            have hG03 := hG02.trans hG3
            clear hown2 hG02 hG3 hSB2
            obtain ⟨p, hp⟩ : ∃ p, l[j]? = some p := ⟨_, List.getElem?_eq_getElem jl⟩
            have HP := Lib.hid hp
            have hpb := Lib.hid (HL.out p (List.mem_of_getElem? hp))
            have c0 := RdR.cell drC_sz (Rd.of_owns hown3) (G.refl _ _) hp 0 (.string p.1) rfl
            simp only [Nat.add_zero, Nat.zero_add] at c0
            clear hp
            go_wp2_with fail
            refine (some_c _ _ _ [p.1, ⟨#[]⟩, ⟨#[97, 110, 110]⟩] _ _ _ (hSB3.alloc _) (by omega) (by decide) (by decide) (Rd.newAt _ rfl rfl (by decide)) (hSB3.newAt _ _ _ (Nat.le_refl _))).mono ?_; rintro e w5 ⟨r, rfl, hr, hSB5, hG5⟩
            have hrs : Small r := by
              simp only [List.mem_cons, List.mem_nil_iff, or_false] at hr
              rcases hr with rfl | rfl | rfl
              · exact hpb.out
              · exact small_of (by decide)
              · exact small_of (by decide)
            have HRS := Lib.hid hrs
            have hown5 := OwnX.kept (OwnX.alloc hown3 _) hG5 hsb
            have hG05 := (hG03.alloc _).trans hG5
            clear hr hown3 hSB3 hG03 hG5 hrs c0
            go_wp2_with fail
            refine (odd_c _ _ _ _ _ hSB5 (by omega) (by omega) (by omega) (by omega) (by omega)).mono ?_; rintro e w6 ⟨y1, rfl, y10, y11, hSB6, hG6⟩
            have hown6 := OwnX.kept hown5 hG6 hsb
            have hG06 := hG05.trans hG6
            clear hown5 hSB5 hG05 hG6
            go_wp2_with fail
            refine (odd_c _ _ _ _ _ hSB6 (by omega) (by omega) (by omega) (by omega) (by omega)).mono ?_; rintro e w7 ⟨y2, rfl, y20, y21, hSB7, hG7⟩
            have hown7 := OwnX.kept hown6 hG7 hsb
            have hG07 := hG06.trans hG7
            clear hown6 hSB6 hG06 hG7
            have c0 := RdR.cell drC_sz (Rd.of_owns hown7) (G.refl _ _) HP.out 0 (.string p.1) rfl
            have c1 := RdR.cell drC_sz (Rd.of_owns hown7) (G.refl _ _) HP.out 1 (.int .i64 p.2.1) rfl
            have c2 := RdR.cell drC_sz (Rd.of_owns hown7) (G.refl _ _) HP.out 2 (.int .i64 p.2.2.1) rfl
            have f0 := ownsRow_free hown7 (j * 4 + 0)
            have f1 := ownsRow_free hown7 (j * 4 + 1)
            have f2 := ownsRow_free hown7 (j * 4 + 2)
            have o1 := OwnX.set drC_sz hown7 HP.out (q := (r, p.2)) 0 (.string r) (by omega) rfl
            have o2 := OwnX.set drC_sz o1 (show (l.set j (r, p.2))[j]? = some (r, p.2) by rw [List.getElem?_set_self jl]) (q := (r, y1, p.2.2)) 1 (.int .i64 y1) (by omega) rfl
            rw [List.set_set] at o2
            have o3 := OwnX.set drC_sz o2 (show (l.set j (r, y1, p.2.2))[j]? = some (r, y1, p.2.2) by rw [List.getElem?_set_self jl]) (q := (r, y1, y2, p.2.2.2)) 2 (.int .i64 y2) (by omega) rfl
            rw [List.set_set] at o3
            simp only [Nat.zero_add, Nat.add_zero] at c0 c1 c2 f0 o3
            clear o1 o2
            go_wp2_with fail
            go_ret
            exact drivers_fin (l := l.set j (r, y1, y2, p.2.2.2)) (by unfold OwnDr OwnX; rw [List.length_set]; exact o3) (HL.out.set (r := (r, y1, y2, p.2.2.2)) HRS.out j) (by rw [List.length_set]; exact hlk) ((((hSB7.setCell (p := ⟨g, j * 4, none⟩) hsg _).setCell (p := ⟨g, j * 4 + 1, none⟩) hsg _).setCell (p := ⟨g, j * 4 + 2, none⟩) hsg _).le (by omega)) (((hG07.setCell (p := ⟨g, j * 4, none⟩) (.inl hgw) _).setCell (p := ⟨g, j * 4 + 1, none⟩) (.inl hgw) _).setCell (p := ⟨g, j * 4 + 2, none⟩) (.inl hgw) _)
end Go.Proofs.YtbieiefbgcgogaaDoor
