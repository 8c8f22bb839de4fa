/- Generators: Rates, ClassKey. -/
import Derived.Test.YtgofeigebldkiaaDoorGenR
namespace Go.Proofs.YtgofeigebldkiaaDoor
open Go.RowKit

def ClassKeyPost (s K : Nat) (w : World) (e : Ending) (w' : World) : Prop := ∃ r : ByteArray, e = .returned (.string r) ∧ Small r ∧ SB w' s (K + 1) ∧ G w w' (some s)
theorem classKey_c (w : World) (s : Nat) (K : Nat) (hs : SB w s K) (hk : K ≤ 900000000000) :
    Calls Tryd.prog 9 #[.pointer (some ⟨s, 0, none⟩)] w (ClassKeyPost s K w) := by
  go_enter Tryd.func9, Tryd.ntmps9
  go_wp2_with fail
  refine (some_c _ _ _ [⟨#[109, 105, 110, 105]⟩, ⟨#[109, 105, 110, 105]⟩, ⟨#[109, 105, 100, 105]⟩, ⟨#[109, 97, 120, 105]⟩, ⟨#[98, 105, 103]⟩, ⟨#[109, 105, 110, 105]⟩, ⟨#[110, 111, 110, 101]⟩, ⟨#[]⟩, ⟨#[65]⟩] _ _ K (hs.alloc _) (by omega) (by decide) (by decide) (Rd.newAt _ rfl rfl (by decide)) (hs.newAt _ _ _ (Nat.le_refl _))).mono ?_; rintro e w1 ⟨r, rfl, hr, hSB1, hG1⟩
  have hrs := small_pick hr (by decide)
  have hG01 := ((G.refl w (some s)).alloc _).trans hG1
  clear hr
  go_wp2_with fail
  go_ret
  exact ⟨r, rfl, hrs, hSB1, hG01⟩
def RatesPost (s K : Nat) (w : World) (e : Ending) (w' : World) : Prop :=
  ∃ (v : Value) (l : List Ra), e = .returned v ∧ RdR w' 7 raC v l ∧ RaOk l ∧ l.length ≤ 10 ∧ (∀ r, v.ownBlock = some r → w.heap.size ≤ r) ∧ SB w' s (K + 70) ∧ G w w' (some s)
theorem RaOk.set {l : List Ra} (h : RaOk l) {r : Ra} (hr : raB r) (k : Nat) : RaOk (l.set k r) := fun p hp => by
  rcases List.mem_or_eq_of_mem_set hp with hp | rfl
  · exact h p hp
  · exact hr
theorem rates_fin {w w' : World} {s K : Nat} {v : Value} {l : List Ra} (hown : OwnRa w' (w.heap.size + 1) v l) (hl : RaOk l) (hn : l.length ≤ 10) (hSB : SB w' s (K + 70)) (hG : G w w' (some s)) : RatesPost s K w (.returned v) w' :=
  ⟨v, l, rfl, Rd.of_owns hown, hl, hn, fun r e => Nat.le_of_succ_le (World.ownsRow.lt hown r e).1, hSB, hG⟩
theorem ra_set {w : World} {base g n cap : Nat} {l : List Ra} {k : Nat} {p q : Ra} (h : w.ownsRow base 37 7 (.slice (some ⟨g, 0, none⟩) n cap) n (rowL raC l)) (hp : l[k]? = some p) (j : Nat) (u : Value) (hj : j < 7) (hq : (raC q).toList = (raC p).toList.set j u) :
    (w.setCell ⟨g, k * 7 + j, none⟩ u).ownsRow base 37 7 (.slice (some ⟨g, 0, none⟩) n cap) n (rowL raC (l.set k q)) := by
  rw [← rowL_set raC_sz l k p q hp j u hj hq]
  exact ownsRow_set h _ _
set_option maxRecDepth 100000 in
set_option maxHeartbeats 8000000 in
theorem rates_c (w : World) (s : Nat) (K : Nat) (hs : SB w s K) (hk : K ≤ 800000000000) :
    Calls Tryd.prog 7 #[.pointer (some ⟨s, 0, none⟩)] w (RatesPost s K w) := by
  have hslt := hs.lt
  have hsb : s < w.heap.size + 1 := Nat.lt_succ_of_lt hslt
  go_enter Tryd.func7, Tryd.ntmps7
  go_wp2_with fail
  refine (rightRates_c w s K hs (by omega)).mono ?_; rintro e w1 ⟨v, l, rfl, hown, hl, hln, hSB1, hG1⟩
  have HL := Lib.hid hl
  clear hl hs
  have hf := hown.2
  rcases hf with ⟨rfl, hn0⟩ | ⟨g, cap, cur, rfl, hbg, _, hnc, hmc, _, _⟩
  · clear hn0
    go_wp2_with fail
    go_ret
    exact rates_fin hown HL.out (by omega) (hSB1.le (by omega)) hG1
  · by_cases h0 : l.length = 0
    · have h0i : ¬ ((0 : Int) < (l.length : Int)) := by omega
      clear h0
      go_wp2_with fail
      go_ret
      exact rates_fin hown HL.out (by omega) (hSB1.le (by omega)) hG1
    · have h0i : ((0 : Int) < (l.length : Int)) := by omega
      have hsg : s < g := by omega
      have hgw : w.heap.size ≤ g := by omega
      clear h0
      go_wp2_with fail
      refine (flip_c _ _ _ _ hSB1 (by omega) (by omega)).mono ?_; rintro e w2 ⟨b, rfl, hSB2, hG2⟩
      have hown2 := OwnRa.kept hown hG2 hsb
      have hG02 := hG1.trans hG2
      clear hown hG1 hG2 hSB1
      cases b with
      | false =>
        go_wp2_with fail
        go_ret
        exact rates_fin hown2 HL.out (by omega) (hSB2.le (by omega)) hG02
      | true =>
        go_wp2_with fail
        refine (next_c _ _ _ _ hSB2 (by omega) (by omega)).mono ?_; rintro e w3 ⟨j, rfl, hj, hSB3, hG3⟩
        obtain ⟨j0, j1⟩ := hj
        obtain ⟨j, rfl⟩ := Int.eq_ofNat_of_zero_le j0
        have jl : j < l.length := by omega
        have jli : (j : Int) < (l.length : Int) := by omega
        clear j1
        have hown3 := OwnRa.kept hown2 hG3 hsb
        have hG03 := hG02.trans hG3
        clear hown2 hG02 hG3 hSB2
        go_wp2_with fail
        refine (next_c _ _ _ _ hSB3 (by omega) (by omega)).mono ?_; rintro e w4 ⟨t, rfl, ht, hSB4, hG4⟩
        have hown4 := OwnRa.kept hown3 hG4 hsb
        have hG04 := hG03.trans hG4
        clear hown3 hG03 hG4 hSB3
        obtain ⟨p, hp⟩ : ∃ p, l[j]? = some p := ⟨_, List.getElem?_eq_getElem jl⟩
        have HP := Lib.hid hp
        have hpb := Lib.hid (HL.out p (List.mem_of_getElem? hp))
        clear hp
        obtain ⟨t0, t1⟩ := ht
        rcases (show t = 0 ∨ t = 1 ∨ t = 2 ∨ t = 3 by omega) with rfl | rfl | rfl | rfl
        · clear t0 t1
          go_wp2_with fail
          refine (some_c _ _ _ [⟨#[]⟩, ⟨#[65]⟩, ⟨#[109, 105, 110, 105]⟩, ⟨#[122, 101, 100]⟩] _ _ _ (hSB4.alloc _) (by omega) (by decide) (by decide) (Rd.newAt _ rfl rfl (by decide)) (hSB4.newAt _ _ _ (Nat.le_refl _))).mono ?_; rintro e w5 ⟨r, rfl, hr, hSB5, hG5⟩
          have hrs := small_pick hr (by decide)
          have hown5 := OwnRa.kept (OwnRa.alloc hown4 _) hG5 hsb
          have hG05 := (hG04.alloc _).trans hG5
          clear hr hown4 hSB4 hG04 hG5
          have c0 := RdR.cell raC_sz (Rd.of_owns hown5) (G.refl _ _) HP.out 0 (.string p.1) rfl
          have f0 := ownsRow_free hown5 (j * 7 + 0)
          have hown6 := ra_set hown5 HP.out (q := (r, p.2)) 0 (.string r) (by omega) rfl
          simp only [Nat.zero_add, Nat.add_zero] at c0 f0 hown6
          go_wp2_with fail
          go_ret
          exact rates_fin (l := l.set j (r, p.2)) (by unfold OwnRa; rw [List.length_set]; exact hown6) (HL.out.set (r := (r, p.2)) ⟨hrs, hpb.out.2⟩ j) (by rw [List.length_set]; omega) ((hSB5.setCell (p := ⟨g, j * 7, none⟩) hsg _).le (by omega)) (hG05.setCell (p := ⟨g, j * 7, none⟩) (.inl hgw) _)
        · clear t0 t1
          go_wp2_with fail
          refine (odd_c _ _ _ _ _ hSB4 (by omega) (by omega) (by omega) (by omega) (by omega)).mono ?_; rintro e w5 ⟨y1, rfl, y10, y11, hSB5, hG5⟩
          have hown5 := OwnRa.kept hown4 hG5 hsb
          have hG05 := hG04.trans hG5
          clear hown4 hSB4 hG04 hG5
          go_wp2_with fail
          refine (odd_c _ _ _ _ _ hSB5 (by omega) (by omega) (by omega) (by omega) (by omega)).mono ?_; rintro e w6 ⟨y2, rfl, y20, y21, hSB6, hG6⟩
          have hown6 := OwnRa.kept hown5 hG6 hsb
          have hG06 := hG05.trans hG6
          clear hown5 hSB5 hG05 hG6
          have c1 := RdR.cell raC_sz (Rd.of_owns hown6) (G.refl _ _) HP.out 1 (.int .i64 p.2.1) rfl
          have c2 := RdR.cell raC_sz (Rd.of_owns hown6) (G.refl _ _) HP.out 2 (.int .i64 p.2.2.1) rfl
          have f1 := ownsRow_free hown6 (j * 7 + 1)
          have f2 := ownsRow_free hown6 (j * 7 + 2)
          have hown7 := ra_set hown6 HP.out (q := (p.1, y1, p.2.2)) 1 (.int .i64 y1) (by omega) rfl
          have hown8 := ra_set hown7 (show (l.set j (p.1, y1, p.2.2))[j]? = some (p.1, y1, p.2.2) by rw [List.getElem?_set_self jl]) (q := (p.1, y1, y2, p.2.2.2)) 2 (.int .i64 y2) (by omega) rfl
          rw [List.set_set] at hown8
          simp only [Nat.zero_add] at c1 c2
          clear hown7
          go_wp2_with fail
          go_ret
          exact rates_fin (l := l.set j (p.1, y1, y2, p.2.2.2)) (by unfold OwnRa; rw [List.length_set]; exact hown8) (HL.out.set (r := (p.1, y1, y2, p.2.2.2)) ⟨hpb.out.1, ⟨y10, y11⟩, ⟨y20, y21⟩, hpb.out.2.2.2⟩ j) (by rw [List.length_set]; omega) (((hSB6.setCell (p := ⟨g, j * 7 + 1, none⟩) hsg _).setCell (p := ⟨g, j * 7 + 2, none⟩) hsg _).le (by omega)) ((hG06.setCell (p := ⟨g, j * 7 + 1, none⟩) (.inl hgw) _).setCell (p := ⟨g, j * 7 + 2, none⟩) (.inl hgw) _)
        · clear t0 t1
          go_wp2_with fail
          refine (odd_c _ _ _ _ _ hSB4 (by omega) (by omega) (by omega) (by omega) (by omega)).mono ?_; rintro e w5 ⟨y1, rfl, y10, y11, hSB5, hG5⟩
          have hown5 := OwnRa.kept hown4 hG5 hsb
          have hG05 := hG04.trans hG5
          clear hown4 hSB4 hG04 hG5
          have c4 := RdR.cell raC_sz (Rd.of_owns hown5) (G.refl _ _) HP.out 4 (.int .i64 p.2.2.2.2.1) rfl
          have f4 := ownsRow_free hown5 (j * 7 + 4)
          have hown6 := ra_set hown5 HP.out (q := (p.1, p.2.1, p.2.2.1, p.2.2.2.1, y1, p.2.2.2.2.2)) 4 (.int .i64 y1) (by omega) rfl
          simp only [Nat.zero_add] at c4
          go_wp2_with fail
          go_ret
          exact rates_fin (l := l.set j (p.1, p.2.1, p.2.2.1, p.2.2.2.1, y1, p.2.2.2.2.2)) (by unfold OwnRa; rw [List.length_set]; exact hown6) (HL.out.set (r := (p.1, p.2.1, p.2.2.1, p.2.2.2.1, y1, p.2.2.2.2.2)) ⟨hpb.out.1, hpb.out.2.1, hpb.out.2.2.1, hpb.out.2.2.2.1, ⟨y10, y11⟩, hpb.out.2.2.2.2.2⟩ j) (by rw [List.length_set]; omega) ((hSB5.setCell (p := ⟨g, j * 7 + 4, none⟩) hsg _).le (by omega)) (hG05.setCell (p := ⟨g, j * 7 + 4, none⟩) (.inl hgw) _)
        · clear t0 t1
          obtain ⟨q, hq⟩ : ∃ q, l[0]? = some q := ⟨_, List.getElem?_eq_getElem (by omega)⟩
          have HRW := Lib.hid (raRow (Rd.of_owns hown4) (G.refl _ _) hq)
          have hqb := Lib.hid (HL.out q (List.mem_of_getElem? hq))
          clear hq HP hpb
          go_wp2_with (first | (refine wpList_load_at rfl 37 _ rfl ⟨g, 0 + 0 * 7, none⟩ rfl #[.string q.1, .int .i64 q.2.1, .int .i64 q.2.2.1, .int .i64 q.2.2.2.1, .int .i64 q.2.2.2.2.1, .int .i64 q.2.2.2.2.2.1, .int .i64 q.2.2.2.2.2.2] _ HRW.out Tryd.underlying37 rfl (ra_info q) ?_) | (at_builtin; refine wpList_plain rfl fun K' hK' => wp_append_ra _ _ rfl (w.heap.size + 1) _ l rfl (OwnRa.alloc hown4 _) w4.heap.size q rfl (Bk.newAt rfl _ _) (by omega) (by have := hG04.size; have := hSB4.lt; simp; omega) ?_; intro v7 w7 hown7 hgrow; refine hK' _ _ ?_))
          go_ret
          have hob : ∀ r, some r = (Value.slice (some ⟨g, 0, none⟩) l.length cap).ownBlock → r = g := fun r e => Option.some.inj e
          exact rates_fin hown7 (HL.out.snoc hqb.out) (by simp; omega) (((hSB4.alloc _).own hgrow (fun r e => by rw [hob r e.symm]; exact hsg)).le (by omega)) ((hG04.alloc _).other hgrow (fun r e => .inl (by rw [hob r e.symm]; exact hgw)))
end Go.Proofs.YtgofeigebldkiaaDoor
