/- Generators: Codes, CodeKeys. -/
import Derived.Test.YtgofeigebldkiaaDoorCod
import Derived.Test.YtgofeigebldkiaaDoorOws
import Derived.Test.YtgofeigebldkiaaDoorStr
import Derived.Test.YtgofeigebldkiaaDoorStream
import Derived.Test.YtgofeigebldkiaaDoorGenT
import Derived.Test.YtgofeigebldkiaaDoorPck
namespace Go.Proofs.YtgofeigebldkiaaDoor
open Go.RowKit

theorem cd_one (r : Cd) : ∀ u ∈ (cdC r).toList, u.oneCell' = true := by
  intro u hu
  simp [cdC] at hu
  rcases hu with rfl | rfl | rfl | rfl | rfl | rfl <;> rfl
theorem cd_rowOk : RowOk Tryd.prog 116 62 6 64 (.agg (cdC (⟨#[]⟩, ⟨#[]⟩, 0, 0, 0, 0))) cdC := ⟨by kernel_rfl, Tryd.underlying62, cd_one, cdC_sz, rfl, by omega, by omega⟩
abbrev OwnCd (w : World) (base : Nat) (v : Value) (l : List Cd) : Prop := OwnX 116 6 cdC w base v l
theorem CdOk.snoc {l : List Cd} {r : Cd} (h : CdOk l) (hr : cdB r) : CdOk (l ++ [r]) := fun p hp => by
  rcases List.mem_append.1 hp with hp | hp
  · exact h p hp
  · obtain rfl := List.mem_singleton.1 hp
    exact hr
theorem CdOk.set {l : List Cd} (h : CdOk l) {r : Cd} (hr : cdB r) (k : Nat) : CdOk (l.set k r) := fun p hp => by
  rcases List.mem_or_eq_of_mem_set hp with hp | rfl
  · exact h p hp
  · exact hr
def cdKeys : Array Value := #[.string ⟨#[97, 49, 48]⟩, .string ⟨#[98, 50, 48]⟩, .string ⟨#[99, 51, 48]⟩]
theorem cdKeys_at (k : Nat) (hk : k < 3) : ∃ a : ByteArray, Small a ∧ cdKeys[k]? = some (.string a) := by
  match k, hk with
  | 0, _ => exact ⟨_, small_of (s := ⟨#[97, 49, 48]⟩) (by decide), rfl⟩
  | 1, _ => exact ⟨_, small_of (s := ⟨#[98, 50, 48]⟩) (by decide), rfl⟩
  | 2, _ => exact ⟨_, small_of (s := ⟨#[99, 51, 48]⟩) (by decide), rfl⟩
def CodesPost (s K : Nat) (w : World) (e : Ending) (w' : World) : Prop :=
  ∃ (v : Value) (l : List Cd), e = .returned v ∧ RdR w' 6 cdC v l ∧ CdOk l ∧ l.length ≤ 3 ∧ (∀ r, v.ownBlock = some r → w.heap.size ≤ r) ∧ SB w' s (K + 30) ∧ G w w' (some s)
theorem codes_fin {w w' : World} {s K : Nat} {v : Value} {l : List Cd} (hown : OwnCd w' (w.heap.size + 1) v l) (hl : CdOk l) (hn : l.length ≤ 3) (hSB : SB w' s (K + 30)) (hG : G w w' (some s)) : CodesPost s K w (.returned v) w' :=
  ⟨v, l, rfl, Rd.of_owns hown, hl, hn, fun r e => Nat.le_of_succ_le (World.ownsRow.lt hown r e).1, hSB, hG⟩
def CgRel (w : World) (s K : Nat) (s3 s10 : Value) (wr : World) : Prop :=
  ∃ (k : Nat) (l : List Cd), k ≤ 3 ∧ l.length ≤ k ∧ s10 = .int .i64 k ∧ OwnCd wr (w.heap.size + 1) s3 l ∧ CdOk l ∧ SB wr s (K + 6 * k) ∧ G w wr (some s) ∧ Bk wr w.heap.size 9 cdKeys
set_option maxRecDepth 100000 in
set_option maxHeartbeats 8000000 in
theorem codes_c (w : World) (s : Nat) (K : Nat) (hs : SB w s K) (hk : K ≤ 900000000000) :
    Calls Tryd.prog 33 #[.pointer (some ⟨s, 0, none⟩)] w (CodesPost s K w) := by
  have hsw := hs.lt
  have hsb : s < w.heap.size + 1 := Nat.lt_succ_of_lt hsw
  go_enter Tryd.func33, Tryd.ntmps33
  go_wp2_with fail
  go_loopw [3, 10] (CgRel w s K) (fun _ i _ => 3 - (intOf i).toNat)
  case atStart => exact ⟨0, [], by omega, by simp, rfl, World.ownsRow_nil _ _ _ _, fun p hp => (by cases hp), hs.alloc _, (G.refl _ _).alloc _, Bk.new w _ _⟩
  case round =>
    obtain ⟨k, l, hk3, hlk, rfl, hown, hl, hSB, hG, hB⟩ := hrel
    have HL := Lib.hid hl
    clear hl hs
    by_cases hk2 : k < 3
    · obtain ⟨key, hkey, hpa⟩ := cdKeys_at k hk2
      have hrow : wr.cell? ⟨w.heap.size, k, none⟩ = some (.string key) := by rw [hB.cell]; exact hpa
      have hBl := hB.lt
      clear hpa
      go_wp2_with fail
      refine (flip_c _ _ _ _ hSB (by omega) (by omega)).mono ?_; rintro e w2 ⟨q, rfl, hSB2, hG2⟩
      have hown2 := OwnX.kept hown hG2 hsb
      have hB2 := hB.grown hG2 (fun e => by have := Option.some.inj e; omega)
      have hG02 := hG.trans hG2
      clear hown hB hG hG2 hSB hrow
      cases q with
      | true =>
        go_wp2_with fail
        go_roundw
        case rel => exact ⟨k + 1, l, by omega, by omega, by go_num, hown2, HL.out, hSB2.le (by omega), hG02, hB2⟩
        case measure => simp [intOf]; omega
      | false =>
        go_wp2_with fail
        refine (pick_c _ _ _ [0, 0, 3] _ _ _ (hSB2.alloc _) (by omega) (by decide) (by decide) (Rd.newAt _ rfl rfl (by decide)) (hSB2.newAt _ _ _ (Nat.le_refl _))).mono ?_; rintro e w3 ⟨f, rfl, hp, hSB3, hg⟩
        have hf0 : 0 ≤ f ∧ f ≤ 3 := by simp only [List.mem_cons, List.mem_nil_iff, or_false] at hp; omega
        obtain ⟨f0, f1⟩ := hf0
        have hown3 := OwnX.kept (OwnX.alloc hown2 (.cells _ 3)) hg hsb
        have hB3 := (hB2.alloc (.cells _ 3)).grown hg (fun e => by have := Option.some.inj e; omega)
        have hG03 := (hG02.alloc (.cells _ 3)).trans hg
        clear hown2 hB2 hG02 hSB2 hg hp
        go_wp2_with fail
        refine (some_c _ _ _ [⟨#[]⟩, ⟨#[]⟩, ⟨#[109, 105, 110, 105]⟩] _ _ _ (hSB3.alloc _) (by omega) (by decide) (by decide) (Rd.newAt _ rfl rfl (by decide)) (hSB3.newAt _ _ _ (Nat.le_refl _))).mono ?_; rintro e w4 ⟨cl, rfl, hp, hSB4, hg⟩
        have hcl := small_pick hp (by decide)
        have hown4 := OwnX.kept (OwnX.alloc hown3 (.cells _ 9)) hg hsb
        have hB4 := (hB3.alloc (.cells _ 9)).grown hg (fun e => by have := Option.some.inj e; omega)
        have hG04 := (hG03.alloc (.cells _ 9)).trans hg
        clear hown3 hB3 hG03 hSB3 hg hp
        go_wp2_with fail
        refine (pick_c _ _ _ [0, 1, 10, 3000] _ _ _ (hSB4.alloc _) (by omega) (by decide) (by decide) (Rd.newAt _ rfl rfl (by decide)) (hSB4.newAt _ _ _ (Nat.le_refl _))).mono ?_; rintro e w5 ⟨t, rfl, hp, hSB5, hg⟩
        have ht0 : 0 ≤ t ∧ t ≤ 3000 := by simp only [List.mem_cons, List.mem_nil_iff, or_false] at hp; omega
        obtain ⟨t0, t1⟩ := ht0
        have hown5 := OwnX.kept (OwnX.alloc hown4 (.cells _ 3)) hg hsb
        have hB5 := (hB4.alloc (.cells _ 3)).grown hg (fun e => by have := Option.some.inj e; omega)
        have hG05 := (hG04.alloc (.cells _ 3)).trans hg
        clear hown4 hB4 hG04 hSB4 hg hp
        go_wp2_with fail
        refine (pick_c _ _ _ [1, 1, 2, 5] _ _ _ (hSB5.alloc _) (by omega) (by decide) (by decide) (Rd.newAt _ rfl rfl (by decide)) (hSB5.newAt _ _ _ (Nat.le_refl _))).mono ?_; rintro e w6 ⟨d, rfl, hp, hSB6, hg⟩
        have bd := Lib.hid (bnd_pick hp (by decide))
        have hown6 := OwnX.kept (OwnX.alloc hown5 (.cells _ 3)) hg hsb
        have hB6 := (hB5.alloc (.cells _ 3)).grown hg (fun e => by have := Option.some.inj e; omega)
        have hG06 := (hG05.alloc (.cells _ 3)).trans hg
        clear hown5 hB5 hG05 hSB5 hg hp
        go_wp2_with fail
        refine (pick_c _ _ _ [1, 100, 100, 250, 1000] _ _ _ (hSB6.alloc _) (by omega) (by decide) (by decide) (Rd.newAt _ rfl rfl (by decide)) (hSB6.newAt _ _ _ (Nat.le_refl _))).mono ?_; rintro e w7 ⟨m, rfl, hp, hSB7, hg⟩
        have bm := Lib.hid (bnd_pick hp (by decide))
        have hown7 := OwnX.kept (OwnX.alloc hown6 (.cells _ 3)) hg hsb
        have hB7 := (hB6.alloc (.cells _ 3)).grown hg (fun e => by have := Option.some.inj e; omega)
        have hG07 := (hG06.alloc (.cells _ 3)).trans hg
        clear hown6 hB6 hG06 hSB6 hg hp
        have hsz := hG07.size
        have hBl7 := hB7.lt
        have HRB : Hid (cdB (key, cl, f, f + t, d, m)) := Lib.hid ⟨hkey, hcl, (by show bnd f; unfold bnd; omega), (by show bnd (f + t); unfold bnd; omega), bd.out, bm.out⟩
        have hownA := OwnX.alloc hown7 (.cells #[.string key, .string cl, .int .i64 f, .int .i64 (f + t), .int .i64 d, .int .i64 m] 116)
        go_wp2_with (at_builtin; refine wpList_plain rfl fun K' hK' => wp_append_x cd_rowOk _ _ rfl (w.heap.size + 1) u3 l rfl hownA w7.heap.size (key, cl, f, f + t, d, m) rfl (Bk.new w7 _ _) (by omega) (by simp; omega) ?_; intro v8 w8 hown8 hgrow; refine hK' _ _ ?_)
        have hob := OwnX.low hown7
        go_roundw
        case rel => exact ⟨k + 1, l ++ [(key, cl, f, f + t, d, m)], by omega, by simp; omega, by go_num, hown8, HL.out.snoc HRB.out, ((hSB7.alloc _).own hgrow (fun r e => Nat.lt_of_lt_of_le hsb (hob r e))).le (by omega), (hG07.alloc _).other hgrow (fun r e => .inl (Nat.le_of_succ_le (hob r e))), (hB7.alloc _).grown hgrow (OwnX.ne hown7 (.inl (Nat.lt_succ_self _)))⟩
        case measure => simp [intOf]; omega
    · obtain rfl : k = 3 := by omega
      have hBl := hB.lt
      have hf := hown.2
      rcases hf with ⟨rfl, hn0⟩ | ⟨g, cap, cur, rfl, hbg, _, hnc, hmc, _, _⟩
      · clear hn0
        go_wp2_with fail
        go_ret
        exact codes_fin hown HL.out (by omega) (hSB.le (by omega)) hG
      · by_cases h0 : l.length = 0
        · have h0i : ¬ ((0 : Int) < (l.length : Int)) := by omega
          clear h0
          go_wp2_with fail
          go_ret
          exact codes_fin hown HL.out (by omega) (hSB.le (by omega)) hG
        · have h0i : ((0 : Int) < (l.length : Int)) := by omega
          have hsg : s < g := by omega
          have hgw : w.heap.size ≤ g := by omega
          clear h0
          go_wp2_with fail
          refine (flip_c _ _ _ _ hSB (by omega) (by omega)).mono ?_; rintro e w2 ⟨b, rfl, hSB2, hG2⟩
          have hown2 := OwnX.kept hown hG2 hsb
          have hG02 := hG.trans hG2
          clear hown hG hG2 hSB hB
          cases b with
          | false =>
            go_wp2_with fail
            go_ret
            exact codes_fin hown2 HL.out (by omega) (hSB2.le (by omega)) hG02
          | true =>
            go_wp2_with fail
            refine (next_c _ _ _ _ hSB2 (by omega) (by omega)).mono ?_; rintro e w3 ⟨j, rfl, hj, hSB3, hG3⟩
            obtain ⟨j0, j1⟩ := hj
            obtain ⟨j, rfl⟩ := Int.eq_ofNat_of_zero_le j0
            have jl : j < l.length := by omega
            have jli : (j : Int) < (l.length : Int) := by omega
            clear j1
            have hown3 := OwnX.kept hown2 hG3 hsb
            have hG03 := hG02.trans hG3
            clear hown2 hG02 hG3 hSB2
            obtain ⟨p, hp⟩ : ∃ p, l[j]? = some p := ⟨_, List.getElem?_eq_getElem jl⟩
            have HP := Lib.hid hp
            have hpb := Lib.hid (HL.out p (List.mem_of_getElem? hp))
            clear hp
            have c0 := RdR.cell cdC_sz (Rd.of_owns hown3) (G.refl _ _) HP.out 0 (.string p.1) rfl
            simp only [Nat.zero_add, Nat.add_zero] at c0
            go_wp2_with fail
            refine (some_c _ _ _ [p.1, ⟨#[]⟩, ⟨#[122, 101, 100]⟩, ⟨#[97, 49, 48]⟩] _ _ _ (hSB3.alloc _) (by omega) (by decide) (by decide) (Rd.newAt _ rfl rfl (by decide)) (hSB3.newAt _ _ _ (Nat.le_refl _))).mono ?_; rintro e w4 ⟨r, rfl, hr, hSB4, hG4⟩
            have hrs : Small r := by
              simp only [List.mem_cons, List.mem_nil_iff, or_false] at hr
              rcases hr with rfl | rfl | rfl | rfl
              · exact hpb.out.1
              · exact small_of (by decide)
              · exact small_of (by decide)
              · exact small_of (by decide)
            have hown4 := OwnX.kept (OwnX.alloc hown3 _) hG4 hsb
            have hG04 := (hG03.alloc _).trans hG4
            clear hr hown3 hSB3 hG03 hG4 c0
            go_wp2_with fail
            refine (odd_c _ _ _ _ _ hSB4 (by omega) (by omega) (by omega) (by omega) (by omega)).mono ?_; rintro e w5 ⟨y1, rfl, y10, y11, hSB5, hG5⟩
            have hown5 := OwnX.kept hown4 hG5 hsb
            have hG05 := hG04.trans hG5
            clear hown4 hSB4 hG04 hG5
            go_wp2_with fail
            refine (odd_c _ _ _ _ _ hSB5 (by omega) (by omega) (by omega) (by omega) (by omega)).mono ?_; rintro e w6 ⟨y2, rfl, y20, y21, hSB6, hG6⟩
            have hown6 := OwnX.kept hown5 hG6 hsb
            have hG06 := hG05.trans hG6
            clear hown5 hSB5 hG05 hG6
            have c0 := RdR.cell cdC_sz (Rd.of_owns hown6) (G.refl _ _) HP.out 0 (.string p.1) rfl
            have c4 := RdR.cell cdC_sz (Rd.of_owns hown6) (G.refl _ _) HP.out 4 (.int .i64 p.2.2.2.2.1) rfl
            have c5 := RdR.cell cdC_sz (Rd.of_owns hown6) (G.refl _ _) HP.out 5 (.int .i64 p.2.2.2.2.2) rfl
            have f0 := ownsRow_free hown6 (j * 6 + 0)
            have f4 := ownsRow_free hown6 (j * 6 + 4)
            have f5 := ownsRow_free hown6 (j * 6 + 5)
            have hown7 := OwnX.set cdC_sz hown6 HP.out (q := (r, p.2)) 0 (.string r) (by omega) rfl
            have hown8 := OwnX.set cdC_sz hown7 (show (l.set j (r, p.2))[j]? = some (r, p.2) by rw [List.getElem?_set_self jl]) (q := (r, p.2.1, p.2.2.1, p.2.2.2.1, y1, p.2.2.2.2.2)) 4 (.int .i64 y1) (by omega) rfl
            rw [List.set_set] at hown8
            have hown9 := OwnX.set cdC_sz hown8 (show (l.set j (r, p.2.1, p.2.2.1, p.2.2.2.1, y1, p.2.2.2.2.2))[j]? = some (r, p.2.1, p.2.2.1, p.2.2.2.1, y1, p.2.2.2.2.2) by rw [List.getElem?_set_self jl]) (q := (r, p.2.1, p.2.2.1, p.2.2.2.1, y1, y2)) 5 (.int .i64 y2) (by omega) rfl
            rw [List.set_set] at hown9
            simp only [Nat.zero_add, Nat.add_zero] at c0 c4 c5 f0 hown9
            clear hown7 hown8
            go_wp2_with fail
            go_ret
            exact codes_fin (l := l.set j (r, p.2.1, p.2.2.1, p.2.2.2.1, y1, y2)) (by unfold OwnCd OwnX; rw [List.length_set]; exact hown9) (HL.out.set (r := (r, p.2.1, p.2.2.1, p.2.2.2.1, y1, y2)) ⟨hrs, hpb.out.2.1, hpb.out.2.2.1, hpb.out.2.2.2.1, ⟨y10, y11⟩, ⟨y20, y21⟩⟩ j) (by rw [List.length_set]; omega) ((((hSB6.setCell (p := ⟨g, j * 6, none⟩) hsg _).setCell (p := ⟨g, j * 6 + 4, none⟩) hsg _).setCell (p := ⟨g, j * 6 + 5, none⟩) hsg _).le (by omega)) (((hG06.setCell (p := ⟨g, j * 6, none⟩) (.inl hgw) _).setCell (p := ⟨g, j * 6 + 4, none⟩) (.inl hgw) _).setCell (p := ⟨g, j * 6 + 5, none⟩) (.inl hgw) _)
def CodeKeysPost (s K : Nat) (w : World) (e : Ending) (w' : World) : Prop :=
  ∃ (v : Value) (l : List ByteArray), e = .returned v ∧ RdS w' v l ∧ l.length ≤ 3 ∧ (∀ r, v.ownBlock = some r → w.heap.size ≤ r) ∧ SB w' s (K + 1) ∧ G w w' (some s)
def ckOut (g : Nat) : Array Value := #[.slice none 0 0, .slice (some ⟨g, 0, none⟩) 1 1, .slice (some ⟨g + 1, 0, none⟩) 2 2, .slice (some ⟨g + 2, 0, none⟩) 3 3, .slice (some ⟨g + 3, 0, none⟩) 1 1, .slice (some ⟨g + 4, 0, none⟩) 2 2]
theorem ck_r0 {w : World} {g : Nat} (h : Bk w g 9 #[.string ⟨#[97, 49, 48]⟩]) : RdS w (.slice (some ⟨g, 0, none⟩) 1 1) [⟨#[97, 49, 48]⟩] := h.rd 1 1 rfl (by omega)
theorem ck_r1 {w : World} {g : Nat} (h : Bk w g 9 #[.string ⟨#[98, 50, 48]⟩, .string ⟨#[97, 49, 48]⟩]) : RdS w (.slice (some ⟨g, 0, none⟩) 2 2) [⟨#[98, 50, 48]⟩, ⟨#[97, 49, 48]⟩] := h.rd 1 2 rfl (by omega)
theorem ck_r2 {w : World} {g : Nat} (h : Bk w g 9 #[.string ⟨#[99, 51, 48]⟩, .string ⟨#[98, 50, 48]⟩, .string ⟨#[97, 49, 48]⟩]) : RdS w (.slice (some ⟨g, 0, none⟩) 3 3) [⟨#[99, 51, 48]⟩, ⟨#[98, 50, 48]⟩, ⟨#[97, 49, 48]⟩] := h.rd 1 3 rfl (by omega)
theorem ck_r3 {w : World} {g : Nat} (h : Bk w g 9 #[.string ⟨#[110, 111, 110, 101]⟩]) : RdS w (.slice (some ⟨g, 0, none⟩) 1 1) [⟨#[110, 111, 110, 101]⟩] := h.rd 1 1 rfl (by omega)
theorem ck_r4 {w : World} {g : Nat} (h : Bk w g 9 #[.string ⟨#[97, 49, 48]⟩, .string ⟨#[97, 49, 48]⟩]) : RdS w (.slice (some ⟨g, 0, none⟩) 2 2) [⟨#[97, 49, 48]⟩, ⟨#[97, 49, 48]⟩] := h.rd 1 2 rfl (by omega)
theorem ck_nil (w : World) : RdS w (.slice none 0 0) [] := ⟨none, 0, rfl, Nat.le_refl _, Nat.zero_le _, rfl, fun _ => ⟨rfl, rfl⟩, fun b hb => by cases hb⟩
theorem ckOut_at {w : World} {g : Nat} (h0 : Bk w (g) 9 #[.string ⟨#[97, 49, 48]⟩]) (h1 : Bk w (g + 1) 9 #[.string ⟨#[98, 50, 48]⟩, .string ⟨#[97, 49, 48]⟩]) (h2 : Bk w (g + 2) 9 #[.string ⟨#[99, 51, 48]⟩, .string ⟨#[98, 50, 48]⟩, .string ⟨#[97, 49, 48]⟩]) (h3 : Bk w (g + 3) 9 #[.string ⟨#[110, 111, 110, 101]⟩]) (h4 : Bk w (g + 4) 9 #[.string ⟨#[97, 49, 48]⟩, .string ⟨#[97, 49, 48]⟩]) (j : Nat) (hj : j < 6) :
    ∃ (v : Value) (l : List ByteArray), (ckOut g)[j]? = some v ∧ RdS w v l ∧ l.length ≤ 3 ∧ (∀ r, v.ownBlock = some r → g ≤ r) := by
  match j, hj with
  | 0, _ => exact ⟨_, [], rfl, ck_nil w, by decide, fun r e => by cases e⟩
  | 1, _ => exact ⟨_, _, rfl, ck_r0 h0, by decide, fun r e => by obtain rfl := Option.some.inj e; dsimp only; omega⟩
  | 2, _ => exact ⟨_, _, rfl, ck_r1 h1, by decide, fun r e => by obtain rfl := Option.some.inj e; dsimp only; omega⟩
  | 3, _ => exact ⟨_, _, rfl, ck_r2 h2, by decide, fun r e => by obtain rfl := Option.some.inj e; dsimp only; omega⟩
  | 4, _ => exact ⟨_, _, rfl, ck_r3 h3, by decide, fun r e => by obtain rfl := Option.some.inj e; dsimp only; omega⟩
  | 5, _ => exact ⟨_, _, rfl, ck_r4 h4, by decide, fun r e => by obtain rfl := Option.some.inj e; dsimp only; omega⟩
set_option maxRecDepth 100000 in
set_option maxHeartbeats 4000000 in
theorem codeKeys_c (w : World) (s : Nat) (K : Nat) (hs : SB w s K) (hk : K ≤ 900000000000) :
    Calls Tryd.prog 34 #[.pointer (some ⟨s, 0, none⟩)] w (CodeKeysPost s K w) := by
  have hslt := hs.lt
  have h0 : Bk ((((((w.alloc (.cells #[.string ⟨#[97, 49, 48]⟩] 9)).alloc (.cells #[.string ⟨#[98, 50, 48]⟩, .string ⟨#[97, 49, 48]⟩] 9)).alloc (.cells #[.string ⟨#[99, 51, 48]⟩, .string ⟨#[98, 50, 48]⟩, .string ⟨#[97, 49, 48]⟩] 9)).alloc (.cells #[.string ⟨#[110, 111, 110, 101]⟩] 9)).alloc (.cells #[.string ⟨#[97, 49, 48]⟩, .string ⟨#[97, 49, 48]⟩] 9)).alloc (.cells #[.slice none 0 0, .slice (some ⟨w.heap.size, 0, none⟩) 1 1, .slice (some ⟨w.heap.size + 1, 0, none⟩) 2 2, .slice (some ⟨w.heap.size + 2, 0, none⟩) 3 3, .slice (some ⟨w.heap.size + 3, 0, none⟩) 1 1, .slice (some ⟨w.heap.size + 4, 0, none⟩) 2 2] 64)) (w.heap.size) 9 #[.string ⟨#[97, 49, 48]⟩] := ((((((Bk.newAt (w := w) (b := w.heap.size) (by simp) 9 #[.string ⟨#[97, 49, 48]⟩]).alloc _).alloc _).alloc _).alloc _).alloc _)
  have h1 : Bk ((((((w.alloc (.cells #[.string ⟨#[97, 49, 48]⟩] 9)).alloc (.cells #[.string ⟨#[98, 50, 48]⟩, .string ⟨#[97, 49, 48]⟩] 9)).alloc (.cells #[.string ⟨#[99, 51, 48]⟩, .string ⟨#[98, 50, 48]⟩, .string ⟨#[97, 49, 48]⟩] 9)).alloc (.cells #[.string ⟨#[110, 111, 110, 101]⟩] 9)).alloc (.cells #[.string ⟨#[97, 49, 48]⟩, .string ⟨#[97, 49, 48]⟩] 9)).alloc (.cells #[.slice none 0 0, .slice (some ⟨w.heap.size, 0, none⟩) 1 1, .slice (some ⟨w.heap.size + 1, 0, none⟩) 2 2, .slice (some ⟨w.heap.size + 2, 0, none⟩) 3 3, .slice (some ⟨w.heap.size + 3, 0, none⟩) 1 1, .slice (some ⟨w.heap.size + 4, 0, none⟩) 2 2] 64)) (w.heap.size + 1) 9 #[.string ⟨#[98, 50, 48]⟩, .string ⟨#[97, 49, 48]⟩] := (((((Bk.newAt (w := (w.alloc (.cells #[.string ⟨#[97, 49, 48]⟩] 9))) (b := w.heap.size + 1) (by simp) 9 #[.string ⟨#[98, 50, 48]⟩, .string ⟨#[97, 49, 48]⟩]).alloc _).alloc _).alloc _).alloc _)
  have h2 : Bk ((((((w.alloc (.cells #[.string ⟨#[97, 49, 48]⟩] 9)).alloc (.cells #[.string ⟨#[98, 50, 48]⟩, .string ⟨#[97, 49, 48]⟩] 9)).alloc (.cells #[.string ⟨#[99, 51, 48]⟩, .string ⟨#[98, 50, 48]⟩, .string ⟨#[97, 49, 48]⟩] 9)).alloc (.cells #[.string ⟨#[110, 111, 110, 101]⟩] 9)).alloc (.cells #[.string ⟨#[97, 49, 48]⟩, .string ⟨#[97, 49, 48]⟩] 9)).alloc (.cells #[.slice none 0 0, .slice (some ⟨w.heap.size, 0, none⟩) 1 1, .slice (some ⟨w.heap.size + 1, 0, none⟩) 2 2, .slice (some ⟨w.heap.size + 2, 0, none⟩) 3 3, .slice (some ⟨w.heap.size + 3, 0, none⟩) 1 1, .slice (some ⟨w.heap.size + 4, 0, none⟩) 2 2] 64)) (w.heap.size + 2) 9 #[.string ⟨#[99, 51, 48]⟩, .string ⟨#[98, 50, 48]⟩, .string ⟨#[97, 49, 48]⟩] := ((((Bk.newAt (w := ((w.alloc (.cells #[.string ⟨#[97, 49, 48]⟩] 9)).alloc (.cells #[.string ⟨#[98, 50, 48]⟩, .string ⟨#[97, 49, 48]⟩] 9))) (b := w.heap.size + 2) (by simp) 9 #[.string ⟨#[99, 51, 48]⟩, .string ⟨#[98, 50, 48]⟩, .string ⟨#[97, 49, 48]⟩]).alloc _).alloc _).alloc _)
  have h3 : Bk ((((((w.alloc (.cells #[.string ⟨#[97, 49, 48]⟩] 9)).alloc (.cells #[.string ⟨#[98, 50, 48]⟩, .string ⟨#[97, 49, 48]⟩] 9)).alloc (.cells #[.string ⟨#[99, 51, 48]⟩, .string ⟨#[98, 50, 48]⟩, .string ⟨#[97, 49, 48]⟩] 9)).alloc (.cells #[.string ⟨#[110, 111, 110, 101]⟩] 9)).alloc (.cells #[.string ⟨#[97, 49, 48]⟩, .string ⟨#[97, 49, 48]⟩] 9)).alloc (.cells #[.slice none 0 0, .slice (some ⟨w.heap.size, 0, none⟩) 1 1, .slice (some ⟨w.heap.size + 1, 0, none⟩) 2 2, .slice (some ⟨w.heap.size + 2, 0, none⟩) 3 3, .slice (some ⟨w.heap.size + 3, 0, none⟩) 1 1, .slice (some ⟨w.heap.size + 4, 0, none⟩) 2 2] 64)) (w.heap.size + 3) 9 #[.string ⟨#[110, 111, 110, 101]⟩] := (((Bk.newAt (w := (((w.alloc (.cells #[.string ⟨#[97, 49, 48]⟩] 9)).alloc (.cells #[.string ⟨#[98, 50, 48]⟩, .string ⟨#[97, 49, 48]⟩] 9)).alloc (.cells #[.string ⟨#[99, 51, 48]⟩, .string ⟨#[98, 50, 48]⟩, .string ⟨#[97, 49, 48]⟩] 9))) (b := w.heap.size + 3) (by simp) 9 #[.string ⟨#[110, 111, 110, 101]⟩]).alloc _).alloc _)
  have h4 : Bk ((((((w.alloc (.cells #[.string ⟨#[97, 49, 48]⟩] 9)).alloc (.cells #[.string ⟨#[98, 50, 48]⟩, .string ⟨#[97, 49, 48]⟩] 9)).alloc (.cells #[.string ⟨#[99, 51, 48]⟩, .string ⟨#[98, 50, 48]⟩, .string ⟨#[97, 49, 48]⟩] 9)).alloc (.cells #[.string ⟨#[110, 111, 110, 101]⟩] 9)).alloc (.cells #[.string ⟨#[97, 49, 48]⟩, .string ⟨#[97, 49, 48]⟩] 9)).alloc (.cells #[.slice none 0 0, .slice (some ⟨w.heap.size, 0, none⟩) 1 1, .slice (some ⟨w.heap.size + 1, 0, none⟩) 2 2, .slice (some ⟨w.heap.size + 2, 0, none⟩) 3 3, .slice (some ⟨w.heap.size + 3, 0, none⟩) 1 1, .slice (some ⟨w.heap.size + 4, 0, none⟩) 2 2] 64)) (w.heap.size + 4) 9 #[.string ⟨#[97, 49, 48]⟩, .string ⟨#[97, 49, 48]⟩] := ((Bk.newAt (w := ((((w.alloc (.cells #[.string ⟨#[97, 49, 48]⟩] 9)).alloc (.cells #[.string ⟨#[98, 50, 48]⟩, .string ⟨#[97, 49, 48]⟩] 9)).alloc (.cells #[.string ⟨#[99, 51, 48]⟩, .string ⟨#[98, 50, 48]⟩, .string ⟨#[97, 49, 48]⟩] 9)).alloc (.cells #[.string ⟨#[110, 111, 110, 101]⟩] 9))) (b := w.heap.size + 4) (by simp) 9 #[.string ⟨#[97, 49, 48]⟩, .string ⟨#[97, 49, 48]⟩]).alloc _)
  have ho : Bk ((((((w.alloc (.cells #[.string ⟨#[97, 49, 48]⟩] 9)).alloc (.cells #[.string ⟨#[98, 50, 48]⟩, .string ⟨#[97, 49, 48]⟩] 9)).alloc (.cells #[.string ⟨#[99, 51, 48]⟩, .string ⟨#[98, 50, 48]⟩, .string ⟨#[97, 49, 48]⟩] 9)).alloc (.cells #[.string ⟨#[110, 111, 110, 101]⟩] 9)).alloc (.cells #[.string ⟨#[97, 49, 48]⟩, .string ⟨#[97, 49, 48]⟩] 9)).alloc (.cells #[.slice none 0 0, .slice (some ⟨w.heap.size, 0, none⟩) 1 1, .slice (some ⟨w.heap.size + 1, 0, none⟩) 2 2, .slice (some ⟨w.heap.size + 2, 0, none⟩) 3 3, .slice (some ⟨w.heap.size + 3, 0, none⟩) 1 1, .slice (some ⟨w.heap.size + 4, 0, none⟩) 2 2] 64)) (w.heap.size + 5) 64 (ckOut w.heap.size) := Bk.newAt (w := (((((w.alloc (.cells #[.string ⟨#[97, 49, 48]⟩] 9)).alloc (.cells #[.string ⟨#[98, 50, 48]⟩, .string ⟨#[97, 49, 48]⟩] 9)).alloc (.cells #[.string ⟨#[99, 51, 48]⟩, .string ⟨#[98, 50, 48]⟩, .string ⟨#[97, 49, 48]⟩] 9)).alloc (.cells #[.string ⟨#[110, 111, 110, 101]⟩] 9)).alloc (.cells #[.string ⟨#[97, 49, 48]⟩, .string ⟨#[97, 49, 48]⟩] 9))) (b := w.heap.size + 5) (by simp) 64 (ckOut w.heap.size)
  have hSB : SB ((((((w.alloc (.cells #[.string ⟨#[97, 49, 48]⟩] 9)).alloc (.cells #[.string ⟨#[98, 50, 48]⟩, .string ⟨#[97, 49, 48]⟩] 9)).alloc (.cells #[.string ⟨#[99, 51, 48]⟩, .string ⟨#[98, 50, 48]⟩, .string ⟨#[97, 49, 48]⟩] 9)).alloc (.cells #[.string ⟨#[110, 111, 110, 101]⟩] 9)).alloc (.cells #[.string ⟨#[97, 49, 48]⟩, .string ⟨#[97, 49, 48]⟩] 9)).alloc (.cells #[.slice none 0 0, .slice (some ⟨w.heap.size, 0, none⟩) 1 1, .slice (some ⟨w.heap.size + 1, 0, none⟩) 2 2, .slice (some ⟨w.heap.size + 2, 0, none⟩) 3 3, .slice (some ⟨w.heap.size + 3, 0, none⟩) 1 1, .slice (some ⟨w.heap.size + 4, 0, none⟩) 2 2] 64)) s K := hs.quiet (G.alloc (G.alloc (G.alloc (G.alloc (G.alloc (G.alloc (G.refl w none) _) _) _) _) _) _)
  have hG : G w ((((((w.alloc (.cells #[.string ⟨#[97, 49, 48]⟩] 9)).alloc (.cells #[.string ⟨#[98, 50, 48]⟩, .string ⟨#[97, 49, 48]⟩] 9)).alloc (.cells #[.string ⟨#[99, 51, 48]⟩, .string ⟨#[98, 50, 48]⟩, .string ⟨#[97, 49, 48]⟩] 9)).alloc (.cells #[.string ⟨#[110, 111, 110, 101]⟩] 9)).alloc (.cells #[.string ⟨#[97, 49, 48]⟩, .string ⟨#[97, 49, 48]⟩] 9)).alloc (.cells #[.slice none 0 0, .slice (some ⟨w.heap.size, 0, none⟩) 1 1, .slice (some ⟨w.heap.size + 1, 0, none⟩) 2 2, .slice (some ⟨w.heap.size + 2, 0, none⟩) 3 3, .slice (some ⟨w.heap.size + 3, 0, none⟩) 1 1, .slice (some ⟨w.heap.size + 4, 0, none⟩) 2 2] 64)) (some s) := G.alloc (G.alloc (G.alloc (G.alloc (G.alloc (G.alloc (G.refl w (some s)) _) _) _) _) _) _
  have hz : ((((((w.alloc (.cells #[.string ⟨#[97, 49, 48]⟩] 9)).alloc (.cells #[.string ⟨#[98, 50, 48]⟩, .string ⟨#[97, 49, 48]⟩] 9)).alloc (.cells #[.string ⟨#[99, 51, 48]⟩, .string ⟨#[98, 50, 48]⟩, .string ⟨#[97, 49, 48]⟩] 9)).alloc (.cells #[.string ⟨#[110, 111, 110, 101]⟩] 9)).alloc (.cells #[.string ⟨#[97, 49, 48]⟩, .string ⟨#[97, 49, 48]⟩] 9)).alloc (.cells #[.slice none 0 0, .slice (some ⟨w.heap.size, 0, none⟩) 1 1, .slice (some ⟨w.heap.size + 1, 0, none⟩) 2 2, .slice (some ⟨w.heap.size + 2, 0, none⟩) 3 3, .slice (some ⟨w.heap.size + 3, 0, none⟩) 1 1, .slice (some ⟨w.heap.size + 4, 0, none⟩) 2 2] 64)).heap.size = w.heap.size + 6 := by simp
  go_enter Tryd.func34, Tryd.ntmps34
  go_wp2_with fail
  generalize ((((((w.alloc (.cells #[.string ⟨#[97, 49, 48]⟩] 9)).alloc (.cells #[.string ⟨#[98, 50, 48]⟩, .string ⟨#[97, 49, 48]⟩] 9)).alloc (.cells #[.string ⟨#[99, 51, 48]⟩, .string ⟨#[98, 50, 48]⟩, .string ⟨#[97, 49, 48]⟩] 9)).alloc (.cells #[.string ⟨#[110, 111, 110, 101]⟩] 9)).alloc (.cells #[.string ⟨#[97, 49, 48]⟩, .string ⟨#[97, 49, 48]⟩] 9)).alloc (.cells #[.slice none 0 0, .slice (some ⟨w.heap.size, 0, none⟩) 1 1, .slice (some ⟨w.heap.size + 1, 0, none⟩) 2 2, .slice (some ⟨w.heap.size + 2, 0, none⟩) 3 3, .slice (some ⟨w.heap.size + 3, 0, none⟩) 1 1, .slice (some ⟨w.heap.size + 4, 0, none⟩) 2 2] 64)) = w8 at h0 h1 h2 h3 h4 ho hSB hG hz ⊢
  refine (pick_c _ _ _ [0, 1, 1, 2, 2, 3, 4, 5] _ _ K (hSB.alloc _) (by omega) (by decide) (by decide) (Rd.newAt _ hz rfl (by decide)) (hSB.newAt _ _ _ (Nat.le_of_eq hz))).mono ?_; rintro e w2 ⟨a, rfl, ha, hSB2, hG2⟩
  have ha0 : 0 ≤ a ∧ a < 6 := by simp only [List.mem_cons, List.mem_nil_iff, or_false] at ha; omega
  obtain ⟨a0, a1⟩ := ha0
  obtain ⟨j, rfl⟩ := Int.eq_ofNat_of_zero_le a0
  have hj : j < 6 := by omega
  have hf : ∀ i : Nat, i < 7 → some (w.heap.size + i) ≠ some s := fun i _ e => by have := Option.some.inj e; omega
  obtain ⟨v, l, hv, hrd, hln, hvb⟩ := ckOut_at (w := w2) (g := w.heap.size) ((h0.alloc _).grown hG2 (hf 0 (by omega))) ((h1.alloc _).grown hG2 (hf 1 (by omega))) ((h2.alloc _).grown hG2 (hf 2 (by omega))) ((h3.alloc _).grown hG2 (hf 3 (by omega))) ((h4.alloc _).grown hG2 (hf 4 (by omega))) j hj
  have ho2 : Bk w2 (w.heap.size + 5) 64 (ckOut w.heap.size) := (ho.alloc _).grown hG2 (hf 5 (by omega))
  have hcell : w2.cell? ⟨w.heap.size + 5, j, none⟩ = some v := (ho2.cell j).trans hv
  have hG02 := (hG.alloc _).trans hG2
  clear h0 h1 h2 h3 h4 ho hSB hG hG2 ho2 hv ha hf
  go_wp2_with fail
  go_ret
  exact ⟨v, l, rfl, hrd, hln, hvb, hSB2, hG02⟩
end Go.Proofs.YtgofeigebldkiaaDoor
