/- GenW, Ghi, Ghs, Kyf, Hiu, Hat, Hzl, Clx, Odm, Bkf, Tir, Can, Low. -/
import Derived.Test.YtdcofbciebkfkaaDoorZm1
import Derived.Test.YtdcofbciebkfkaaDoorZm5
import Derived.Laws.ResultCell
import Derived.Outline
import Derived.Test.YtdcofbciebkfkaaDoorZm8
import Derived.Test.YtdcofbciebkfkaaDoorZm2
import Derived.Deep.AppendLies
import Derived.Test.YtdcofbciebkfkaaDoorZm6
import Derived.BigQuiet
import Derived.Test.YtdcofbciebkfkaaDoorZm4
import Derived.Deep.CutRange
import Derived.Deep.RegionHeld3
import Derived.StillTailTactics
/- Generator: the time of a hire. -/
namespace Go.Proofs.YtdcofbciebkfkaaDoor
open Go.RowKit

def TimePost (s K : Nat) (w : World) (e : Ending) (w' : World) : Prop :=
  ∃ a z : Int, e = .returned (.agg #[.int .i64 a, .int .i64 z]) ∧ bnd a ∧ bnd z ∧ SB w' s (K + 8) ∧ G w w' (some s)
theorem time_fin {w w3 : World} {s K : Nat} {a z : Int} (hs : s < w.heap.size) (ha : bnd a) (hz : bnd z) (hSB : SB w3 s (K + 8)) (hG : G w w3 (some s)) :
    TimePost s K w (.returned (.agg #[.int .i64 a, .int .i64 z])) (w3.setRow w.heap.size #[.int .i64 a, .int .i64 z]) :=
  ⟨a, z, rfl, ha, hz, hSB.setRow hs _, hG.setRow (.inl (Nat.le_refl _)) _⟩
set_option maxRecDepth 100000 in
set_option maxHeartbeats 2000000 in
theorem time_c (w : World) (s : Nat) (K : Nat) (hs : SB w s K) (hk : K ≤ 900000000000) :
    Calls Tryd.prog 20 #[.pointer (some ⟨s, 0, none⟩)] w (TimePost s K w) := by
  have hslt := hs.lt
  go_enter Tryd.func20, Tryd.ntmps20
  go_wp2_with fail
  refine (pick_c _ _ _ [0, 0, 700, 5040, 5700, 6480, 6500, 8000, 10079, 20000] _ _ K ((hs.alloc _).alloc _) (by omega) (by decide) (by decide) (Rd.newAt _ (by simp) rfl (by decide)) (hs.newAt _ _ _ (by omega))).mono ?_
  rintro e w2 ⟨a, rfl, ha, hSB2, hG2⟩
  have ha0 : 0 ≤ a ∧ a ≤ 20000 := by simp only [List.mem_cons, List.mem_nil_iff, or_false] at ha; omega
  obtain ⟨a0, a1⟩ := ha0
  have hz2 : w.heap.size + 2 ≤ w2.heap.size := by have := hG2.size; simp at this; omega
  have hB2 := ((Bk.new w 30 #[.int .i64 0, .int .i64 0]).alloc (.cells _ 3)).grown hG2 (by simp; omega)
  have hG02 : G w w2 (some s) := (((G.refl w (some s)).alloc _).alloc _).trans hG2
  clear hG2 ha
  go_wp2_with fail
  refine (pick_c _ _ _ [1, 59, 60, 61, 300, 1440, 1441, 1500, 2880, 4320, 5850, 7200, 8641, 10080, 11520, 14800, 21600] _ _ _ (hSB2.alloc _) (by omega) (by decide) (by decide) (Rd.newAt _ rfl rfl (by decide)) (hSB2.newAt _ _ _ (Nat.le_refl _))).mono ?_
  rintro e w3 ⟨d, rfl, hd, hSB3, hG3⟩
  have hd0 : 1 ≤ d ∧ d ≤ 21600 := by simp only [List.mem_cons, List.mem_nil_iff, or_false] at hd; omega
  obtain ⟨d0, d1⟩ := hd0
  have hz3 := hG3.size
  have hB3 := (hB2.alloc (.cells _ 3)).grown hG3 (by simp; omega)
  have hG03 := (hG02.alloc _).trans hG3
  simp at hz3
  clear hG3 hd hB2 hG02 hSB2
  obtain ⟨z, hz⟩ : ∃ z, a + d = z := ⟨_, rfl⟩
  have hzb : 1 ≤ z ∧ z ≤ 41600 := by omega
  obtain ⟨z0, z1⟩ := hzb
  have hN4 := Bk.new w3 30 #[.int .i64 a, .int .i64 z]
  have hSB4 := hSB3.alloc (.cells #[.int .i64 a, .int .i64 z] 30)
  have hB4 := hB3.alloc (.cells #[.int .i64 a, .int .i64 z] 30)
  have hG04 := hG03.alloc (.cells #[.int .i64 a, .int .i64 z] 30)
  have hs3 := hSB3.lt
  have hl3 := hB3.lt
  have hgw : w.heap.size ≤ w3.heap.size := hG03.size
  clear hB3 hG03 hSB3 hz3
  have HZ : Hid (bnd a ∧ bnd z) := Lib.hid (by unfold bnd; omega)
  go_wp2_with fail
  generalize w3.alloc (.cells #[.int .i64 a, .int .i64 z] 30) = w4 at hN4 hSB4 hB4 hG04 ⊢
  generalize w3.heap.size = g at hN4 hs3 hl3 hgw ⊢
  clear hz z0 z1 a0 a1 d0 d1
  refine (flip_c _ _ _ _ hSB4 (by omega) (by omega)).mono ?_; rintro e w5 ⟨q, rfl, hSB5, hG5⟩
  have hN5 := hN4.grown hG5 (fun e => by have := Option.some.inj e; omega)
  have hB5 := hB4.grown hG5 (fun e => by have := Option.some.inj e; omega)
  have hG05 := hG04.trans hG5
  clear hN4 hB4 hG04 hG5 hSB4
  cases q with
  | false =>
    go_wp2_with (first | (refine wpList_load_row rfl 30 _ rfl g rfl 30 #[.int .i64 a, .int .i64 z] (0, 0) _ hN5 Tryd.underlying30 rfl (wi_info a z) ?_) | (refine wpList_store_row rfl 30 _ _ rfl w.heap.size #[.int .i64 a, .int .i64 z] rfl rfl 30 _ hB5 (wi_info a z) rfl (wi_one a z) ?_))
    refine bodyPost_ret (results_cell_row rfl _ _ w.heap.size 30 #[.int .i64 a, .int .i64 z] (0, 0) _ rfl (hB5.setRow _) Tryd.underlying30 rfl (wi_info a z)) rfl ?_
    exact time_fin hslt HZ.out.1 HZ.out.2 (hSB5.le (by omega)) hG05
  | true =>
    go_wp2_with fail
    refine (odd_c _ _ _ _ _ hSB5 (by omega) (by omega) (by omega) (by omega) (by omega)).mono ?_; rintro e w6 ⟨y1, rfl, y10, y11, hSB6, hG6⟩
    have hN6 := hN5.grown hG6 (fun e => by have := Option.some.inj e; omega)
    have hB6 := hB5.grown hG6 (fun e => by have := Option.some.inj e; omega)
    have hG06 := hG05.trans hG6
    clear hN5 hB5 hG05 hG6 hSB5
    go_wp2_with fail
    refine (pick_c _ _ _ [0, 1000, 5761439, 5761440, 172800, 173801] _ _ _ (hSB6.alloc _) (by omega) (by decide) (by decide) (Rd.newAt _ rfl rfl (by decide)) (hSB6.newAt _ _ _ (Nat.le_refl _))).mono ?_; rintro e w7 ⟨y2, rfl, hy2, hSB7, hG7⟩
    have b2 := bnd_pick hy2 (by decide)
    have hN7 := (hN6.alloc _).grown hG7 (fun e => by have := Option.some.inj e; omega)
    have hB7 := (hB6.alloc _).grown hG7 (fun e => by have := Option.some.inj e; omega)
    have hG07 := (hG06.alloc _).trans hG7
    clear hN6 hB6 hG06 hG7 hSB6 hy2
    have hN8 := hN7.setRow #[.int .i64 y1, .int .i64 y2]
    have hB8 := hB7.farRow (show w.heap.size ≠ g by omega) #[.int .i64 y1, .int .i64 y2]
    go_wp2_with (first | (refine wpList_store_row rfl 30 _ _ rfl g #[.int .i64 y1, .int .i64 y2] rfl rfl 30 _ hN7 (wi_info y1 y2) rfl (wi_one y1 y2) ?_) | (refine wpList_load_row rfl 30 _ rfl g rfl 30 #[.int .i64 y1, .int .i64 y2] (0, 0) _ hN8 Tryd.underlying30 rfl (wi_info y1 y2) ?_) | (refine wpList_store_row rfl 30 _ _ rfl w.heap.size #[.int .i64 y1, .int .i64 y2] rfl rfl 30 _ hB8 (wi_info y1 y2) rfl (wi_one y1 y2) ?_))
    refine bodyPost_ret (results_cell_row rfl _ _ w.heap.size 30 #[.int .i64 y1, .int .i64 y2] (0, 0) _ rfl (hB8.setRow _) Tryd.underlying30 rfl (wi_info y1 y2)) rfl ?_
    exact time_fin hslt ⟨y10, y11⟩ b2 ((hSB7.setRow hs3 _).le (by omega)) (hG07.setRow (.inl hgw) _)
end Go.Proofs.YtdcofbciebkfkaaDoor

/- Generator: Hire. Written by genghi.py. -/
namespace Go.Proofs.YtdcofbciebkfkaaDoor
open Go.RowKit

def HirePost (s K : Nat) (w : World) (e : Ending) (w' : World) : Prop :=
  ∃ (H : Hh) (l : List Lg) (a : Option Addr) (c : Nat), e = .returned (.agg (hiC H (.slice a l.length c))) ∧ HSm H l ∧ RdR w' 9 lgC (.slice a l.length c) l ∧ (∀ k, (Value.slice a l.length c).ownBlock = some k → w.heap.size ≤ k) ∧ SB w' s (K + 740) ∧ G w w' (some s)
theorem hi_fin_len {w w3 : World} {s K K' n : Nat} {H : Hh} {l : List Lg} {a : Option Addr} {c : Nat} (hn : l.length = n) (hok : HSm H l) (hR : RdR w3 9 lgC (.slice a n c) l) (hb : ∀ k, (Value.slice a n c).ownBlock = some k → w.heap.size + 1 ≤ k) (hSB : SB w3 s K') (hK : K' ≤ K + 740) (hG : G w w3 (some s)) (hs : s < w.heap.size) :
    HirePost s K w (.returned (.agg (hiC H (.slice a n c)))) (w3.setRow w.heap.size (hiC H (.slice a n c))) := by
  subst hn
  exact ⟨H, l, a, c, rfl, hok, Rd.grown hR ((G.refl w3 (some w.heap.size)).setRow (.inr rfl) _) (fun k e hk => by cases e; have := hb _ hk; omega), fun k e => by have := hb k e; omega, (hSB.setRow hs _).le hK, hG.setRow (.inl (Nat.le_refl _)) _⟩
theorem hi_fin {w w3 : World} {s K K' : Nat} {H : Hh} {l : List Lg} {a : Option Addr} {c : Nat} (hok : HSm H l) (hR : RdR w3 9 lgC (.slice a l.length c) l) (hb : ∀ k, (Value.slice a l.length c).ownBlock = some k → w.heap.size + 1 ≤ k) (hSB : SB w3 s K') (hK : K' ≤ K + 740) (hG : G w w3 (some s)) (hs : s < w.heap.size) :
    HirePost s K w (.returned (.agg (hiC H (.slice a l.length c)))) (w3.setRow w.heap.size (hiC H (.slice a l.length c))) := hi_fin_len rfl hok hR hb hSB hK hG hs
theorem inR_pos {n r : Int} (h : InR n r) (hn : 0 < n) : 0 ≤ r ∧ r < n := by
  unfold InR at h
  omega
theorem LgOk.set {l : List Lg} (h : LgOk l) {x : Lg} (hx : lgB x) (k : Nat) : LgOk (l.set k x) := fun y hy => by
  rcases List.mem_or_eq_of_mem_set hy with hy | rfl
  · exact h y hy
  · exact hx
theorem there_any {α : Type} {T : TypeId} {z : Nat} {c : α → Array Value} (hz : ∀ p, (c p).size = z) {w : World} {base g1 cap k : Nat} {l : List α} {p : α} (h : OwnX T z c w base (.slice (some ⟨g1, 0, none⟩) l.length cap) l) (hp : l[k]? = some p) :
    ∀ j, j < z → (w.cell? ⟨g1, 0 + k * z + j, none⟩).isSome = true ∧ w.frozen? ⟨g1, 0 + k * z + j, none⟩ = false := by
  intro j hj
  obtain ⟨g, cap', cur, e, hB, -⟩ := OwnX.form h (by have := (List.getElem?_eq_some_iff.1 hp).1; omega)
  cases e
  refine ⟨?_, hB.free _⟩
  obtain ⟨u, hu⟩ : ∃ u, (c p).toList[j]? = some u := ⟨_, List.getElem?_eq_getElem (by rw [Array.length_toList, hz]; exact hj)⟩
  rw [RdR.cell hz (Rd.of_owns h) (G.refl w none) hp j u hu]
  rfl
theorem own_setIn {w : World} {base g1 cap k : Nat} {l : List Lg} {p : Lg} (h : OwnLg w base (.slice (some ⟨g1, 0, none⟩) l.length cap) l) (hp : l[k]? = some p) (r : Rg) :
    w.setCells g1 (k * 9 + 5) (#[.int .i64 r.1, .string r.2.1, .int .i64 r.2.2.1, .int .i64 r.2.2.2] : Array Value).toList |>.ownsRow base 79 9 (.slice (some ⟨g1, 0, none⟩) l.length cap) (l.set k (p.1, p.2.1, r)).length (rowL lgC (l.set k (p.1, p.2.1, r))) := by
  have hk := (List.getElem?_eq_some_iff.1 hp).1
  rw [List.length_set]
  have hs : ∀ q : Lg, (l.set k q)[k]? = some q := fun q => by rw [List.getElem?_set_self hk]
  have h1 := OwnX.set lgC_sz h hp 5 (.int .i64 r.1) (by omega) (q := (p.1, p.2.1, (r.1, p.2.2.2))) rfl
  have h2 := OwnX.set lgC_sz h1 (hs _) 6 (.string r.2.1) (by omega) (q := (p.1, p.2.1, (r.1, r.2.1, p.2.2.2.2))) rfl
  rw [List.set_set] at h2
  have h3 := OwnX.set lgC_sz h2 (hs _) 7 (.int .i64 r.2.2.1) (by omega) (q := (p.1, p.2.1, (r.1, r.2.1, r.2.2.1, p.2.2.2.2.2))) rfl
  rw [List.set_set] at h3
  have h4 := OwnX.set lgC_sz h3 (hs _) 8 (.int .i64 r.2.2.2) (by omega) (q := (p.1, p.2.1, r)) rfl
  rw [List.set_set] at h4
  exact h4
set_option maxRecDepth 100000 in
set_option maxHeartbeats 20000000 in
theorem hire_c (w : World) (s K : Nat) (hs : SB w s K) (hk : K ≤ 700000000000) :
    Calls Tryd.prog 11 #[.pointer (some ⟨s, 0, none⟩)] w (HirePost s K w) := by
  have hslt := hs.lt
  go_enter Tryd.func11, Tryd.ntmps11
  go_wp2_with fail
  refine (pick_c _ _ _ [0, 100, 1440] _ _ K ((hs.alloc _).alloc _) (by omega) (by decide) (by decide) (Rd.newAt _ (by simp) rfl (by decide)) (hs.newAt _ _ _ (by simp))).mono ?_; rintro e w1 ⟨f, rfl, hp, hSB1, hG1⟩
  have hfb : 0 ≤ f ∧ f ≤ 1440 := by simp only [List.mem_cons, List.mem_nil_iff, or_false] at hp; omega
  have hB1 := ((Bk.new w 33 HIZ).alloc (.cells _ 3)).grown hG1 (by simp; omega)
  have hG01 : G w w1 (some s) := (((G.refl w (some s)).alloc _).alloc _).trans hG1
  clear hG1 hp hs
  go_wp2_with fail
  refine (rightHire_c ⟨#[104, 49]⟩ f _ s _ (by decide +kernel) (small_of (by decide)) hfb.1 (by omega) hSB1 (by omega)).mono ?_; rintro e w2 ⟨H, l, a8, c8, rfl, hok, hR2, hb2, hSB2, hG2⟩
  have HOK := Lib.hid hok
  have hs2 := hSB2.lt
  have hw1 := hB1.lt
  have hB2 := hB1.grown hG2 (fun e => by have := Option.some.inj e; omega)
  have hw2 := hB2.lt
  have hG02 := hG01.trans hG2
  have HB2 := Lib.hid hb2
  rw [show hiC H (.slice a8 l.length c8) = #[.string H.1, .string H.2.1, .int .i64 H.2.2.1, .int .i64 H.2.2.2, .slice a8 l.length c8] from rfl]
  have hq := (G.refl w2 none).alloc (.cells #[.string H.1, .string H.2.1, .int .i64 H.2.2.1, .int .i64 H.2.2.2, .slice a8 l.length c8] 33)
  have hP := Bk.new w2 33 #[.string H.1, .string H.2.1, .int .i64 H.2.2.1, .int .i64 H.2.2.2, .slice a8 l.length c8]
  have hSB3 := hSB2.quiet hq
  have hB := hB2.quiet hq
  have hG := hG02.trans0 hq
  have hR := Rd.quiet hR2 hq
  clear hb2 hB1 hG01 hSB1 hG2 hSB2 hB2 hG02 hR2 hok hq
  go_upto_region 2 with fail
  generalize w2.alloc (.cells #[.string H.1, .string H.2.1, .int .i64 H.2.2.1, .int .i64 H.2.2.2, .slice a8 l.length c8] 33) = w3 at hP hSB3 hB hG hR ⊢
  have hs3 : s < w2.heap.size := hs2
  have hg3 : w.heap.size < w2.heap.size := hw2
  generalize w2.heap.size = g3 at hP hs3 hg3 ⊢
  clear hs2 hw2
  go_wp2_with fail
  refine (flip_c _ _ _ _ hSB3 (by omega) (by omega)).mono ?_; rintro e w4 ⟨q, rfl, hSB4, hh⟩
  replace hP := hP.grown hh (fun e => by have := Option.some.inj e; omega)
  replace hB := hB.grown hh (fun e => by have := Option.some.inj e; omega)
  replace hR := Rd.grown hR hh (fun k e hk => by cases e; have := HB2.out _ hk; omega)
  replace hG := hG.trans hh
  clear hh hSB3
  cases q with
  | false =>
    have hSB := hSB4
    go_wp2_with (first | (refine wpList_load_row rfl 33 _ rfl (g3) rfl 33 #[.string H.1, .string H.2.1, .int .i64 H.2.2.1, .int .i64 H.2.2.2, .slice a8 l.length c8] (0, 0) _ hP Tryd.underlying33 rfl (hi_info (H.1, H.2.1, H.2.2.1, H.2.2.2) _) ?_) | (refine wpList_store_row rfl 33 _ _ rfl (w.heap.size) #[.string H.1, .string H.2.1, .int .i64 H.2.2.1, .int .i64 H.2.2.2, .slice a8 l.length c8] rfl rfl 33 _ hB (hi_info (H.1, H.2.1, H.2.2.1, H.2.2.2) _) rfl (hi_one (H.1, H.2.1, H.2.2.1, H.2.2.2) _ _ _) ?_))
    refine bodyPost_ret (results_cell_row rfl _ _ w.heap.size 33 #[.string H.1, .string H.2.1, .int .i64 H.2.2.1, .int .i64 H.2.2.2, .slice a8 l.length c8] (0, 0) _ rfl (hB.setRow _) Tryd.underlying33 rfl (hi_info (H.1, H.2.1, H.2.2.1, H.2.2.2) _)) rfl ?_
    exact hi_fin (H := (H.1, H.2.1, H.2.2.1, H.2.2.2)) (l := l) ⟨HOK.out.2.1, HOK.out.2.2.1, HOK.out.2.2.2.1, HOK.out.2.2.2.2.1, HOK.out.2.2.2.2.2, HOK.out.len.2⟩ hR (fun k e => by have := HB2.out k e; omega) hSB (by omega) hG hslt
  | true =>
    have c4 : w4.cell? ⟨g3, 4, none⟩ = some (.slice a8 l.length c8) := hP.cell 4
    go_wp2_with fail
    refine (cloneLg_c _ l _ hR (by have := HOK.out.len.2; omega)).mono ?_; rintro e w5 ⟨v1, rfl, hO, hh⟩
    obtain ⟨g1, cap1, cur, rfl, -, hg1⟩ := OwnX.form hO HOK.out.len.1
    have hb3 := hP.lt
    have hsb := hSB4.lt
    have hwb := hB.lt
    replace hP := hP.quiet hh
    replace hB := hB.quiet hh
    replace hG := hG.trans0 hh
    have hSB5 := hSB4.quiet hh
    clear hh hR c4 hSB4
    generalize w4.heap.size = b3 at hO hg1 hb3 hsb hwb
    have f4 := hP.free 4
    have c4 : w5.cell? ⟨g3, 4, none⟩ = some (.slice a8 l.length c8) := hP.cell 4
    go_upto_region 5 with fail
    replace hP : Bk (w5.setCell ⟨g3, 4, none⟩ (.slice (some ⟨g1, 0, none⟩) l.length cap1)) g3 33 #[.string H.1, .string H.2.1, .int .i64 H.2.2.1, .int .i64 H.2.2.2, .slice (some ⟨g1, 0, none⟩) l.length cap1] := hP.set 4 _
    replace hO := OwnX.far hO (p := ⟨g3, 4, none⟩) (OwnX.ne hO (.inl (by show g3 < b3; omega))) (.slice (some ⟨g1, 0, none⟩) l.length cap1)
    replace hB := hB.far (p := ⟨g3, 4, none⟩) (show w.heap.size ≠ g3 by omega) (.slice (some ⟨g1, 0, none⟩) l.length cap1)
    have hSB6 := hSB5.setCell (p := ⟨g3, 4, none⟩) hs3 (.slice (some ⟨g1, 0, none⟩) l.length cap1)
    replace hG := hG.setCell (p := ⟨g3, 4, none⟩) (.inl (show w.heap.size ≤ g3 by omega)) (.slice (some ⟨g1, 0, none⟩) l.length cap1)
    clear f4 c4 hSB5
    generalize w5.setCell ⟨g3, 4, none⟩ (.slice (some ⟨g1, 0, none⟩) l.length cap1) = w6 at hP hO hB hSB6 hG ⊢
    go_wp2_with fail
    refine (next_c 6 _ s _ hSB6 (by omega) (by omega)).mono ?_; rintro e w7 ⟨r, rfl, hr, hSB7, hh⟩
    replace hP := hP.grown hh (fun e => by have := Option.some.inj e; omega)
    replace hB := hB.grown hh (fun e => by have := Option.some.inj e; omega)
    replace hO := OwnX.kept hO hh (by omega)
    replace hG := hG.trans hh
    have hr2 := inR_pos hr (by omega)
    clear hh hSB6 hr
    rcases (show r = 0 ∨ r = 1 ∨ r = 2 ∨ r = 3 ∨ r = 4 ∨ r = 5 by omega) with rfl | rfl | rfl | rfl | rfl | rfl
    · clear hr2
      go_wp2_with fail
      refine (some_c _ _ _ [⟨#[104, 49]⟩, ⟨#[]⟩, ⟨#[65]⟩] _ _ _ (hSB7.alloc _) (by omega) (by decide) (by decide) (Rd.newAt _ rfl rfl (by decide)) (hSB7.newAt _ _ _ (Nat.le_refl _))).mono ?_; rintro e w8 ⟨x1, rfl, hp, hSB8, hh⟩
      have HX1 := Lib.hid (small_pick hp (by decide))
      clear hp
      have hq := ((G.refl w7 (some s)).alloc (.cells _ 9)).trans hh
      replace hP := hP.grown hq (fun e => by have := Option.some.inj e; omega)
      replace hB := hB.grown hq (fun e => by have := Option.some.inj e; omega)
      replace hO := OwnX.kept hO hq (by omega)
      replace hG := hG.trans hq
      clear hh hq
      go_wp2_with fail
      refine (some_c _ _ _ [⟨#[97, 110, 110]⟩, ⟨#[]⟩] _ _ _ (hSB8.alloc _) (by omega) (by decide) (by decide) (Rd.newAt _ rfl rfl (by decide)) (hSB8.newAt _ _ _ (Nat.le_refl _))).mono ?_; rintro e w9 ⟨x2, rfl, hp, hSB, hh⟩
      have HX2 := Lib.hid (small_pick hp (by decide))
      clear hp
      have hq := ((G.refl w8 (some s)).alloc (.cells _ 9)).trans hh
      replace hP := hP.grown hq (fun e => by have := Option.some.inj e; omega)
      replace hB := hB.grown hq (fun e => by have := Option.some.inj e; omega)
      replace hO := OwnX.kept hO hq (by omega)
      replace hG := hG.trans hq
      clear hh hq
      have hs9 := hSB.lt
      have f0 := hP.free 0
      have f1 := hP.free 1
      have y0 : w9.cell? ⟨g3, 0, none⟩ = some (.string H.1) := hP.cell 0
      have y1 : w9.cell? ⟨g3, 1, none⟩ = some (.string H.2.1) := hP.cell 1
      go_upto_region 20 with fail
      replace hP : Bk ((w9.setCell ⟨g3, 0, none⟩ (.string x1)).setCell ⟨g3, 1, none⟩ (.string x2)) g3 33 #[.string x1, .string x2, .int .i64 H.2.2.1, .int .i64 H.2.2.2, .slice (some ⟨g1, 0, none⟩) l.length cap1] := (hP.set 0 (.string x1)).set 1 (.string x2)
      replace hO := OwnX.far (OwnX.far hO (p := ⟨g3, 0, none⟩) (OwnX.ne hO (.inl (by show g3 < b3; omega))) (.string x1)) (p := ⟨g3, 1, none⟩) (OwnX.ne (OwnX.far hO (p := ⟨g3, 0, none⟩) (OwnX.ne hO (.inl (by show g3 < b3; omega))) (.string x1)) (.inl (by show g3 < b3; omega))) (.string x2)
      replace hB := (hB.far (p := ⟨g3, 0, none⟩) (show w.heap.size ≠ g3 by omega) (.string x1)).far (p := ⟨g3, 1, none⟩) (show w.heap.size ≠ g3 by omega) (.string x2)
      replace hSB := (hSB.setCell (p := ⟨g3, 0, none⟩) hs3 (.string x1)).setCell (p := ⟨g3, 1, none⟩) hs3 (.string x2)
      replace hG := (hG.setCell (p := ⟨g3, 0, none⟩) (.inl (show w.heap.size ≤ g3 by omega)) (.string x1)).setCell (p := ⟨g3, 1, none⟩) (.inl (show w.heap.size ≤ g3 by omega)) (.string x2)
      clear y0 y1 f0 f1
      generalize (w9.setCell ⟨g3, 0, none⟩ (.string x1)).setCell ⟨g3, 1, none⟩ (.string x2) = wz at hP hO hB hSB hG ⊢
      go_wp2_with (first | (refine wpList_load_row rfl 33 _ rfl (g3) rfl 33 #[.string x1, .string x2, .int .i64 H.2.2.1, .int .i64 H.2.2.2, .slice (some ⟨g1, 0, none⟩) l.length cap1] (0, 0) _ hP Tryd.underlying33 rfl (hi_info (x1, x2, H.2.2.1, H.2.2.2) _) ?_) | (refine wpList_store_row rfl 33 _ _ rfl (w.heap.size) #[.string x1, .string x2, .int .i64 H.2.2.1, .int .i64 H.2.2.2, .slice (some ⟨g1, 0, none⟩) l.length cap1] rfl rfl 33 _ hB (hi_info (x1, x2, H.2.2.1, H.2.2.2) _) rfl (hi_one (x1, x2, H.2.2.1, H.2.2.2) _ _ _) ?_))
      refine bodyPost_ret (results_cell_row rfl _ _ w.heap.size 33 #[.string x1, .string x2, .int .i64 H.2.2.1, .int .i64 H.2.2.2, .slice (some ⟨g1, 0, none⟩) l.length cap1] (0, 0) _ rfl (hB.setRow _) Tryd.underlying33 rfl (hi_info (x1, x2, H.2.2.1, H.2.2.2) _)) rfl ?_
      exact hi_fin (H := (x1, x2, H.2.2.1, H.2.2.2)) (l := l) ⟨HOK.out.2.1, HX1.out, HX2.out, HOK.out.2.2.2.2.1, HOK.out.2.2.2.2.2, HOK.out.len.2⟩ (Rd.of_owns hO) (fun k e => by have := OwnX.low hO k e; omega) hSB (by omega) hG hslt
    · clear hr2
      go_wp2_with fail
      refine (time_c _ s _ hSB7 (by omega)).mono ?_; rintro e w8 ⟨z1, z2, rfl, hz1, hz2, hSB, hh⟩
      have HZ := Lib.hid (And.intro hz1 hz2)
      clear hz1 hz2
      replace hP := hP.grown hh (fun e => by have := Option.some.inj e; omega)
      replace hB := hB.grown hh (fun e => by have := Option.some.inj e; omega)
      replace hO := OwnX.kept hO hh (by omega)
      replace hG := hG.trans hh
      clear hh
      have f2 := hP.free 2
      have f3 := hP.free 3
      have y2 : w8.cell? ⟨g3, 2, none⟩ = some (.int .i64 H.2.2.1) := hP.cell 2
      have y3 : w8.cell? ⟨g3, 3, none⟩ = some (.int .i64 H.2.2.2) := hP.cell 3
      go_upto_region 20 with fail
      have hq : G w8 ((w8.setCell ⟨g3, 2, none⟩ (.int .i64 z1)).setCell ⟨g3, 3, none⟩ (.int .i64 z2)) (some g3) := G.setCells g3 [.int .i64 z1, .int .i64 z2] 2 w8
      replace hP : Bk ((w8.setCell ⟨g3, 2, none⟩ (.int .i64 z1)).setCell ⟨g3, 3, none⟩ (.int .i64 z2)) g3 33 #[.string H.1, .string H.2.1, .int .i64 z1, .int .i64 z2, .slice (some ⟨g1, 0, none⟩) l.length cap1] := (hP.set 2 (.int .i64 z1)).set 3 (.int .i64 z2)
      replace hO := World.ownsRow.kept hO hq (.inr fun e => by have := (World.ownsRow.lt hO g3 e).1; omega)
      replace hB := hB.grown hq (fun e => by have := Option.some.inj e; omega)
      replace hSB := hSB.far hq (by omega)
      replace hG := hG.other hq (fun j e => by cases e; exact .inl (by omega))
      clear hq f2 f3 y2 y3
      generalize (w8.setCell ⟨g3, 2, none⟩ (.int .i64 z1)).setCell ⟨g3, 3, none⟩ (.int .i64 z2) = wz at hP hO hB hSB hG ⊢
      go_wp2_with (first | (refine wpList_load_row rfl 33 _ rfl (g3) rfl 33 #[.string H.1, .string H.2.1, .int .i64 z1, .int .i64 z2, .slice (some ⟨g1, 0, none⟩) l.length cap1] (0, 0) _ hP Tryd.underlying33 rfl (hi_info (H.1, H.2.1, z1, z2) _) ?_) | (refine wpList_store_row rfl 33 _ _ rfl (w.heap.size) #[.string H.1, .string H.2.1, .int .i64 z1, .int .i64 z2, .slice (some ⟨g1, 0, none⟩) l.length cap1] rfl rfl 33 _ hB (hi_info (H.1, H.2.1, z1, z2) _) rfl (hi_one (H.1, H.2.1, z1, z2) _ _ _) ?_))
      refine bodyPost_ret (results_cell_row rfl _ _ w.heap.size 33 #[.string H.1, .string H.2.1, .int .i64 z1, .int .i64 z2, .slice (some ⟨g1, 0, none⟩) l.length cap1] (0, 0) _ rfl (hB.setRow _) Tryd.underlying33 rfl (hi_info (H.1, H.2.1, z1, z2) _)) rfl ?_
      exact hi_fin (H := (H.1, H.2.1, z1, z2)) (l := l) ⟨HOK.out.2.1, HOK.out.2.2.1, HOK.out.2.2.2.1, HZ.out.1, HZ.out.2, HOK.out.len.2⟩ (Rd.of_owns hO) (fun k e => by have := OwnX.low hO k e; omega) hSB (by omega) hG hslt
    · clear hr2
      have hSB := hSB7
      have f4 := hP.free 4
      have y4 : w7.cell? ⟨g3, 4, none⟩ = some (.slice (some ⟨g1, 0, none⟩) l.length cap1) := hP.cell 4
      go_upto_region 20 with fail
      replace hP : Bk (w7.setCell ⟨g3, 4, none⟩ (.slice none 0 0)) g3 33 #[.string H.1, .string H.2.1, .int .i64 H.2.2.1, .int .i64 H.2.2.2, .slice none 0 0] := hP.set 4 (.slice none 0 0)
      replace hB := hB.far (p := ⟨g3, 4, none⟩) (show w.heap.size ≠ g3 by omega) (.slice none 0 0)
      replace hSB := hSB.setCell (p := ⟨g3, 4, none⟩) hs3 (.slice none 0 0)
      replace hG := hG.setCell (p := ⟨g3, 4, none⟩) (.inl (show w.heap.size ≤ g3 by omega)) (.slice none 0 0)
      clear y4 f4 hSB7 hO
      generalize w7.setCell ⟨g3, 4, none⟩ (.slice none 0 0) = wz at hP hB hSB hG ⊢
      go_wp2_with (first | (refine wpList_load_row rfl 33 _ rfl (g3) rfl 33 #[.string H.1, .string H.2.1, .int .i64 H.2.2.1, .int .i64 H.2.2.2, .slice none 0 0] (0, 0) _ hP Tryd.underlying33 rfl (hi_info (H.1, H.2.1, H.2.2.1, H.2.2.2) _) ?_) | (refine wpList_store_row rfl 33 _ _ rfl (w.heap.size) #[.string H.1, .string H.2.1, .int .i64 H.2.2.1, .int .i64 H.2.2.2, .slice none 0 0] rfl rfl 33 _ hB (hi_info (H.1, H.2.1, H.2.2.1, H.2.2.2) _) rfl (hi_one (H.1, H.2.1, H.2.2.1, H.2.2.2) _ _ _) ?_))
      refine bodyPost_ret (results_cell_row rfl _ _ w.heap.size 33 #[.string H.1, .string H.2.1, .int .i64 H.2.2.1, .int .i64 H.2.2.2, .slice none 0 0] (0, 0) _ rfl (hB.setRow _) Tryd.underlying33 rfl (hi_info (H.1, H.2.1, H.2.2.1, H.2.2.2) _)) rfl ?_
      exact hi_fin (H := (H.1, H.2.1, H.2.2.1, H.2.2.2)) (l := []) ⟨(fun x hx => by cases hx), HOK.out.2.2.1, HOK.out.2.2.2.1, HOK.out.2.2.2.2.1, HOK.out.2.2.2.2.2, by simp⟩ (RdR.nil _ _ _) (fun k e => by cases e) hSB (by omega) hG hslt
    · clear hr2
      go_upto_region 15 with fail
      have hq := (G.refl w7 none).drew
      have hSB8 := hSB7.quiet hq
      replace hP := hP.quiet hq
      replace hB := hB.quiet hq
      replace hO := OwnX.quiet hO hq
      replace hG := hG.trans0 hq
      clear hq hSB7
      refine wp_region_held_drew (S := (fun w' => w'.cell? ⟨g3, 4, none⟩ = some (.slice (some ⟨g1, 0, none⟩) l.length cap1))) (by kernel_rfl) ?_ (fun hHeld => ?_)
      · exact hP.cell 4
      refine wpAnyH_take (i := 0) (oi := { dst := some 57, op := Op.fieldAddr 33 (Operand.tmp 3) 3, type := 0, pos := _, after := #[], guard := none }) (v := ?_) rfl (by kernel_rfl) (by kernel_rfl) (by kernel_rfl) (fun _ _ _ h => h) (Or.inl ⟨by rfl, ?_⟩) (by assumption) ?_
      rotate_left
      · (intro w hSw; (go_simp <;> with_reducible rfl))
      try simp only [Act.put, List.setIfInBounds_toArray, List.set_cons_zero, List.set_cons_succ]
      refine wpAnyH_take (i := 1) (oi := { dst := some 58, op := Op.load 31 (Operand.tmp 57), type := 31, pos := _, after := #[{ on := 0, ground := Ground.data }], guard := none }) (v := ?_) rfl (by kernel_rfl) (by kernel_rfl) (by kernel_rfl) (fun _ _ _ h => h) (Or.inl ⟨by rfl, ?_⟩) (by assumption) ?_
      rotate_left
      · (intro w hSw; (go_simp <;> with_reducible rfl))
      try simp only [Act.put, List.setIfInBounds_toArray, List.set_cons_zero, List.set_cons_succ]
      refine wpAnyH_take (i := 2) (oi := { dst := some 59, op := Op.move (Operand.tmp 0), type := 23, pos := _, after := #[], guard := none }) (v := ?_) rfl (by kernel_rfl) (by kernel_rfl) (by kernel_rfl) (fun _ _ _ h => h) (Or.inl ⟨by rfl, ?_⟩) (by assumption) ?_
      rotate_left
      · (intro w hSw; (go_simp <;> with_reducible rfl))
      try simp only [Act.put, List.setIfInBounds_toArray, List.set_cons_zero, List.set_cons_succ]
      refine wpAnyH_take (i := 3) (oi := { dst := some 60, op := Op.fieldAddr 33 (Operand.tmp 3) 3, type := 0, pos := _, after := #[], guard := none }) (v := ?_) rfl (by kernel_rfl) (by kernel_rfl) (by kernel_rfl) (fun _ _ _ h => h) (Or.inl ⟨by rfl, ?_⟩) (by assumption) ?_
      rotate_left
      · (intro w hSw; (go_simp <;> with_reducible rfl))
      try simp only [Act.put, List.setIfInBounds_toArray, List.set_cons_zero, List.set_cons_succ]
      refine wpAnyH_take (i := 4) (oi := { dst := some 61, op := Op.load 31 (Operand.tmp 60), type := 31, pos := _, after := #[{ on := 3, ground := Ground.data }], guard := none }) (v := ?_) rfl (by kernel_rfl) (by kernel_rfl) (by kernel_rfl) (fun _ _ _ h => h) (Or.inl ⟨by rfl, ?_⟩) (by assumption) ?_
      rotate_left
      · (intro w hSw; (go_simp <;> with_reducible rfl))
      try simp only [Act.put, List.setIfInBounds_toArray, List.set_cons_zero, List.set_cons_succ]
      refine wpAnyH_take (i := 5) (oi := { dst := some 62, op := Op.call { callee := Callee.builtin Builtin.len, args := #[Operand.tmp 61], argTypes := #[31] }, type := 3, pos := _, after := #[{ on := 4, ground := Ground.data }], guard := none }) (v := ?_) rfl (by kernel_rfl) (by kernel_rfl) (by kernel_rfl) (fun _ _ _ h => h) (Or.inl ⟨by rfl, ?_⟩) (by assumption) ?_
      rotate_left
      · (intro w hSw; (go_simp <;> with_reducible rfl))
      try simp only [Act.put, List.setIfInBounds_toArray, List.set_cons_zero, List.set_cons_succ]
      refine wpAnyH_ready (rs := [6]) (by kernel_rfl) (by simp) ?_
      refine AllReadyH.cons (o := { dst := some 63, op := Op.call { callee := Callee.value (Operand.func 81), args := #[Operand.tmp 59, Operand.tmp 62], argTypes := #[23, 3] }, type := 3, pos := _, after := #[{ on := 2, ground := Ground.data }, { on := 5, ground := Ground.data }], guard := none }) rfl (fun K hK => ?_) AllReadyH.nil
      go_simp
      refine (next_c (l.length : Int) _ s _ hSB8 (by omega) (by have := HOK.out.len.2; omega)).mono ?_
      rintro e w9 ⟨k, rfl, hk, hSB9, hh⟩
      replace hP := hP.grown hh (fun e => by have := Option.some.inj e; omega)
      replace hB := hB.grown hh (fun e => by have := Option.some.inj e; omega)
      replace hO := OwnX.kept hO hh (by omega)
      replace hG := hG.trans hh
      have hk2 := inR_pos hk (by have := HOK.out.len.1; omega)
      obtain ⟨k, rfl⟩ := Int.eq_ofNat_of_zero_le hk2.1
      have hkl : k < l.length := by omega
      have hki : (k : Int) < (l.length : Int) := by omega
      clear hh hSB8 hk hk2
      refine hK.out _ _ ?_ (fun hHeld => ?_)
      · exact hP.cell 4
      clear hK K
      try simp only [Act.put, List.setIfInBounds_toArray, List.set_cons_zero, List.set_cons_succ]
      refine wpAnyH_take (i := 7) (oi := { dst := some 64, op := Op.indexAddr 31 (Operand.tmp 58) (Operand.tmp 63), type := 0, pos := _, after := #[{ on := 1, ground := Ground.data }, { on := 6, ground := Ground.data }], guard := none }) (v := ?_) rfl (by kernel_rfl) (by kernel_rfl) (by kernel_rfl) (fun _ _ _ h => h) (Or.inl ⟨by rfl, ?_⟩) (by assumption) ?_
      rotate_left
      · (intro w hSw; (go_simp <;> with_reducible rfl))
      try simp only [Act.put, List.setIfInBounds_toArray, List.set_cons_zero, List.set_cons_succ]
      refine wpAnyH_take (i := 8) (oi := { dst := some 4, op := Op.assign (Operand.tmp 64), type := 123, pos := _, after := #[{ on := 7, ground := Ground.data }, { on := 6, ground := Ground.chain }, { on := 0, ground := Ground.phase }, { on := 1, ground := Ground.phase }, { on := 2, ground := Ground.phase }, { on := 3, ground := Ground.phase }, { on := 4, ground := Ground.phase }, { on := 5, ground := Ground.phase }, { on := 6, ground := Ground.phase }, { on := 7, ground := Ground.phase }], guard := none }) (v := ?_) rfl (by kernel_rfl) (by kernel_rfl) (by kernel_rfl) (fun _ _ _ h => h) (Or.inl ⟨by rfl, ?_⟩) (by assumption) ?_
      rotate_left
      · (intro w hSw; (go_simp <;> with_reducible rfl))
      try simp only [Act.put, List.setIfInBounds_toArray, List.set_cons_zero, List.set_cons_succ]
      refine wpAnyH_done (by kernel_rfl) ?_ _
      obtain ⟨p, hp⟩ : ∃ p, l[k]? = some p := ⟨_, List.getElem?_eq_getElem hkl⟩
      have HP := Lib.hid hp
      have HKL := Lib.hid hkl
      clear hp hkl
      go_wp2_with fail
      refine (some_c _ _ _ [⟨#[118, 49]⟩, ⟨#[]⟩, ⟨#[65]⟩] _ _ _ (hSB9.alloc _) (by omega) (by decide) (by decide) (Rd.newAt _ rfl rfl (by decide)) (hSB9.newAt _ _ _ (Nat.le_refl _))).mono ?_; rintro e wa ⟨x1, rfl, hq1, hSBa, hh⟩
      have HX1 := Lib.hid (small_pick hq1 (by decide))
      clear hq1
      have hq := ((G.refl w9 (some s)).alloc (.cells _ 9)).trans hh
      replace hP := hP.grown hq (fun e => by have := Option.some.inj e; omega)
      replace hB := hB.grown hq (fun e => by have := Option.some.inj e; omega)
      replace hO := OwnX.kept hO hq (by omega)
      replace hG := hG.trans hq
      clear hh hq
      go_wp2_with fail
      refine (odd_c _ _ _ _ _ hSBa (by omega) (by omega) (by omega) (by omega) (by omega)).mono ?_; rintro e wb ⟨z, rfl, z0, z1, hSB, hh⟩
      clear z0 z1
      replace hP := hP.grown hh (fun e => by have := Option.some.inj e; omega)
      replace hB := hB.grown hh (fun e => by have := Option.some.inj e; omega)
      replace hO := OwnX.kept hO hh (by omega)
      replace hG := hG.trans hh
      clear hh
      have HT := Lib.hid (there_any (z := 9) lgC_sz hO HP.out)
      have f0 := (HT.out 0 (by omega)).2
      have f1 := (HT.out 1 (by omega)).2
      have y0 := RdR.cell lgC_sz (Rd.of_owns hO) (G.refl wb none) HP.out 0 (.string p.1) rfl
      have y1 := RdR.cell lgC_sz (Rd.of_owns hO) (G.refl wb none) HP.out 1 (.int .i64 p.2.1.1) rfl
      simp only [Nat.zero_add, Nat.add_zero] at f0 f1 y0 y1
      go_upto_region 20 with fail
      have hO1 := OwnX.set lgC_sz hO HP.out 0 (.string x1) (by omega) (q := (x1, p.2.1, p.2.2)) rfl
      have hO2 := OwnX.set lgC_sz hO1 (show (l.set k (x1, p.2.1, p.2.2))[k]? = some (x1, p.2.1, p.2.2) by rw [List.getElem?_set_self HKL.out]) 1 (.int .i64 z) (by omega) (q := (x1, (z, p.2.1.2), p.2.2)) rfl
      rw [List.set_set] at hO2
      simp only [Nat.add_zero] at hO1 hO2
      have hq : G wb ((wb.setCell ⟨g1, k * 9, none⟩ (.string x1)).setCell ⟨g1, k * 9 + 1, none⟩ (.int .i64 z)) (some g1) := ((G.refl wb (some g1)).setCell (p := ⟨g1, k * 9, none⟩) (.inr rfl) _).setCell (p := ⟨g1, k * 9 + 1, none⟩) (.inr rfl) _
      replace hP := hP.grown hq (fun e => by have := Option.some.inj e; omega)
      replace hB := hB.grown hq (fun e => by have := Option.some.inj e; omega)
      replace hSB := hSB.far hq (by omega)
      replace hG := hG.other hq (fun j e => by cases e; exact .inl (by omega))
      have hR : RdR ((wb.setCell ⟨g1, k * 9, none⟩ (.string x1)).setCell ⟨g1, k * 9 + 1, none⟩ (.int .i64 z)) 9 lgC (.slice (some ⟨g1, 0, none⟩) l.length cap1) (l.set k (x1, (z, p.2.1.2), p.2.2)) := by
        have := Rd.of_owns hO2
        unfold RdR
        rw [List.length_set]
        exact this
      clear y0 y1 f0 f1 HT hO hO1 hO2 hq
      generalize (wb.setCell ⟨g1, k * 9, none⟩ (.string x1)).setCell ⟨g1, k * 9 + 1, none⟩ (.int .i64 z) = wz at hP hR hB hSB hG ⊢
      go_wp2_with (first | (refine wpList_load_row rfl 33 _ rfl (g3) rfl 33 #[.string H.1, .string H.2.1, .int .i64 H.2.2.1, .int .i64 H.2.2.2, .slice (some ⟨g1, 0, none⟩) l.length cap1] (0, 0) _ hP Tryd.underlying33 rfl (hi_info (H.1, H.2.1, H.2.2.1, H.2.2.2) _) ?_) | (refine wpList_store_row rfl 33 _ _ rfl (w.heap.size) #[.string H.1, .string H.2.1, .int .i64 H.2.2.1, .int .i64 H.2.2.2, .slice (some ⟨g1, 0, none⟩) l.length cap1] rfl rfl 33 _ hB (hi_info (H.1, H.2.1, H.2.2.1, H.2.2.2) _) rfl (hi_one (H.1, H.2.1, H.2.2.1, H.2.2.2) _ _ _) ?_))
      refine bodyPost_ret (results_cell_row rfl _ _ w.heap.size 33 #[.string H.1, .string H.2.1, .int .i64 H.2.2.1, .int .i64 H.2.2.2, .slice (some ⟨g1, 0, none⟩) l.length cap1] (0, 0) _ rfl (hB.setRow _) Tryd.underlying33 rfl (hi_info (H.1, H.2.1, H.2.2.1, H.2.2.2) _)) rfl ?_
      refine hi_fin_len (H := (H.1, H.2.1, H.2.2.1, H.2.2.2)) (List.length_set ..) (l := l.set k (x1, (z, p.2.1.2), p.2.2)) ⟨LgOk.set HOK.out.2.1 (x := (x1, (z, p.2.1.2), p.2.2)) ⟨HX1.out, (HOK.out.2.1 p (List.mem_of_getElem? HP.out)).2.1, (HOK.out.2.1 p (List.mem_of_getElem? HP.out)).2.2⟩ k, HOK.out.2.2.1, HOK.out.2.2.2.1, HOK.out.2.2.2.2.1, HOK.out.2.2.2.2.2, by rw [List.length_set]; exact HOK.out.len.2⟩ hR (fun k e => by have e : g1 = k := Option.some.inj e; omega) hSB (by omega) hG hslt
    · clear hr2
      go_upto_region 18 with fail
      have hq := (G.refl w7 none).drew
      have hSB8 := hSB7.quiet hq
      replace hP := hP.quiet hq
      replace hB := hB.quiet hq
      replace hO := OwnX.quiet hO hq
      replace hG := hG.trans0 hq
      clear hq hSB7
      refine wp_region_held_drew (S := (fun w' => w'.cell? ⟨g3, 4, none⟩ = some (.slice (some ⟨g1, 0, none⟩) l.length cap1))) (by kernel_rfl) ?_ (fun hHeld => ?_)
      · exact hP.cell 4
      refine wpAnyH_take (i := 0) (oi := { dst := some 79, op := Op.fieldAddr 33 (Operand.tmp 3) 3, type := 0, pos := _, after := #[], guard := none }) (v := ?_) rfl (by kernel_rfl) (by kernel_rfl) (by kernel_rfl) (fun _ _ _ h => h) (Or.inl ⟨by rfl, ?_⟩) (by assumption) ?_
      rotate_left
      · (intro w hSw; (go_simp <;> with_reducible rfl))
      try simp only [Act.put, List.setIfInBounds_toArray, List.set_cons_zero, List.set_cons_succ]
      refine wpAnyH_take (i := 1) (oi := { dst := some 80, op := Op.load 31 (Operand.tmp 79), type := 31, pos := _, after := #[{ on := 0, ground := Ground.data }], guard := none }) (v := ?_) rfl (by kernel_rfl) (by kernel_rfl) (by kernel_rfl) (fun _ _ _ h => h) (Or.inl ⟨by rfl, ?_⟩) (by assumption) ?_
      rotate_left
      · (intro w hSw; (go_simp <;> with_reducible rfl))
      try simp only [Act.put, List.setIfInBounds_toArray, List.set_cons_zero, List.set_cons_succ]
      refine wpAnyH_take (i := 2) (oi := { dst := some 81, op := Op.move (Operand.tmp 0), type := 23, pos := _, after := #[], guard := none }) (v := ?_) rfl (by kernel_rfl) (by kernel_rfl) (by kernel_rfl) (fun _ _ _ h => h) (Or.inl ⟨by rfl, ?_⟩) (by assumption) ?_
      rotate_left
      · (intro w hSw; (go_simp <;> with_reducible rfl))
      try simp only [Act.put, List.setIfInBounds_toArray, List.set_cons_zero, List.set_cons_succ]
      refine wpAnyH_take (i := 3) (oi := { dst := some 82, op := Op.fieldAddr 33 (Operand.tmp 3) 3, type := 0, pos := _, after := #[], guard := none }) (v := ?_) rfl (by kernel_rfl) (by kernel_rfl) (by kernel_rfl) (fun _ _ _ h => h) (Or.inl ⟨by rfl, ?_⟩) (by assumption) ?_
      rotate_left
      · (intro w hSw; (go_simp <;> with_reducible rfl))
      try simp only [Act.put, List.setIfInBounds_toArray, List.set_cons_zero, List.set_cons_succ]
      refine wpAnyH_take (i := 4) (oi := { dst := some 83, op := Op.load 31 (Operand.tmp 82), type := 31, pos := _, after := #[{ on := 3, ground := Ground.data }], guard := none }) (v := ?_) rfl (by kernel_rfl) (by kernel_rfl) (by kernel_rfl) (fun _ _ _ h => h) (Or.inl ⟨by rfl, ?_⟩) (by assumption) ?_
      rotate_left
      · (intro w hSw; (go_simp <;> with_reducible rfl))
      try simp only [Act.put, List.setIfInBounds_toArray, List.set_cons_zero, List.set_cons_succ]
      refine wpAnyH_take (i := 5) (oi := { dst := some 84, op := Op.call { callee := Callee.builtin Builtin.len, args := #[Operand.tmp 83], argTypes := #[31] }, type := 3, pos := _, after := #[{ on := 4, ground := Ground.data }], guard := none }) (v := ?_) rfl (by kernel_rfl) (by kernel_rfl) (by kernel_rfl) (fun _ _ _ h => h) (Or.inl ⟨by rfl, ?_⟩) (by assumption) ?_
      rotate_left
      · (intro w hSw; (go_simp <;> with_reducible rfl))
      try simp only [Act.put, List.setIfInBounds_toArray, List.set_cons_zero, List.set_cons_succ]
      refine wpAnyH_ready (rs := [6]) (by kernel_rfl) (by simp) ?_
      refine AllReadyH.cons (o := { dst := some 85, op := Op.call { callee := Callee.value (Operand.func 81), args := #[Operand.tmp 81, Operand.tmp 84], argTypes := #[23, 3] }, type := 3, pos := _, after := #[{ on := 2, ground := Ground.data }, { on := 5, ground := Ground.data }], guard := none }) rfl (fun K hK => ?_) AllReadyH.nil
      go_simp
      refine (next_c (l.length : Int) _ s _ hSB8 (by omega) (by have := HOK.out.len.2; omega)).mono ?_
      rintro e w9 ⟨k, rfl, hk, hSB9, hh⟩
      replace hP := hP.grown hh (fun e => by have := Option.some.inj e; omega)
      replace hB := hB.grown hh (fun e => by have := Option.some.inj e; omega)
      replace hO := OwnX.kept hO hh (by omega)
      replace hG := hG.trans hh
      have hk2 := inR_pos hk (by have := HOK.out.len.1; omega)
      obtain ⟨k, rfl⟩ := Int.eq_ofNat_of_zero_le hk2.1
      have hkl : k < l.length := by omega
      have hki : (k : Int) < (l.length : Int) := by omega
      clear hh hSB8 hk hk2
      refine hK.out _ _ ?_ (fun hHeld => ?_)
      · exact hP.cell 4
      clear hK K
      try simp only [Act.put, List.setIfInBounds_toArray, List.set_cons_zero, List.set_cons_succ]
      refine wpAnyH_take (i := 7) (oi := { dst := some 86, op := Op.indexAddr 31 (Operand.tmp 80) (Operand.tmp 85), type := 0, pos := _, after := #[{ on := 1, ground := Ground.data }, { on := 6, ground := Ground.data }], guard := none }) (v := ?_) rfl (by kernel_rfl) (by kernel_rfl) (by kernel_rfl) (fun _ _ _ h => h) (Or.inl ⟨by rfl, ?_⟩) (by assumption) ?_
      rotate_left
      · (intro w hSw; (go_simp <;> with_reducible rfl))
      try simp only [Act.put, List.setIfInBounds_toArray, List.set_cons_zero, List.set_cons_succ]
      refine wpAnyH_take (i := 8) (oi := { dst := some 5, op := Op.assign (Operand.tmp 86), type := 123, pos := _, after := #[{ on := 7, ground := Ground.data }, { on := 6, ground := Ground.chain }, { on := 0, ground := Ground.phase }, { on := 1, ground := Ground.phase }, { on := 2, ground := Ground.phase }, { on := 3, ground := Ground.phase }, { on := 4, ground := Ground.phase }, { on := 5, ground := Ground.phase }, { on := 6, ground := Ground.phase }, { on := 7, ground := Ground.phase }], guard := none }) (v := ?_) rfl (by kernel_rfl) (by kernel_rfl) (by kernel_rfl) (fun _ _ _ h => h) (Or.inl ⟨by rfl, ?_⟩) (by assumption) ?_
      rotate_left
      · (intro w hSw; (go_simp <;> with_reducible rfl))
      try simp only [Act.put, List.setIfInBounds_toArray, List.set_cons_zero, List.set_cons_succ]
      refine wpAnyH_done (by kernel_rfl) ?_ _
      obtain ⟨p, hp⟩ : ∃ p, l[k]? = some p := ⟨_, List.getElem?_eq_getElem hkl⟩
      have HP := Lib.hid hp
      have HKL := Lib.hid hkl
      clear hp hkl
      go_wp2_with fail
      refine (pick_c _ _ _ [-1, 0, 100, 5000] _ _ _ (hSB9.alloc _) (by omega) (by decide) (by decide) (Rd.newAt _ rfl rfl (by decide)) (hSB9.newAt _ _ _ (Nat.le_refl _))).mono ?_; rintro e wa ⟨z, rfl, hq1, hSBa, hh⟩
      have HZ := Lib.hid (bnd_pick hq1 (by decide))
      clear hq1
      have hq := ((G.refl w9 (some s)).alloc (.cells _ 3)).trans hh
      replace hP := hP.grown hq (fun e => by have := Option.some.inj e; omega)
      replace hB := hB.grown hq (fun e => by have := Option.some.inj e; omega)
      replace hO := OwnX.kept hO hq (by omega)
      replace hG := hG.trans hq
      clear hh hq
      go_wp2_with fail
      refine (reading_c z _ s _ HZ.out hSBa (by omega)).mono ?_; rintro e wb ⟨⟨r1, r2, r3, r4⟩, rfl, hr, hSB, hh⟩
      have HR := Lib.hid hr
      clear hr
      rw [show rgC (r1, r2, r3, r4) = #[.int .i64 r1, .string r2, .int .i64 r3, .int .i64 r4] from rfl]
      replace hP := hP.grown hh (fun e => by have := Option.some.inj e; omega)
      replace hB := hB.grown hh (fun e => by have := Option.some.inj e; omega)
      replace hO := OwnX.kept hO hh (by omega)
      replace hG := hG.trans hh
      clear hh
      have HT := Lib.hid (there_any (z := 9) lgC_sz hO HP.out)
      have f5 := (HT.out 5 (by omega)).2
      have y5 := RdR.cell lgC_sz (Rd.of_owns hO) (G.refl wb none) HP.out 5 (.int .i64 p.2.2.1) rfl
      have f6 := (HT.out 6 (by omega)).2
      have y6 := RdR.cell lgC_sz (Rd.of_owns hO) (G.refl wb none) HP.out 6 (.string p.2.2.2.1) rfl
      have f7 := (HT.out 7 (by omega)).2
      have y7 := RdR.cell lgC_sz (Rd.of_owns hO) (G.refl wb none) HP.out 7 (.int .i64 p.2.2.2.2.1) rfl
      have f8 := (HT.out 8 (by omega)).2
      have y8 := RdR.cell lgC_sz (Rd.of_owns hO) (G.refl wb none) HP.out 8 (.int .i64 p.2.2.2.2.2) rfl
      simp only [Nat.zero_add] at f5 y5 f6 y6 f7 y7 f8 y8
      go_upto_region 20 with fail
      have hq : G wb ((((wb.setCell ⟨g1, k * 9 + 5, none⟩ (.int .i64 r1)).setCell ⟨g1, k * 9 + 6, none⟩ (.string r2)).setCell ⟨g1, k * 9 + 7, none⟩ (.int .i64 r3)).setCell ⟨g1, k * 9 + 8, none⟩ (.int .i64 r4)) (some g1) := G.setCells g1 [.int .i64 r1, .string r2, .int .i64 r3, .int .i64 r4] (k * 9 + 5) wb
      have hO2 := own_setIn hO HP.out (r1, r2, r3, r4)
      replace hP := hP.grown hq (fun e => by have := Option.some.inj e; omega)
      replace hB := hB.grown hq (fun e => by have := Option.some.inj e; omega)
      replace hSB := hSB.far hq (by omega)
      replace hG := hG.other hq (fun j e => by cases e; exact .inl (by omega))
      have hR : RdR ((((wb.setCell ⟨g1, k * 9 + 5, none⟩ (.int .i64 r1)).setCell ⟨g1, k * 9 + 6, none⟩ (.string r2)).setCell ⟨g1, k * 9 + 7, none⟩ (.int .i64 r3)).setCell ⟨g1, k * 9 + 8, none⟩ (.int .i64 r4)) 9 lgC (.slice (some ⟨g1, 0, none⟩) l.length cap1) (l.set k (p.1, p.2.1, (r1, r2, r3, r4))) := Rd.of_owns hO2
      clear HT hO hO2 hq f5 y5 f6 y6 f7 y7 f8 y8
      generalize (((wb.setCell ⟨g1, k * 9 + 5, none⟩ (.int .i64 r1)).setCell ⟨g1, k * 9 + 6, none⟩ (.string r2)).setCell ⟨g1, k * 9 + 7, none⟩ (.int .i64 r3)).setCell ⟨g1, k * 9 + 8, none⟩ (.int .i64 r4) = wz at hP hR hB hSB hG ⊢
      go_wp2_with (first | (refine wpList_load_row rfl 33 _ rfl (g3) rfl 33 #[.string H.1, .string H.2.1, .int .i64 H.2.2.1, .int .i64 H.2.2.2, .slice (some ⟨g1, 0, none⟩) l.length cap1] (0, 0) _ hP Tryd.underlying33 rfl (hi_info (H.1, H.2.1, H.2.2.1, H.2.2.2) _) ?_) | (refine wpList_store_row rfl 33 _ _ rfl (w.heap.size) #[.string H.1, .string H.2.1, .int .i64 H.2.2.1, .int .i64 H.2.2.2, .slice (some ⟨g1, 0, none⟩) l.length cap1] rfl rfl 33 _ hB (hi_info (H.1, H.2.1, H.2.2.1, H.2.2.2) _) rfl (hi_one (H.1, H.2.1, H.2.2.1, H.2.2.2) _ _ _) ?_))
      refine bodyPost_ret (results_cell_row rfl _ _ w.heap.size 33 #[.string H.1, .string H.2.1, .int .i64 H.2.2.1, .int .i64 H.2.2.2, .slice (some ⟨g1, 0, none⟩) l.length cap1] (0, 0) _ rfl (hB.setRow _) Tryd.underlying33 rfl (hi_info (H.1, H.2.1, H.2.2.1, H.2.2.2) _)) rfl ?_
      refine hi_fin_len (H := (H.1, H.2.1, H.2.2.1, H.2.2.2)) (List.length_set ..) (l := l.set k (p.1, p.2.1, (r1, r2, r3, r4))) ⟨LgOk.set HOK.out.2.1 (x := (p.1, p.2.1, (r1, r2, r3, r4))) ⟨(HOK.out.2.1 p (List.mem_of_getElem? HP.out)).1, (HOK.out.2.1 p (List.mem_of_getElem? HP.out)).2.1, HR.out.2.1⟩ k, HOK.out.2.2.1, HOK.out.2.2.2.1, HOK.out.2.2.2.2.1, HOK.out.2.2.2.2.2, by rw [List.length_set]; exact HOK.out.len.2⟩ hR (fun k e => by have e : g1 = k := Option.some.inj e; omega) hSB (by omega) hG hslt
    · clear hr2
      go_upto_region 6 with fail
      have hq := (G.refl w7 none).drew
      have hSB8 := hSB7.quiet hq
      replace hP := hP.quiet hq
      replace hB := hB.quiet hq
      replace hO := OwnX.quiet hO hq
      replace hG := hG.trans0 hq
      clear hq hSB7
      refine wp_region_held_drew (S := (fun w' => w'.cell? ⟨g3, 4, none⟩ = some (.slice (some ⟨g1, 0, none⟩) l.length cap1))) (by kernel_rfl) ?_ (fun hHeld => ?_)
      · exact hP.cell 4
      refine wpAnyH_take (i := 0) (oi := { dst := some 22, op := Op.fieldAddr 33 (Operand.tmp 3) 3, type := 0, pos := _, after := #[], guard := none }) (v := ?_) rfl (by kernel_rfl) (by kernel_rfl) (by kernel_rfl) (fun _ _ _ h => h) (Or.inl ⟨by rfl, ?_⟩) (by assumption) ?_
      rotate_left
      · (intro w hSw; (go_simp <;> with_reducible rfl))
      try simp only [Act.put, List.setIfInBounds_toArray, List.set_cons_zero, List.set_cons_succ]
      refine wpAnyH_take (i := 1) (oi := { dst := some 23, op := Op.load 31 (Operand.tmp 22), type := 31, pos := _, after := #[{ on := 0, ground := Ground.data }], guard := none }) (v := ?_) rfl (by kernel_rfl) (by kernel_rfl) (by kernel_rfl) (fun _ _ _ h => h) (Or.inl ⟨by rfl, ?_⟩) (by assumption) ?_
      rotate_left
      · (intro w hSw; (go_simp <;> with_reducible rfl))
      try simp only [Act.put, List.setIfInBounds_toArray, List.set_cons_zero, List.set_cons_succ]
      refine wpAnyH_take (i := 2) (oi := { dst := some 24, op := Op.move (Operand.tmp 0), type := 23, pos := _, after := #[], guard := none }) (v := ?_) rfl (by kernel_rfl) (by kernel_rfl) (by kernel_rfl) (fun _ _ _ h => h) (Or.inl ⟨by rfl, ?_⟩) (by assumption) ?_
      rotate_left
      · (intro w hSw; (go_simp <;> with_reducible rfl))
      try simp only [Act.put, List.setIfInBounds_toArray, List.set_cons_zero, List.set_cons_succ]
      refine wpAnyH_take (i := 3) (oi := { dst := some 25, op := Op.fieldAddr 33 (Operand.tmp 3) 3, type := 0, pos := _, after := #[], guard := none }) (v := ?_) rfl (by kernel_rfl) (by kernel_rfl) (by kernel_rfl) (fun _ _ _ h => h) (Or.inl ⟨by rfl, ?_⟩) (by assumption) ?_
      rotate_left
      · (intro w hSw; (go_simp <;> with_reducible rfl))
      try simp only [Act.put, List.setIfInBounds_toArray, List.set_cons_zero, List.set_cons_succ]
      refine wpAnyH_take (i := 4) (oi := { dst := some 26, op := Op.load 31 (Operand.tmp 25), type := 31, pos := _, after := #[{ on := 3, ground := Ground.data }], guard := none }) (v := ?_) rfl (by kernel_rfl) (by kernel_rfl) (by kernel_rfl) (fun _ _ _ h => h) (Or.inl ⟨by rfl, ?_⟩) (by assumption) ?_
      rotate_left
      · (intro w hSw; (go_simp <;> with_reducible rfl))
      try simp only [Act.put, List.setIfInBounds_toArray, List.set_cons_zero, List.set_cons_succ]
      refine wpAnyH_take (i := 5) (oi := { dst := some 27, op := Op.call { callee := Callee.builtin Builtin.len, args := #[Operand.tmp 26], argTypes := #[31] }, type := 3, pos := _, after := #[{ on := 4, ground := Ground.data }], guard := none }) (v := ?_) rfl (by kernel_rfl) (by kernel_rfl) (by kernel_rfl) (fun _ _ _ h => h) (Or.inl ⟨by rfl, ?_⟩) (by assumption) ?_
      rotate_left
      · (intro w hSw; (go_simp <;> with_reducible rfl))
      try simp only [Act.put, List.setIfInBounds_toArray, List.set_cons_zero, List.set_cons_succ]
      refine wpAnyH_ready (rs := [6]) (by kernel_rfl) (by simp) ?_
      refine AllReadyH.cons (o := { dst := some 28, op := Op.call { callee := Callee.value (Operand.func 81), args := #[Operand.tmp 24, Operand.tmp 27], argTypes := #[23, 3] }, type := 3, pos := _, after := #[{ on := 2, ground := Ground.data }, { on := 5, ground := Ground.data }], guard := none }) rfl (fun K hK => ?_) AllReadyH.nil
      go_simp
      refine (next_c (l.length : Int) _ s _ hSB8 (by omega) (by have := HOK.out.len.2; omega)).mono ?_
      rintro e w9 ⟨k, rfl, hk, hSB9, hh⟩
      replace hP := hP.grown hh (fun e => by have := Option.some.inj e; omega)
      replace hB := hB.grown hh (fun e => by have := Option.some.inj e; omega)
      replace hO := OwnX.kept hO hh (by omega)
      replace hG := hG.trans hh
      have hk2 := inR_pos hk (by have := HOK.out.len.1; omega)
      obtain ⟨k, rfl⟩ := Int.eq_ofNat_of_zero_le hk2.1
      have hkl : k < l.length := by omega
      have hki : (k : Int) < (l.length : Int) := by omega
      clear hh hSB8 hk hk2
      refine hK.out _ _ ?_ (fun hHeld => ?_)
      · exact hP.cell 4
      clear hK K
      try simp only [Act.put, List.setIfInBounds_toArray, List.set_cons_zero, List.set_cons_succ]
      refine wpAnyH_take (i := 7) (oi := { dst := some 29, op := Op.indexAddr 31 (Operand.tmp 23) (Operand.tmp 28), type := 0, pos := _, after := #[{ on := 1, ground := Ground.data }, { on := 6, ground := Ground.data }], guard := none }) (v := ?_) rfl (by kernel_rfl) (by kernel_rfl) (by kernel_rfl) (fun _ _ _ h => h) (Or.inl ⟨by rfl, ?_⟩) (by assumption) ?_
      rotate_left
      · (intro w hSw; (go_simp <;> with_reducible rfl))
      try simp only [Act.put, List.setIfInBounds_toArray, List.set_cons_zero, List.set_cons_succ]
      refine wpAnyH_take (i := 8) (oi := { dst := some 6, op := Op.assign (Operand.tmp 29), type := 123, pos := _, after := #[{ on := 7, ground := Ground.data }, { on := 6, ground := Ground.chain }, { on := 0, ground := Ground.phase }, { on := 1, ground := Ground.phase }, { on := 2, ground := Ground.phase }, { on := 3, ground := Ground.phase }, { on := 4, ground := Ground.phase }, { on := 5, ground := Ground.phase }, { on := 6, ground := Ground.phase }, { on := 7, ground := Ground.phase }], guard := none }) (v := ?_) rfl (by kernel_rfl) (by kernel_rfl) (by kernel_rfl) (fun _ _ _ h => h) (Or.inl ⟨by rfl, ?_⟩) (by assumption) ?_
      rotate_left
      · (intro w hSw; (go_simp <;> with_reducible rfl))
      try simp only [Act.put, List.setIfInBounds_toArray, List.set_cons_zero, List.set_cons_succ]
      refine wpAnyH_done (by kernel_rfl) ?_ _
      obtain ⟨p, hp⟩ : ∃ p, l[k]? = some p := ⟨_, List.getElem?_eq_getElem hkl⟩
      have HP := Lib.hid hp
      have HKL := Lib.hid hkl
      clear hp hkl
      go_wp2_with fail
      refine (pick_c _ _ _ [0, 0, 1] _ _ _ (hSB9.alloc _) (by omega) (by decide) (by decide) (Rd.newAt _ rfl rfl (by decide)) (hSB9.newAt _ _ _ (Nat.le_refl _))).mono ?_; rintro e wb ⟨z, rfl, hq1, hSB, hh⟩
      clear hq1
      have hq := ((G.refl w9 (some s)).alloc (.cells _ 3)).trans hh
      replace hP := hP.grown hq (fun e => by have := Option.some.inj e; omega)
      replace hB := hB.grown hq (fun e => by have := Option.some.inj e; omega)
      replace hO := OwnX.kept hO hq (by omega)
      replace hG := hG.trans hq
      clear hh hq
      have HT := Lib.hid (there_any (z := 9) lgC_sz hO HP.out)
      have f5 := (HT.out 5 (by omega)).2
      have y5 := RdR.cell lgC_sz (Rd.of_owns hO) (G.refl wb none) HP.out 5 (.int .i64 p.2.2.1) rfl
      have f6 := (HT.out 6 (by omega)).2
      have y6 := RdR.cell lgC_sz (Rd.of_owns hO) (G.refl wb none) HP.out 6 (.string p.2.2.2.1) rfl
      have f7 := (HT.out 7 (by omega)).2
      have y7 := RdR.cell lgC_sz (Rd.of_owns hO) (G.refl wb none) HP.out 7 (.int .i64 p.2.2.2.2.1) rfl
      have f8 := (HT.out 8 (by omega)).2
      have y8 := RdR.cell lgC_sz (Rd.of_owns hO) (G.refl wb none) HP.out 8 (.int .i64 p.2.2.2.2.2) rfl
      simp only [Nat.zero_add] at f5 y5 f6 y6 f7 y7 f8 y8
      go_upto_region 20 with fail
      have hq : G wb ((((wb.setCell ⟨g1, k * 9 + 5, none⟩ (.int .i64 (-1))).setCell ⟨g1, k * 9 + 6, none⟩ (.string ⟨#[]⟩)).setCell ⟨g1, k * 9 + 7, none⟩ (.int .i64 z)).setCell ⟨g1, k * 9 + 8, none⟩ (.int .i64 0)) (some g1) := G.setCells g1 [.int .i64 (-1), .string ⟨#[]⟩, .int .i64 z, .int .i64 0] (k * 9 + 5) wb
      have hO2 := own_setIn hO HP.out (-1, ⟨#[]⟩, z, 0)
      replace hP := hP.grown hq (fun e => by have := Option.some.inj e; omega)
      replace hB := hB.grown hq (fun e => by have := Option.some.inj e; omega)
      replace hSB := hSB.far hq (by omega)
      replace hG := hG.other hq (fun j e => by cases e; exact .inl (by omega))
      have hR : RdR ((((wb.setCell ⟨g1, k * 9 + 5, none⟩ (.int .i64 (-1))).setCell ⟨g1, k * 9 + 6, none⟩ (.string ⟨#[]⟩)).setCell ⟨g1, k * 9 + 7, none⟩ (.int .i64 z)).setCell ⟨g1, k * 9 + 8, none⟩ (.int .i64 0)) 9 lgC (.slice (some ⟨g1, 0, none⟩) l.length cap1) (l.set k (p.1, p.2.1, (-1, ⟨#[]⟩, z, 0))) := Rd.of_owns hO2
      clear HT hO hO2 hq f5 y5 f6 y6 f7 y7 f8 y8
      generalize (((wb.setCell ⟨g1, k * 9 + 5, none⟩ (.int .i64 (-1))).setCell ⟨g1, k * 9 + 6, none⟩ (.string ⟨#[]⟩)).setCell ⟨g1, k * 9 + 7, none⟩ (.int .i64 z)).setCell ⟨g1, k * 9 + 8, none⟩ (.int .i64 0) = wz at hP hR hB hSB hG ⊢
      go_wp2_with (first | (refine wpList_load_row rfl 33 _ rfl (g3) rfl 33 #[.string H.1, .string H.2.1, .int .i64 H.2.2.1, .int .i64 H.2.2.2, .slice (some ⟨g1, 0, none⟩) l.length cap1] (0, 0) _ hP Tryd.underlying33 rfl (hi_info (H.1, H.2.1, H.2.2.1, H.2.2.2) _) ?_) | (refine wpList_store_row rfl 33 _ _ rfl (w.heap.size) #[.string H.1, .string H.2.1, .int .i64 H.2.2.1, .int .i64 H.2.2.2, .slice (some ⟨g1, 0, none⟩) l.length cap1] rfl rfl 33 _ hB (hi_info (H.1, H.2.1, H.2.2.1, H.2.2.2) _) rfl (hi_one (H.1, H.2.1, H.2.2.1, H.2.2.2) _ _ _) ?_))
      refine bodyPost_ret (results_cell_row rfl _ _ w.heap.size 33 #[.string H.1, .string H.2.1, .int .i64 H.2.2.1, .int .i64 H.2.2.2, .slice (some ⟨g1, 0, none⟩) l.length cap1] (0, 0) _ rfl (hB.setRow _) Tryd.underlying33 rfl (hi_info (H.1, H.2.1, H.2.2.1, H.2.2.2) _)) rfl ?_
      refine hi_fin_len (H := (H.1, H.2.1, H.2.2.1, H.2.2.2)) (List.length_set ..) (l := l.set k (p.1, p.2.1, (-1, ⟨#[]⟩, z, 0))) ⟨LgOk.set HOK.out.2.1 (x := (p.1, p.2.1, (-1, ⟨#[]⟩, z, 0))) ⟨(HOK.out.2.1 p (List.mem_of_getElem? HP.out)).1, (HOK.out.2.1 p (List.mem_of_getElem? HP.out)).2.1, small_nil⟩ k, HOK.out.2.2.1, HOK.out.2.2.2.1, HOK.out.2.2.2.2.1, HOK.out.2.2.2.2.2, by rw [List.length_set]; exact HOK.out.len.2⟩ hR (fun k e => by have e : g1 = k := Option.some.inj e; omega) hSB (by omega) hG hslt
end Go.Proofs.YtdcofbciebkfkaaDoor

/- Generator: Hires. -/
namespace Go.Proofs.YtdcofbciebkfkaaDoor
open Go.RowKit

theorem hx_oneL (r : Hx) : ∀ u ∈ (hxC r).toList, u.oneCell' = true := by
  intro u hu
  simp [hxC, hiC] at hu
  rcases hu with rfl | rfl | rfl | rfl | rfl <;> rfl
theorem hx_rowOk : RowOk Tryd.prog 33 54 5 72 (.agg #[.string ⟨#[]⟩, .string ⟨#[]⟩, .int .i64 0, .int .i64 0, .slice none 0 0]) hxC := ⟨by kernel_rfl, Tryd.underlying54, hx_oneL, hxC_sz, rfl, by omega, by omega⟩
abbrev OwnHx (w : World) (base : Nat) (v : Value) (l : List Hx) : Prop := OwnX 33 5 hxC w base v l
theorem wp_append_hx {w : World} {o : Oper} {a : Act} {K : Act → World → Prop} {Q : Exit → Act → World → Prop} (s x : Operand)
    (ho : o.op = .call { callee := .builtin .append, args := #[s, x], argTypes := #[54, 54] }) (base : Nat) (v : Value) (l : List Hx) (hs : a.eval s = v) (hown : OwnHx w base v l)
    (g : Nat) (r : Hx) (hx : a.eval x = .slice (some ⟨g, 0, none⟩) 1 1) (hb : Bk w g 33 (hxC r)) (hl : l.length ≤ 3000) (hbase : base ≤ w.heap.size)
    (hK : ∀ v' w', OwnHx w' base v' (l ++ [r]) → w.grownBy w' v.ownBlock → (∀ k, v'.ownBlock = some k → v.ownBlock = some k ∨ k = w.heap.size) → K (a.put o.dst v') w') : o.wp Tryd.prog a w K Q := by
  obtain ⟨i0, hi, hz0, hz1, hz2⟩ := info_parts hx_rowOk.row
  refine wp_append_lies w s x 54 ho base 33 i0 (.agg #[.string ⟨#[]⟩, .string ⟨#[]⟩, .int .i64 0, .int .i64 0, .slice none 0 0]) 5 72 hx_rowOk.slice hi hz0 hz1 hz2 rfl (by omega) v l.length (rowL hxC l) hs hown ⟨g, 0, none⟩ 1 1 (hxC r).toList hx (by rw [Array.length_toList, hxC_sz]) (bk_at hb) (hx_oneL r) (by omega) (by unfold maxLen; omega) (by omega) hbase _ rfl ?_
  intro g' cap w' h1 h2 h3 _
  refine hK _ w' ?_ h2 (fun k e => by cases e; exact h3)
  show World.ownsRow _ _ _ _ _ (l ++ [r]).length _
  rw [List.length_append, rowL_snoc]
  exact h1
/-- A list of hires that the generator holds. -/
def HgL (N : Nat) (w : World) (v : Value) (L : List Hx) : Prop :=
  OwnHx w N v L ∧ HxOk L ∧ HxL w L ∧ ∀ x ∈ L, ∀ k, (hxV x).ownBlock = some k → N ≤ k ∧ v.ownBlock ≠ some k
theorem HgL.kept {N : Nat} {w w' : World} {v : Value} {L : List Hx} {s : Nat} (h : HgL N w v L) (hs : s < N) (hG : G w w' (some s)) : HgL N w' v L :=
  ⟨OwnX.kept h.1 hG hs, h.2.1, fun x hx => Rd.grown (h.2.2.1 x hx) hG (fun k e hk => by cases e; have := h.2.2.2 x hx _ hk; omega), h.2.2.2⟩
theorem HgL.quiet {N : Nat} {w w' : World} {v : Value} {L : List Hx} (h : HgL N w v L) (hG : G w w' none) : HgL N w' v L :=
  ⟨OwnX.quiet h.1 hG, h.2.1, h.2.2.1.quiet hG, h.2.2.2⟩
/-- One hire more. -/
theorem HgL.snoc {N : Nat} {w w' : World} {v v' : Value} {L : List Hx} {x : Hx} (h : HgL N w v L) (hx : HSm x.1 x.2.2) (hR : RdR w 9 lgC (hxV x) x.2.2) (hb : ∀ k, (hxV x).ownBlock = some k → N ≤ k ∧ v.ownBlock ≠ some k)
    (h1 : OwnHx w' N v' (L ++ [x])) (h2 : w.grownBy w' v.ownBlock) (h3 : ∀ k, v'.ownBlock = some k → v.ownBlock = some k ∨ k = w.heap.size) : HgL N w' v' (L ++ [x]) := by
  have key : ∀ y, RdR w 9 lgC (hxV y) y.2.2 → (∀ k, (hxV y).ownBlock = some k → N ≤ k ∧ v.ownBlock ≠ some k) → RdR w' 9 lgC (hxV y) y.2.2 ∧ ∀ k, (hxV y).ownBlock = some k → N ≤ k ∧ v'.ownBlock ≠ some k := fun y q1 q2 => by
    refine ⟨Rd.grown q1 h2 (fun k e hk => (q2 k hk).2 e), fun k hk => ⟨(q2 k hk).1, fun e => ?_⟩⟩
    rcases h3 k e with e | e
    · exact (q2 k hk).2 e
    · have := Rd.blk q1 k hk; omega
  refine ⟨h1, fun y hy => ?_, fun y hy => ?_, fun y hy => ?_⟩
  · rcases List.mem_append.1 hy with hy | hy
    · exact h.2.1 y hy
    · obtain rfl := List.mem_singleton.1 hy; exact hx
  · rcases List.mem_append.1 hy with hy | hy
    · exact (key y (h.2.2.1 y hy) (h.2.2.2 y hy)).1
    · obtain rfl := List.mem_singleton.1 hy; exact (key y hR hb).1
  · rcases List.mem_append.1 hy with hy | hy
    · exact (key y (h.2.2.1 y hy) (h.2.2.2 y hy)).2
    · obtain rfl := List.mem_singleton.1 hy; exact (key y hR hb).2
def hsKeys : Array Value := #[.string ⟨#[104, 49]⟩, .string ⟨#[104, 50]⟩, .string ⟨#[104, 51]⟩, .string ⟨#[104, 52]⟩]
theorem hsKeys_at (k : Nat) (hk : k < 4) : ∃ a : ByteArray, (keyB a = true ∧ Small a) ∧ hsKeys[k]? = some (.string a) := by
  match k, hk with
  | 0, _ => exact ⟨_, ⟨(by decide +kernel : keyB ⟨#[104, 49]⟩ = true), small_of (by decide)⟩, rfl⟩
  | 1, _ => exact ⟨_, ⟨(by decide +kernel : keyB ⟨#[104, 50]⟩ = true), small_of (by decide)⟩, rfl⟩
  | 2, _ => exact ⟨_, ⟨(by decide +kernel : keyB ⟨#[104, 51]⟩ = true), small_of (by decide)⟩, rfl⟩
  | 3, _ => exact ⟨_, ⟨(by decide +kernel : keyB ⟨#[104, 52]⟩ = true), small_of (by decide)⟩, rfl⟩
theorem HOk.sm {H : Hh} {l : List Lg} (h : HOk H l) : HSm H l := ⟨h.2.1, h.2.2.1, h.2.2.2.1, h.2.2.2.2.1, h.2.2.2.2.2, h.len.2⟩
def HiresPost (s K : Nat) (w : World) (e : Ending) (w' : World) : Prop :=
  ∃ (v : Value) (L : List Hx), e = .returned v ∧ HgL (w.heap.size + 1) w' v L ∧ L.length ≤ 5 ∧ SB w' s (K + 5000) ∧ G w w' (some s)
def HgRel (w : World) (s K n : Nat) (s5 s13 : Value) (wr : World) : Prop :=
  ∃ (k : Nat) (L : List Hx), k ≤ n ∧ L.length = k ∧ s13 = .int .i64 k ∧ HgL (w.heap.size + 1) wr s5 L ∧ SB wr s (K + 800 * k) ∧ G w wr (some s) ∧ Bk wr w.heap.size 9 hsKeys
theorem hires_fin {w w' : World} {s K K' : Nat} {v : Value} {L : List Hx} (h : HgL (w.heap.size + 1) w' v L) (hn : L.length ≤ 5) (hSB : SB w' s K') (hK : K' ≤ K + 5000) (hG : G w w' (some s)) : HiresPost s K w (.returned v) w' :=
  ⟨v, L, rfl, h, hn, hSB.le hK, hG⟩
set_option maxRecDepth 100000 in
set_option maxHeartbeats 8000000 in
theorem hires_c (n : Nat) (w : World) (s : Nat) (K : Nat) (hn : n ≤ 4) (hs : SB w s K) (hk : K ≤ 600000000000) :
    Calls Tryd.prog 31 #[.pointer (some ⟨s, 0, none⟩), .int .i64 n] w (HiresPost s K w) := by
  have hsw := hs.lt
  have hsb : s < w.heap.size + 1 := Nat.lt_succ_of_lt hsw
  have hmin : min (n : Int) 4 = n := by omega
  have hni : (n : Int) ≤ 4 := by omega
  go_enter Tryd.func31, Tryd.ntmps31
  go_wp2_with fail
  go_loopw [5, 13] (HgRel w s K n) (fun _ i _ => n - (intOf i).toNat)
  case atStart => exact ⟨0, [], by omega, by simp, rfl, ⟨World.ownsRow_nil _ _ _ _, fun p hp => (by cases hp), fun p hp => (by cases hp), fun p hp => (by cases hp)⟩, hs.alloc _, (G.refl _ _).alloc _, Bk.new w _ _⟩
  case round =>
    obtain ⟨k, L, hkm, hlk, rfl, hL, hSB, hG, hB⟩ := hrel
    clear hs
    by_cases hk2 : k < n
    · obtain ⟨key, hkey, hpa⟩ := hsKeys_at k (by omega)
      have hrow : wr.cell? ⟨w.heap.size, k, none⟩ = some (.string key) := by rw [hB.cell]; exact hpa
      have hBl := hB.lt
      have HKEY := Lib.hid hkey
      clear hpa hkey
      go_wp2_with fail
      refine (pick_c _ _ _ [0, 50, 100, 100, 300, 1000] _ _ _ (hSB.alloc _) (by omega) (by decide) (by decide) (Rd.newAt _ rfl rfl (by decide)) (hSB.newAt _ _ _ (Nat.le_refl _))).mono ?_; rintro e w4 ⟨f, rfl, hp, hSB4, hg⟩
      have hfb : 0 ≤ f ∧ f ≤ 1000 := by simp only [List.mem_cons, List.mem_nil_iff, or_false] at hp; omega
      have hh := ((G.refl wr (some s)).alloc (.cells _ 3)).trans hg
      have hL4 := hL.kept hsb hh
      have hB4 := hB.grown hh (fun e => by have := Option.some.inj e; omega)
      have hG4 := hG.trans hh
      clear hL hB hG hSB hrow hg hh hp
      go_wp2_with fail
      refine (rightHire_c key f _ s _ HKEY.out.1 HKEY.out.2 hfb.1 (by omega) hSB4 (by omega)).mono ?_; rintro e w5 ⟨H, l, a8, c8, rfl, hok, hR5, hb5, hSB5, hg⟩
      have HSMX := Lib.hid hok.sm
      have hL5 := hL4.kept hsb hg
      have hB5 := hB4.grown hg (fun e => by have := Option.some.inj e; omega)
      have hG5 := hG4.trans hg
      have hnew : ∀ k, (Value.slice a8 l.length c8).ownBlock = some k → w.heap.size + 1 ≤ k ∧ u5.ownBlock ≠ some k := fun k e => by
        have h1 := hb5 k e
        have h2 := hG4.size
        refine ⟨by have := hB4.lt; omega, fun e2 => ?_⟩
        have := (World.ownsRow.lt hL4.1 k e2).2
        omega
      clear hL4 hB4 hG4 hSB4 hok hb5 hg
      rw [show hiC H (.slice a8 l.length c8) = #[.string H.1, .string H.2.1, .int .i64 H.2.2.1, .int .i64 H.2.2.2, .slice a8 l.length c8] from rfl]
      have hq := (G.refl w5 none).alloc (.cells #[.string H.1, .string H.2.1, .int .i64 H.2.2.1, .int .i64 H.2.2.2, .slice a8 l.length c8] 33)
      have hLA := hL5.quiet hq
      have hRA := Rd.quiet hR5 hq
      go_wp2_with (at_builtin; refine wpList_plain rfl fun K' hK' => wp_append_hx _ _ rfl (w.heap.size + 1) u5 L rfl hLA.1 w5.heap.size (H, (a8, c8), l) rfl (Bk.new w5 _ _) (by omega) (by have := hB5.lt; simp; omega) ?_; intro v8 w8 hown8 hgrow hlie; refine hK' _ _ ?_)
      have hob := OwnX.low hL5.1
      go_roundw
      case rel => exact ⟨k + 1, L ++ [(H, (a8, c8), l)], by omega, by simp; omega, by go_num, hLA.snoc (x := (H, (a8, c8), l)) HSMX.out hRA hnew hown8 hgrow hlie, ((hSB5.alloc _).own hgrow (fun r e => Nat.lt_of_lt_of_le hsb (hob r e))).le (by omega), (hG5.alloc _).other hgrow (fun r e => .inl (Nat.le_of_succ_le (hob r e))), (hB5.alloc _).grown hgrow (OwnX.ne hL5.1 (.inl (Nat.lt_succ_self _)))⟩
      case measure => simp [intOf]; omega
    · obtain rfl : k = n := by omega
      go_wp2_with fail
      refine (flip_c _ _ _ _ hSB (by omega) (by omega)).mono ?_; rintro e w3 ⟨q, rfl, hSB3, hg⟩
      have hL3 := hL.kept hsb hg
      have hG3 := hG.trans hg
      have hw0 : w.heap.size + 1 ≤ w3.heap.size := Nat.le_trans hB.lt hg.size
      clear hL hB hG hSB hg
      cases q with
      | false =>
        go_wp2_with fail
        go_ret
        exact hires_fin hL3 (by omega) hSB3 (by omega) hG3
      | true =>
        go_wp2_with fail
        refine (hire_c _ s _ hSB3 (by omega)).mono ?_; rintro e w5 ⟨H, l, a8, c8, rfl, hok, hR5, hb5, hSB5, hg⟩
        have HSMX := Lib.hid hok
        have hL5 := hL3.kept hsb hg
        have hG5 := hG3.trans hg
        have hnew : ∀ k, (Value.slice a8 l.length c8).ownBlock = some k → w.heap.size + 1 ≤ k ∧ u5.ownBlock ≠ some k := fun k e => by
          have h1 := hb5 k e
          refine ⟨by omega, fun e2 => ?_⟩
          have := (World.ownsRow.lt hL3.1 k e2).2
          omega
        clear hL3 hG3 hSB3 hok hb5 hg
        rw [show hiC H (.slice a8 l.length c8) = #[.string H.1, .string H.2.1, .int .i64 H.2.2.1, .int .i64 H.2.2.2, .slice a8 l.length c8] from rfl]
        have hq := (G.refl w5 none).alloc (.cells #[.string H.1, .string H.2.1, .int .i64 H.2.2.1, .int .i64 H.2.2.2, .slice a8 l.length c8] 33)
        have hLA := hL5.quiet hq
        have hRA := Rd.quiet hR5 hq
        have hsz5 := hG5.size
        go_wp2_with (at_builtin; refine wpList_plain rfl fun K' hK' => wp_append_hx _ _ rfl (w.heap.size + 1) u5 L rfl hLA.1 w5.heap.size (H, (a8, c8), l) rfl (Bk.new w5 _ _) (by omega) (by simp; omega) ?_; intro v8 w8 hown8 hgrow hlie; refine hK' _ _ ?_)
        have hob := OwnX.low hL5.1
        go_ret
        exact hires_fin (hLA.snoc (x := (H, (a8, c8), l)) HSMX.out hRA hnew hown8 hgrow hlie) (by simp; omega) ((hSB5.alloc _).own hgrow (fun r e => Nat.lt_of_lt_of_le hsb (hob r e))) (by omega) ((hG5.alloc _).other hgrow (fun r e => .inl (Nat.le_of_succ_le (hob r e))))
end Go.Proofs.YtdcofbciebkfkaaDoor

/- The law's own keyFault. -/
namespace Go.Proofs.YtdcofbciebkfkaaDoor
open Go.RowKit

def kyE (s : ByteArray) : Int := if keyB s = true then 0 else 5
set_option maxRecDepth 100000 in
theorem kyFault_c (s : ByteArray) (w : World) (hs : Small s) : Calls Tryd.prog 37 #[.string s] w fun e w' => e = .returned (.int .i64 (kyE s)) ∧ G w w' none := by
  unfold Small at hs
  cases hk : keyB s with
  | true =>
    have HE : Hid (kyE s = 0) := Lib.hid (by rw [kyE, if_pos hk])
    have HK := Lib.hid hk
    clear hk
    go_enter Tryd.func37, Tryd.ntmps37
    go_wp2_with fail
    refine (rkey_c s _ hs).mono ?_; rintro e w1 ⟨rfl, hG1⟩
    rw [HK.out]
    go_wp2_with fail
    refine (when_c _ _ _).mono ?_; rintro e w' ⟨rfl, rfl⟩
    simp only [Bool.not_true, Bool.false_eq_true, if_false]
    go_wp2_with fail
    go_ret
    exact ⟨by rw [HE.out]; rfl, hG1⟩
  | false =>
    have HE : Hid (kyE s = 5) := Lib.hid (by rw [kyE, if_neg (by simp [hk])])
    have HK := Lib.hid hk
    clear hk
    go_enter Tryd.func37, Tryd.ntmps37
    go_wp2_with fail
    refine (rkey_c s _ hs).mono ?_; rintro e w1 ⟨rfl, hG1⟩
    rw [HK.out]
    go_wp2_with fail
    refine (when_c _ _ _).mono ?_; rintro e w' ⟨rfl, rfl⟩
    simp only [Bool.not_false, if_true]
    go_wp2_with fail
    go_ret
    exact ⟨by rw [HE.out]; rfl, hG1⟩
end Go.Proofs.YtdcofbciebkfkaaDoor

/- Hires: lists of legs, hires compared; hired. -/
namespace Go.Proofs.YtdcofbciebkfkaaDoor
open Go.RowKit

theorem lg_neq (x y : Lg) (w : World) : (binOp .neq 79 (.agg (lgC x)) (.agg (lgC y))).run Tryd.prog w = .ok (.bool (!(decide (x = y)))) w := by
  have ht : Tryd.prog.underlying 79 = some (.struct (Tryd.prog.fieldsOf 79)) := by kernel_rfl
  have hp : Tryd.prog.stoodInHeld 79 = false := by kernel_rfl
  rw [run_neq_struct, run_equalIn_agg w 9999 79 _ _ ht hp]
  obtain ⟨a, ⟨b, c, d, e⟩, f, g, h, i⟩ := x
  obtain ⟨a', ⟨b', c', d', e'⟩, f', g', h', i'⟩ := y
  simp [lgC, Tryd.underlying79, Tryd.underlying37, Tryd.underlying3, Tryd.underlying9, go_sem]
  have tl : ∀ u v : ByteArray, (u.toList = v.toList) ↔ u = v := fun u v => ⟨toList_ext, fun h => by rw [h]⟩
  simp only [tl]
  by_cases h1 : a = a'
  · by_cases h2 : b = b'
    · by_cases h3 : c = c'
      · by_cases h4 : d = d'
        · by_cases h5 : e = e'
          · by_cases h6 : f = f'
            · by_cases h7 : g = g'
              · by_cases h8 : h = h' <;> by_cases h9 : i = i' <;> simp [h1, h2, h3, h4, h5, h6, h7, h8, h9]
              · simp [h1, h2, h3, h4, h5, h6, h7]
            · simp [h1, h2, h3, h4, h5, h6]
          · simp [h1, h2, h3, h4, h5]
        · simp [h1, h2, h3, h4]
      · simp [h1, h2, h3]
    · simp [h1, h2]
  · simp [h1]
def EqlRel (l m : List Lg) (w : World) (i : Value) (wr : World) : Prop := ∃ k n : Nat, k ≤ l.length ∧ i = .int .i64 k ∧ l.take k = m.take k ∧ wr = w.drewN n
theorem take_succ_lg {l m : List Lg} {k : Nat} {x : Lg} (h : l.take k = m.take k) (hx : l[k]? = some x) (hy : m[k]? = some x) : l.take (k + 1) = m.take (k + 1) := by
  rw [List.take_add_one, List.take_add_one, h, hx, hy]
set_option maxRecDepth 100000 in
set_option maxHeartbeats 4000000 in
theorem lgEqual_c (v u : Value) (l m : List Lg) (w : World) (hr : RdR w 9 lgC v l) (hs : RdR w 9 lgC u m) (hn : l.length ≤ 1000000) :
    Calls Tryd.prog 100 #[v, u] w fun e w' => e = .returned (.bool (decide (l = m))) ∧ G w w' none := by
  have HR := Lib.hid hr
  have HS := Lib.hid hs
  obtain ⟨a, cap, rfl, hcap, hm1⟩ := RdR.form hr
  obtain ⟨a2, cap2, rfl, hcap2, hm2⟩ := RdR.form hs
  clear hr hs
  by_cases hlen : l.length = m.length
  · have hlq : ((l.length : Int) != (m.length : Int)) = false := by rw [hlen]; simp
    have hlq2 : ((m.length : Int) != (l.length : Int)) = false := by rw [hlen]; simp
    have HL := Lib.hid hlen
    clear hlen
    go_enter Tryd.func100, Tryd.ntmps100
    go_wp2_with fail
    go_loopw [13] (EqlRel l m w) (fun i _ => l.length - (intOf i).toNat)
    case atStart => exact ⟨0, 0, by omega, rfl, rfl, rfl⟩
    case round =>
      obtain ⟨k, n, hk, rfl, heq, rfl⟩ := hrel
      have HE := Lib.hid heq
      clear heq
      by_cases hlt : k < l.length
      · obtain ⟨x, hx⟩ : ∃ x, l[k]? = some x := ⟨_, List.getElem?_eq_getElem hlt⟩
        obtain ⟨y, hy⟩ : ∃ y, m[k]? = some y := ⟨_, List.getElem?_eq_getElem (by rw [← HL.out]; exact hlt)⟩
        have hlt2 : k < m.length := by have := HL.out; omega
        obtain ⟨bb, bo, rfl, hbb, _⟩ := RdR.elem lgC_sz HR.out (G.refl w none) hx
        obtain ⟨b2, o2, rfl, hb2, _⟩ := RdR.elem lgC_sz HS.out (G.refl w none) hy
        have d0 := RdR.cell lgC_sz HR.out (G.refl w none) hx 0 (.string x.1) rfl
        have d1 := RdR.cell lgC_sz HR.out (G.refl w none) hx 1 (.int .i64 x.2.1.1) rfl
        have d2 := RdR.cell lgC_sz HR.out (G.refl w none) hx 2 (.string x.2.1.2.1) rfl
        have d3 := RdR.cell lgC_sz HR.out (G.refl w none) hx 3 (.int .i64 x.2.1.2.2.1) rfl
        have d4 := RdR.cell lgC_sz HR.out (G.refl w none) hx 4 (.int .i64 x.2.1.2.2.2) rfl
        have d5 := RdR.cell lgC_sz HR.out (G.refl w none) hx 5 (.int .i64 x.2.2.1) rfl
        have d6 := RdR.cell lgC_sz HR.out (G.refl w none) hx 6 (.string x.2.2.2.1) rfl
        have d7 := RdR.cell lgC_sz HR.out (G.refl w none) hx 7 (.int .i64 x.2.2.2.2.1) rfl
        have d8 := RdR.cell lgC_sz HR.out (G.refl w none) hx 8 (.int .i64 x.2.2.2.2.2) rfl
        have e0 := RdR.cell lgC_sz HS.out (G.refl w none) hy 0 (.string y.1) rfl
        have e1 := RdR.cell lgC_sz HS.out (G.refl w none) hy 1 (.int .i64 y.2.1.1) rfl
        have e2 := RdR.cell lgC_sz HS.out (G.refl w none) hy 2 (.string y.2.1.2.1) rfl
        have e3 := RdR.cell lgC_sz HS.out (G.refl w none) hy 3 (.int .i64 y.2.1.2.2.1) rfl
        have e4 := RdR.cell lgC_sz HS.out (G.refl w none) hy 4 (.int .i64 y.2.1.2.2.2) rfl
        have e5 := RdR.cell lgC_sz HS.out (G.refl w none) hy 5 (.int .i64 y.2.2.1) rfl
        have e6 := RdR.cell lgC_sz HS.out (G.refl w none) hy 6 (.string y.2.2.2.1) rfl
        have e7 := RdR.cell lgC_sz HS.out (G.refl w none) hy 7 (.int .i64 y.2.2.2.2.1) rfl
        have e8 := RdR.cell lgC_sz HS.out (G.refl w none) hy 8 (.int .i64 y.2.2.2.2.2) rfl
        simp only [Nat.add_zero] at d0 e0
        have HX := Lib.hid hx
        have HY := Lib.hid hy
        clear hx hy
        by_cases hxy : x = y
        · have hnq : ∀ w : World, (binOp .neq 79 (.agg #[.string x.1, .int .i64 x.2.1.1, .string x.2.1.2.1, .int .i64 x.2.1.2.2.1, .int .i64 x.2.1.2.2.2, .int .i64 x.2.2.1, .string x.2.2.2.1, .int .i64 x.2.2.2.2.1, .int .i64 x.2.2.2.2.2]) (.agg #[.string y.1, .int .i64 y.2.1.1, .string y.2.1.2.1, .int .i64 y.2.1.2.2.1, .int .i64 y.2.1.2.2.2, .int .i64 y.2.2.1, .string y.2.2.2.1, .int .i64 y.2.2.2.2.1, .int .i64 y.2.2.2.2.2])).run Tryd.prog w = .ok (.bool false) w := fun w => by
            have := lg_neq x y w
            rw [decide_eq_true hxy] at this
            exact this
          have HT : Hid (l.take (k + 1) = m.take (k + 1)) := Lib.hid (take_succ_lg HE.out HX.out (by rw [hxy]; exact HY.out))
          clear hxy HX HY
          go_wp2_with fail
          go_quiet (fail)
          go_wp2_with fail
          go_roundw
          case rel => exact ⟨k + 1, _, by omega, by go_num, HT.out, rfl⟩
          case measure => simp [intOf]; omega
        · have hnq : ∀ w : World, (binOp .neq 79 (.agg #[.string x.1, .int .i64 x.2.1.1, .string x.2.1.2.1, .int .i64 x.2.1.2.2.1, .int .i64 x.2.1.2.2.2, .int .i64 x.2.2.1, .string x.2.2.2.1, .int .i64 x.2.2.2.2.1, .int .i64 x.2.2.2.2.2]) (.agg #[.string y.1, .int .i64 y.2.1.1, .string y.2.1.2.1, .int .i64 y.2.1.2.2.1, .int .i64 y.2.1.2.2.2, .int .i64 y.2.2.1, .string y.2.2.2.1, .int .i64 y.2.2.2.2.1, .int .i64 y.2.2.2.2.2])).run Tryd.prog w = .ok (.bool true) w := fun w => by
            have := lg_neq x y w
            rw [decide_eq_false hxy] at this
            exact this
          have HT : Hid (decide (l = m) = false) := Lib.hid (decide_eq_false (fun e => hxy (by have h1 := HX.out; rw [e, HY.out] at h1; exact (Option.some.inj h1).symm)))
          clear hxy HX HY
          go_wp2_with fail
          go_quiet (fail)
          go_wp2_with fail
          go_ret
          exact ⟨ret_bool HT.out.symm, ((G.refl _ _).drewN _).drewN _⟩
      · obtain rfl : k = l.length := by omega
        have HT : Hid (decide (l = m) = true) := Lib.hid (decide_eq_true (by have h := HE.out; rwa [List.take_length, HL.out, List.take_length] at h))
        go_wp2_with fail
        go_ret
        exact ⟨ret_bool HT.out.symm, (G.refl _ _).drewN _⟩
  · have hlq : ((l.length : Int) != (m.length : Int)) = true := by rw [bne_iff_ne]; omega
    have hlq2 : ¬ l.length = m.length := hlen
    have HT : Hid (decide (l = m) = false) := Lib.hid (decide_eq_false (fun e => hlen (by rw [e])))
    clear hlen
    go_enter Tryd.func100, Tryd.ntmps100
    go_wp2_with fail
    go_ret
    exact ⟨ret_bool HT.out.symm, G.refl _ _⟩
theorem wi_eql (x y : Int) (w : World) : (binOp .eql 30 (.agg #[.int .i64 x, .int .i64 y]) (.agg #[.int .i64 x, .int .i64 y])).run Tryd.prog w = .ok (.bool true) w := by
  have ht : Tryd.prog.underlying 30 = some (.struct (Tryd.prog.fieldsOf 30)) := by kernel_rfl
  have hp : Tryd.prog.stoodInHeld 30 = false := by kernel_rfl
  rw [run_eql_struct, run_equalIn_agg w 9999 30 _ _ ht hp]
  simp [Tryd.underlying30, Tryd.underlying3, go_sem]
set_option maxRecDepth 100000 in
set_option maxHeartbeats 2000000 in
theorem sameHire_c (h : Hh) (u v : Value) (l : List Lg) (w : World) (hr : RdR w 9 lgC u l) (hs : RdR w 9 lgC v l) (hn : l.length ≤ 1000) :
    Calls Tryd.prog 28 #[.agg (hiC h u), .agg (hiC h v)] w fun e w' => e = .returned (.bool true) ∧ G w w' none := by
  have hA := (Bk.new w 33 (hiC h u)).alloc (.cells (hiC h v) 33)
  have hB := Bk.newAt (w := w.alloc (.cells (hiC h u) 33)) (b := w.heap.size + 1) (by simp) 33 (hiC h v)
  have hG := ((G.refl w none).alloc (.cells (hiC h u) 33)).alloc (.cells (hiC h v) 33)
  have HR := Lib.hid (hr.quiet hG)
  have HS := Lib.hid (hs.quiet hG)
  obtain ⟨h1, h2, h3, h4⟩ := h
  clear hr hs
  simp only [hiC] at hA hB hG HR HS ⊢
  go_enter Tryd.func28, Tryd.ntmps28
  go_upto_region 1 with fail
  generalize (w.alloc (.cells #[.string h1, .string h2, .int .i64 h3, .int .i64 h4, u] 33)).alloc (.cells #[.string h1, .string h2, .int .i64 h3, .int .i64 h4, v] 33) = w2 at hA hB hG HR HS ⊢
  have a0 : w2.cell? ⟨w.heap.size, 0, none⟩ = some (.string h1) := hA.cell 0
  have a1 : w2.cell? ⟨w.heap.size, 1, none⟩ = some (.string h2) := hA.cell 1
  have a4 : w2.cell? ⟨w.heap.size, 4, none⟩ = some u := hA.cell 4
  have b0 : w2.cell? ⟨w.heap.size + 1, 0, none⟩ = some (.string h1) := hB.cell 0
  have b1 : w2.cell? ⟨w.heap.size + 1, 1, none⟩ = some (.string h2) := hB.cell 1
  have b4 : w2.cell? ⟨w.heap.size + 1, 4, none⟩ = some v := hB.cell 4
  have a2 : w2.cell? ⟨w.heap.size, 2, none⟩ = some (.int .i64 h3) := hA.cell 2
  have a3 : w2.cell? ⟨w.heap.size, 3, none⟩ = some (.int .i64 h4) := hA.cell 3
  have b2 : w2.cell? ⟨w.heap.size + 1, 2, none⟩ = some (.int .i64 h3) := hB.cell 2
  have b3 : w2.cell? ⟨w.heap.size + 1, 3, none⟩ = some (.int .i64 h4) := hB.cell 3
  have hq := wi_eql h3 h4
  go_wp2_with fail
  refine (lgEqual_c u v l l _ HR.out HS.out (by omega)).mono ?_; rintro e w3 ⟨rfl, hG3⟩
  rw [decide_eq_true (rfl : l = l)]
  go_wp2_with fail
  go_ret
  exact ⟨rfl, hG.trans hG3⟩
def h1K : Hh := (⟨#[104]⟩, ⟨#[100]⟩, 5, 9)
def h1R : Rg := (5, ⟨#[115]⟩, 0, 0)
theorem h1_ok : hiE h1K [(⟨#[118]⟩, h1R, noIn)] = 0 := by decide +kernel
set_option maxRecDepth 100000 in
set_option maxHeartbeats 2000000 in
theorem start1_c (w : World) : Calls Tryd.prog 21 #[.string ⟨#[104]⟩, .string ⟨#[100]⟩, .agg #[.int .i64 5, .int .i64 9], .string ⟨#[118]⟩, .agg #[.int .i64 5, .string ⟨#[115]⟩, .int .i64 0, .int .i64 0]] w
    fun e w' => ∃ a c, e = .returned (.tuple #[.agg #[.string ⟨#[104]⟩, .string ⟨#[100]⟩, .int .i64 5, .int .i64 9, .slice a 1 c], .int .i64 0]) ∧ G w w' none := by
  refine (start_c h1K ⟨#[118]⟩ h1R w (small_of (by decide)) (small_of (by decide)) (small_of (by decide)) (small_of (by decide)) (by unfold bnd h1K; dsimp only; omega) (by unfold bnd h1K; dsimp only; omega)).mono ?_
  rintro e w' ⟨H, a, n, c, rfl, hH, -, hR, hG⟩
  rw [h1_ok] at hH hR
  obtain rfl : H = h1K := hH
  obtain ⟨a', c', hv, -, -⟩ := RdR.form hR
  obtain rfl : n = 1 := by cases hv; rfl
  exact ⟨a, c, by rw [h1_ok]; rfl, hG⟩
set_option maxRecDepth 100000 in
set_option maxHeartbeats 2000000 in
theorem hired_c (w : World) : Calls Tryd.prog 29 #[] w fun e w' => e = .returned (.bool true) ∧ G w w' none := by
  go_enter Tryd.func29, Tryd.ntmps29
  go_wp2_with fail
  refine (start1_c _).mono ?_; rintro e w2 ⟨a, c, rfl, hG2⟩
  go_wp2_with fail
  go_ret
  exact ⟨rfl, hG2.alloc _⟩
end Go.Proofs.YtdcofbciebkfkaaDoor

/- The law HiresAt. -/
namespace Go.Proofs.YtdcofbciebkfkaaDoor
open Go.RowKit

theorem HgL.rd {N : Nat} {w : World} {v : Value} {L : List Hx} (h : HgL N w v L) : HxR w v L := ⟨Rd.of_owns h.1, h.2.2.1⟩
theorem wk_errs (v : ByteArray) (t : Int) (L : List Hx) : errsOf [haE L, kyE v, momE t] = wkE v t L := by
  unfold wkE
  by_cases e1 : haE L = 0
  · rw [if_pos e1, errsOf, if_pos e1]
    unfold kyE momE
    cases keyB v <;> cases momB t <;> rfl
  · rw [if_neg e1, errsOf, if_neg e1]
theorem od_errs (t : Int) (L : List Hx) : errsOf [haE L, momE t] = odE t L := by
  unfold odE
  by_cases e1 : haE L = 0
  · rw [if_pos e1, errsOf, if_pos e1]
    unfold momE
    cases momB t <;> rfl
  · rw [if_neg e1, errsOf, if_neg e1]
theorem wkE_ha {v : ByteArray} {t : Int} {L : List Hx} (e : wkE v t L = 0) : haE L = 0 := by
  unfold wkE at e
  split at e
  · assumption
  · exact e
theorem odE_ha {t : Int} {L : List Hx} (e : odE t L = 0) : haE L = 0 := by
  unfold odE at e
  split at e
  · assumption
  · exact e
set_option maxRecDepth 100000 in
set_option maxHeartbeats 8000000 in
theorem hiresAt_c (a : Option Addr) (n c : Nat) (zs : List Int) (W : World) (hr : Rd W 1 (.slice a n c) n (zs.map (Value.int .i64))) (hz : ∀ z ∈ zs, -9223372036854775808 ≤ z ∧ z ≤ 9223372036854775807) :
    Calls Tryd.prog 4 #[.slice a n c] W fun e W' => e = .returned (.bool true) ∧ G W W' none := by
  have hSB : SB (W.alloc (.cells #[.slice a n c, .int .i64 0] 25)) W.heap.size 0 := by
    have hB := Bk.new W 25 #[.slice a n c, .int .i64 0]
    refine ⟨0, a, n, c, zs, Nat.le_refl _, hr.quiet ((G.refl _ _).alloc _), fun b e => ?_, hz, hB.cell 0, hB.cell 1, hB.free 1, hB.lt⟩
    obtain ⟨a', c', e', r1, r2, r3, r4, r5⟩ := hr
    cases e'
    exact (r5 b e).2.1
  have hG0 : G W (W.alloc (.cells #[.slice a n c, .int .i64 0] 25)) (some W.heap.size) := (G.refl _ _).alloc _
  clear hr hz
  go_enter Tryd.func4, Tryd.ntmps4
  go_wp2_with fail
  refine (range_c 0 4 _ W.heap.size 0 hSB (by omega) (by omega) (by omega) (by omega)).mono ?_; rintro e w1 ⟨r, rfl, r0, r1, hSB1, hG1⟩
  obtain ⟨m, rfl⟩ := Int.eq_ofNat_of_zero_le r0
  have hm4 : m ≤ 4 := by omega
  have hG01 := hG0.trans hG1
  clear hSB hG0 hG1 r0 r1
  go_wp2_with fail
  refine (hires_c m _ W.heap.size _ hm4 hSB1 (by omega)).mono ?_; rintro e w2 ⟨v, L, rfl, hL, hLn, hSB2, hG2⟩
  have hs1 : W.heap.size < w1.heap.size + 1 := by have := hSB1.lt; omega
  have hG02 := hG01.trans hG2
  clear hSB1 hG01 hG2
  go_wp2_with fail
  refine (some_c _ _ _ [⟨#[118, 49]⟩, ⟨#[118, 49]⟩, ⟨#[118, 50]⟩, ⟨#[118, 51]⟩, ⟨#[]⟩] _ _ _ (hSB2.alloc _) (by omega) (by decide) (by decide) (Rd.newAt _ rfl rfl (by decide)) (hSB2.newAt _ _ _ (Nat.le_refl _))).mono ?_; rintro e w3 ⟨vv, rfl, hp, hSB3, hh⟩
  have HVV := Lib.hid (small_pick hp (by decide))
  have hq := ((G.refl w2 (some W.heap.size)).alloc (.cells _ 9)).trans hh
  have hL3 := hL.kept hs1 hq
  have hG03 := hG02.trans hq
  clear hSB2 hG02 hL hh hq hp
  go_wp2_with fail
  refine (pick_c _ _ _ [0, 50, 99, 100, 160, 300, 1000, 1500, 4000, -1] _ _ _ (hSB3.alloc _) (by omega) (by decide) (by decide) (Rd.newAt _ rfl rfl (by decide)) (hSB3.newAt _ _ _ (Nat.le_refl _))).mono ?_; rintro e w4 ⟨t, rfl, hp, hSB4, hh⟩
  have hq := ((G.refl w3 (some W.heap.size)).alloc (.cells _ 3)).trans hh
  have HOK := Lib.hid hL3.2.1
  have hR := (hL3.kept hs1 hq).rd
  have hG := (hG03.trans hq).own (Nat.le_refl _)
  clear hSB3 hG03 hL3 hh hq hp hSB4 hs1
  obtain ⟨a1, c1, rfl, -, -⟩ := RdR.form hR.1
  have CW := Lib.hid (fun w' (q : HxR w' (.slice a1 L.length c1) L) => with_c _ L vv t w' q HOK.out (by omega) HVV.out)
  have CO := Lib.hid (fun w' (q : HxR w' (.slice a1 L.length c1) L) => overdue_c _ L t w' q HOK.out (by omega))
  have CHF := Lib.hid (fun w' (q : HxR w' (.slice a1 L.length c1) L) => hiresFault_c _ L w' q HOK.out (by omega))
  have COO := Lib.hid (fun (e : odE t L = 0) w' (q : HxR w' (.slice a1 L.length c1) L) => overdueOf_c _ L t w' q HOK.out (odE_ha e))
  have CHW := Lib.hid (fun (e : wkE vv t L = 0) w' (q : HxR w' (.slice a1 L.length c1) L) => hireWith_c _ L vv t w' q HOK.out (by omega) (haE_all (wkE_ha e)).1)
  have HW0 := Lib.hid (wkE_or vv t L)
  have HW1 : Hid (wkE vv t L = 0 → wkS vv t L = (wkO vv t L).getD ⟨#[]⟩ ∧ wkB vv t L = (wkO vv t L).isSome) := Lib.hid fun e => ⟨by unfold wkS; rw [if_pos e], by unfold wkB; rw [if_pos e]⟩
  have HE1 := Lib.hid (wk_errs vv t L)
  have HE2 := Lib.hid (od_errs t L)
  have HO1 : Hid (odE t L = 0 → odR (odE t L) t L = odL t L ∧ (odL t L).length ≤ 1000000) := Lib.hid fun e => ⟨by rw [odR, if_pos e], by have := odL_len t L; omega⟩
  have HO0 : Hid (odE t L ≠ 0 → odR (odE t L) t L = []) := Lib.hid fun e => by rw [odR, if_neg e]
  generalize odR (odE t L) t L = OR at CO HO1 HO0
  generalize odL t L = OL at COO HO1
  generalize odE t L = E2 at CO COO HE2 HO1 HO0
  generalize wkS vv t L = WS at CW HW0 HW1
  generalize wkB vv t L = WB at CW HW0 HW1
  generalize wkE vv t L = E1 at CW CHW HE1 HW0 HW1
  generalize (wkO vv t L).getD ⟨#[]⟩ = OS at CHW HW1
  generalize (wkO vv t L).isSome = OB at CHW HW1
  generalize haE L = HA at CHF HE1 HE2
  go_wp2_with fail
  refine (CW.out _ hR).mono ?_; rintro e w5 ⟨rfl, hh⟩
  replace hR := hR.quiet hh
  replace hG := hG.trans hh
  clear hh CW
  go_wp2_with fail
  refine (CO.out _ hR).mono ?_; rintro e w6 ⟨v', rfl, hOR, hh⟩
  replace hR := hR.quiet hh
  replace hG := hG.trans hh
  clear hh CO
  go_wp2_with fail
  refine (CHF.out _ hR).mono ?_; rintro e w7 ⟨rfl, hh⟩
  replace hR := hR.quiet hh
  replace hOR := Rd.quiet hOR hh
  replace hG := hG.trans hh
  clear hh
  go_wp2_with fail
  refine (kyFault_c vv _ HVV.out).mono ?_; rintro e w8 ⟨rfl, hh⟩
  replace hR := hR.quiet hh
  replace hOR := Rd.quiet hOR hh
  replace hG := hG.trans hh
  clear hh
  go_wp2_with fail
  refine (momentFault_c t _).mono ?_; rintro e w' ⟨rfl, rfl⟩
  go_wp2_with fail
  refine (errs_c [HA, kyE vv, momE t] _ _ (Rd.new #[.int .i64 HA, .int .i64 (kyE vv), .int .i64 (momE t)] rfl (by show 3 ≤ maxLen; decide)) (by simp)).mono ?_; rintro e w' ⟨rfl, rfl⟩
  rw [HE1.out]
  have hh := (G.refl w8 none).alloc (.cells #[.int .i64 HA, .int .i64 (kyE vv), .int .i64 (momE t)] 40)
  replace hR := hR.quiet hh
  replace hOR := Rd.quiet hOR hh
  replace hG := hG.trans hh
  clear hh HE1
  generalize kyE vv = KE at hR hOR hG ⊢
  go_upto_region 6 with fail
  generalize w8.alloc (.cells #[.int .i64 HA, .int .i64 KE, .int .i64 (momE t)] 40) = w9 at hR hOR hG ⊢
  go_wp2_with fail
  refine (CHF.out _ hR).mono ?_; rintro e wa ⟨rfl, hh⟩
  replace hR := hR.quiet hh
  replace hOR := Rd.quiet hOR hh
  replace hG := hG.trans hh
  clear hh CHF
  go_wp2_with fail
  refine (momentFault_c t _).mono ?_; rintro e w' ⟨rfl, rfl⟩
  go_wp2_with fail
  refine (errs_c [HA, momE t] _ _ (Rd.new #[.int .i64 HA, .int .i64 (momE t)] rfl (by show 2 ≤ maxLen; decide)) (by simp)).mono ?_; rintro e w' ⟨rfl, rfl⟩
  rw [HE2.out]
  have hh := (G.refl wa none).alloc (.cells #[.int .i64 HA, .int .i64 (momE t)] 40)
  replace hR := hR.quiet hh
  replace hOR := Rd.quiet hOR hh
  replace hG := hG.trans hh
  clear hh HE2
  generalize momE t = ME at hR hOR hG ⊢
  go_upto_region 7 with fail
  generalize wa.alloc (.cells #[.int .i64 HA, .int .i64 ME] 40) = wb at hR hOR hG ⊢
  have hxx : (E1 != E1) = false := by simp
  have hyy : (E2 != E2) = false := by simp
  go_cut [85] from 16 (fun s85 w' => s85 = .bool false ∧ HxR w' (.slice a1 L.length c1) L ∧ G W w' none)
  case first =>
    by_cases k2 : E2 = 0
    · obtain ⟨rfl, hol⟩ := HO1.out k2
      have COO1 := Lib.hid (COO.out k2)
      have k2' : (E2 != 0) = false := by simp [k2]
      have k2'' : (E2 == 0) = true := by simp [k2]
      clear COO HO1 HO0 CHW HW0 HW1 k2
      go_wp2_with fail
      refine (COO1.out _ hR).mono ?_; rintro e wc ⟨v2, rfl, hO2, hh⟩
      replace hR := hR.quiet hh
      replace hOR := Rd.quiet hOR hh
      replace hG := hG.trans hh
      clear hh
      go_wp2_with fail
      refine (sEqual_c v' v2 _ _ hOR hO2 hol).mono ?_; rintro e wd ⟨rfl, hh⟩
      replace hR := hR.quiet hh
      replace hG := hG.trans hh
      clear hh
      go_wp2_with fail
      go_meet
      case rel => exact ⟨rfl, hR, hG⟩
    · have ho := HO0.out k2
      subst ho
      obtain ⟨a', c', rfl, -, -⟩ := RdR.form (c := ssC) (l := []) hOR
      have k2' : (E2 != 0) = true := by simpa using k2
      have k2'' : (E2 == 0) = false := by simpa using k2
      clear COO HO1 HO0 CHW HW0 HW1 k2
      go_wp2_with fail
      go_meet
      case rel => exact ⟨rfl, hR, hG⟩
  case rest =>
    obtain ⟨rfl, hR2, hG2⟩ := hcut
    clear hR hOR hG COO HO1 HO0 hxx hyy
    by_cases k1 : E1 = 0
    · obtain ⟨rfl, rfl⟩ := HW1.out k1
      have CHW1 := Lib.hid (CHW.out k1)
      have k1' : (E1 == 0) = true := by simp [k1]
      clear CHW HW0 HW1 k1
      have hss : (WS.toList == WS.toList) = true := by simp
      have hbb : (WB == WB) = true := by simp
      go_wp2_with fail
      refine (CHW1.out _ hR2).mono ?_; rintro e wd ⟨rfl, hh⟩
      go_wp2_with fail
      refine (hired_c _).mono ?_; rintro e we ⟨rfl, hh2⟩
      go_wp2_with fail
      go_ret
      exact ⟨rfl, (hG2.trans hh).trans hh2⟩
    · obtain ⟨rfl, rfl⟩ := HW0.out k1
      have k1' : (E1 == 0) = false := by simpa using k1
      clear CHW HW0 HW1 k1
      go_wp2_with fail
      refine (hired_c _).mono ?_; rintro e we ⟨rfl, hh2⟩
      go_wp2_with fail
      go_ret
      exact ⟨rfl, hG2.trans hh2⟩
end Go.Proofs.YtdcofbciebkfkaaDoor

/- The law HiresClash. -/
namespace Go.Proofs.YtdcofbciebkfkaaDoor
open Go.RowKit

theorem ks_neqf (x : Ks) (w : World) : (binOp .neq 75 (.agg #[.string x.1, .string x.2.1, .int .i64 x.2.2.1, .int .i64 x.2.2.2]) (.agg #[.string x.1, .string x.2.1, .int .i64 x.2.2.1, .int .i64 x.2.2.2])).run Tryd.prog w = .ok (.bool false) w := by
  have ht : Tryd.prog.underlying 75 = some (.struct (Tryd.prog.fieldsOf 75)) := by kernel_rfl
  have hp : Tryd.prog.stoodInHeld 75 = false := by kernel_rfl
  rw [run_neq_struct, run_equalIn_agg w 9999 75 _ _ ht hp]
  simp [Tryd.underlying75, Tryd.underlying3, Tryd.underlying9, go_sem]
def KsqRel (l : List Ks) (w : World) (i : Value) (wr : World) : Prop := ∃ k n : Nat, k ≤ l.length ∧ i = .int .i64 k ∧ wr = w.drewN n
set_option maxRecDepth 100000 in
set_option maxHeartbeats 2000000 in
theorem ksEqual_c (v u : Value) (l : List Ks) (w : World) (hr : RdR w 4 ksC v l) (hs : RdR w 4 ksC u l) (hn : l.length ≤ 1000000) :
    Calls Tryd.prog 44 #[v, u] w fun e w' => e = .returned (.bool true) ∧ G w w' none := by
  have HR := Lib.hid hr
  have HS := Lib.hid hs
  obtain ⟨a, cap, rfl, hcap, hm1⟩ := RdR.form hr
  obtain ⟨a2, cap2, rfl, hcap2, hm2⟩ := RdR.form hs
  clear hr hs
  have hlq : ((l.length : Int) != (l.length : Int)) = false := by simp
  go_enter Tryd.func44, Tryd.ntmps44
  go_wp2_with fail
  go_loopw [13] (KsqRel l w) (fun i _ => l.length - (intOf i).toNat)
  case atStart => exact ⟨0, 0, by omega, rfl, rfl⟩
  case round =>
    obtain ⟨k, n, hk, rfl, rfl⟩ := hrel
    by_cases hlt : k < l.length
    · obtain ⟨x, hx⟩ : ∃ x, l[k]? = some x := ⟨_, List.getElem?_eq_getElem hlt⟩
      obtain ⟨bb, bo, rfl, hbb, _⟩ := RdR.elem ksC_sz HR.out (G.refl w none) hx
      obtain ⟨b2, o2, rfl, hb2, _⟩ := RdR.elem ksC_sz HS.out (G.refl w none) hx
      have d0 := RdR.cell ksC_sz HR.out (G.refl w none) hx 0 (.string x.1) rfl
      have d1 := RdR.cell ksC_sz HR.out (G.refl w none) hx 1 (.string x.2.1) rfl
      have d2 := RdR.cell ksC_sz HR.out (G.refl w none) hx 2 (.int .i64 x.2.2.1) rfl
      have d3 := RdR.cell ksC_sz HR.out (G.refl w none) hx 3 (.int .i64 x.2.2.2) rfl
      have e0 := RdR.cell ksC_sz HS.out (G.refl w none) hx 0 (.string x.1) rfl
      have e1 := RdR.cell ksC_sz HS.out (G.refl w none) hx 1 (.string x.2.1) rfl
      have e2 := RdR.cell ksC_sz HS.out (G.refl w none) hx 2 (.int .i64 x.2.2.1) rfl
      have e3 := RdR.cell ksC_sz HS.out (G.refl w none) hx 3 (.int .i64 x.2.2.2) rfl
      simp only [Nat.add_zero] at d0 e0
      have hnq := ks_neqf x
      clear hx
      go_wp2_with fail
      go_quiet (fail)
      go_wp2_with fail
      go_roundw
      case rel => exact ⟨k + 1, _, by omega, by go_num, rfl⟩
      case measure => simp [intOf]; omega
    · obtain rfl : k = l.length := by omega
      go_wp2_with fail
      go_ret
      exact ⟨rfl, (G.refl _ _).drewN _⟩
theorem clAll_len : ∀ L : List Hx, L.length ≤ 5 → (clAll L).length ≤ 1000
  | [], _ => by simp [clAll]
  | x :: r, h => by
    have h1 := clRow_len x r
    simp only [List.length_cons] at h
    have h2 : ∀ (n : Nat) (r : List Hx), r.length ≤ n → (clAll r).length ≤ 2 * n * n := by
      intro n
      induction n with
      | zero =>
        intro r hr
        obtain rfl : r = [] := List.eq_nil_of_length_eq_zero (by omega)
        simp [clAll]
      | succ n ih =>
        intro r hr
        cases r with
        | nil => simp [clAll]
        | cons y r =>
          simp only [List.length_cons] at hr
          have q1 := clRow_len y r
          have q2 := ih r (by omega)
          have q3 : 2 * (n + 1) * (n + 1) = 2 * n * n + 4 * n + 2 := by
            simp only [Nat.mul_add, Nat.add_mul]; omega
          simp only [clAll, List.length_append]
          omega
    have q := h2 4 r (by omega)
    simp only [clAll, List.length_append]
    omega
set_option maxRecDepth 100000 in
set_option maxHeartbeats 8000000 in
theorem hiresClash_c (a : Option Addr) (n c : Nat) (zs : List Int) (W : World) (hr : Rd W 1 (.slice a n c) n (zs.map (Value.int .i64))) (hz : ∀ z ∈ zs, -9223372036854775808 ≤ z ∧ z ≤ 9223372036854775807) :
    Calls Tryd.prog 5 #[.slice a n c] W fun e W' => e = .returned (.bool true) ∧ G W W' none := by
  have hSB : SB (W.alloc (.cells #[.slice a n c, .int .i64 0] 25)) W.heap.size 0 := by
    have hB := Bk.new W 25 #[.slice a n c, .int .i64 0]
    refine ⟨0, a, n, c, zs, Nat.le_refl _, hr.quiet ((G.refl _ _).alloc _), fun b e => ?_, hz, hB.cell 0, hB.cell 1, hB.free 1, hB.lt⟩
    obtain ⟨a', c', e', r1, r2, r3, r4, r5⟩ := hr
    cases e'
    exact (r5 b e).2.1
  have hG0 : G W (W.alloc (.cells #[.slice a n c, .int .i64 0] 25)) (some W.heap.size) := (G.refl _ _).alloc _
  clear hr hz
  go_enter Tryd.func5, Tryd.ntmps5
  go_wp2_with fail
  refine (range_c 0 4 _ W.heap.size 0 hSB (by omega) (by omega) (by omega) (by omega)).mono ?_; rintro e w1 ⟨r, rfl, r0, r1, hSB1, hG1⟩
  obtain ⟨m, rfl⟩ := Int.eq_ofNat_of_zero_le r0
  have hm4 : m ≤ 4 := by omega
  have hG01 := hG0.trans hG1
  clear hSB hG0 hG1 r0 r1
  go_wp2_with fail
  refine (hires_c m _ W.heap.size _ hm4 hSB1 (by omega)).mono ?_; rintro e w2 ⟨v, L, rfl, hL, hLn, hSB2, hG2⟩
  have HOK := Lib.hid hL.2.1
  have hR := hL.rd
  have hG := (hG01.trans hG2).own (Nat.le_refl _)
  clear hSB1 hG01 hG2 hL hSB2
  obtain ⟨a1, c1, rfl, -, -⟩ := RdR.form hR.1
  have CC := Lib.hid (fun w' (q : HxR w' (.slice a1 L.length c1) L) => clashes_c _ L w' q HOK.out hLn)
  have CHF := Lib.hid (fun w' (q : HxR w' (.slice a1 L.length c1) L) => hiresFault_c _ L w' q HOK.out (by omega))
  have CCA := Lib.hid (fun w' (q : HxR w' (.slice a1 L.length c1) L) => checkAll_c _ L w' q HOK.out (by omega))
  have CRO := Lib.hid (fun (e : haE L = 0) w' (q : HxR w' (.slice a1 L.length c1) L) => clashesOfR_c _ L w' q HOK.out hLn e)
  have HK1 : Hid (haE L = 0 → ksR L = clAll L) := Lib.hid fun e => by rw [ksR, if_pos e]
  have HK0 : Hid (haE L ≠ 0 → ksR L = []) := Lib.hid fun e => by rw [ksR, if_neg e]
  have HLN := Lib.hid (clAll_len L hLn)
  generalize ksR L = KR at CC HK1 HK0
  generalize clAll L = KA at CRO HK1 HLN
  generalize haE L = HA at CC CHF CCA CRO HK1 HK0
  go_wp2_with fail
  refine (CC.out _ hR).mono ?_; rintro e w5 ⟨v', rfl, hKR, hh⟩
  replace hR := hR.quiet hh
  replace hG := hG.trans hh
  clear hh CC
  go_wp2_with fail
  refine (CHF.out _ hR).mono ?_; rintro e w6 ⟨rfl, hh⟩
  replace hR := hR.quiet hh
  replace hKR := Rd.quiet hKR hh
  replace hG := hG.trans hh
  clear hh CHF
  go_wp2_with fail
  refine (CCA.out _ hR).mono ?_; rintro e w7 ⟨rfl, hh⟩
  replace hR := hR.quiet hh
  replace hKR := Rd.quiet hKR hh
  replace hG := hG.trans hh
  clear hh CCA
  have hxx : (HA != HA) = false := by simp
  by_cases k1 : HA = 0
  · obtain rfl := HK1.out k1
    have CRO1 := Lib.hid (CRO.out k1)
    have k1' : (HA != 0) = false := by simp [k1]
    clear CRO HK1 HK0 k1
    go_wp2_with fail
    refine (CRO1.out _ hR).mono ?_; rintro e w8 ⟨v2, rfl, hK2, hh⟩
    replace hKR := Rd.quiet hKR hh
    replace hG := hG.trans hh
    clear hh
    go_wp2_with fail
    refine (ksEqual_c v' v2 _ _ hKR hK2 (by have := HLN.out; omega)).mono ?_; rintro e w9 ⟨rfl, hh⟩
    replace hG := hG.trans hh
    clear hh
    go_wp2_with fail
    refine (hired_c _).mono ?_; rintro e we ⟨rfl, hh2⟩
    go_wp2_with fail
    go_ret
    exact ⟨rfl, hG.trans hh2⟩
  · have ho := HK0.out k1
    subst ho
    obtain ⟨a', c', rfl, -, -⟩ := RdR.form (c := ksC) (l := []) hKR
    have k1' : (HA != 0) = true := by simpa using k1
    clear CRO HK1 HK0 k1
    go_wp2_with fail
    refine (hired_c _).mono ?_; rintro e we ⟨rfl, hh2⟩
    go_wp2_with fail
    go_ret
    exact ⟨rfl, hG.trans hh2⟩
end Go.Proofs.YtdcofbciebkfkaaDoor

/- ClashesMean: the index of a hire; what its clashes mean (mathematics). -/
namespace Go.Proofs.YtdcofbciebkfkaaDoor
open Go.RowKit

def hxAt (t : ByteArray) (L : List Hx) : Int := ixP (fun p => p.1.1.toList == t.toList) L 0
def IhRel (w : World) (L : List Hx) (t : ByteArray) (i : Value) (wr : World) : Prop :=
  ∃ k : Nat, k ≤ L.length ∧ i = .int .i64 k ∧ hxAt t L = ixP (fun p : Hx => p.1.1.toList == t.toList) (L.drop k) k ∧ G w wr none
set_option maxRecDepth 100000 in
theorem mean1_c (p : Hx) (k : Ks) (g : Nat) (w : World) (hB : Bk w g 75 (ksC k)) : Calls Tryd.prog 48 #[.agg #[.string p.1.1, .string p.1.2.1, .int .i64 p.1.2.2.1, .int .i64 p.1.2.2.2, .slice p.2.1.1 p.2.2.length p.2.1.2], .pointer (some ⟨g, 0, none⟩)] w fun e w' => e = .returned (.bool (p.1.1.toList == k.1.toList)) ∧ G w w' none := by
  have hc := (Bk.new w 33 #[.string p.1.1, .string p.1.2.1, .int .i64 p.1.2.2.1, .int .i64 p.1.2.2.2, .slice p.2.1.1 p.2.2.length p.2.1.2]).cell 0
  rw [show (#[.string p.1.1, .string p.1.2.1, .int .i64 p.1.2.2.1, .int .i64 p.1.2.2.2, .slice p.2.1.1 p.2.2.length p.2.1.2] : Array Value)[0]? = some (.string p.1.1) from rfl] at hc
  have hc2 := (hB.alloc (.cells #[.string p.1.1, .string p.1.2.1, .int .i64 p.1.2.2.1, .int .i64 p.1.2.2.2, .slice p.2.1.1 p.2.2.length p.2.1.2] 33)).cell 0
  rw [show (ksC k)[0]? = some (.string k.1) from rfl] at hc2
  go_enter Tryd.func48, Tryd.ntmps48
  go_wp2_with fail
  go_ret
  exact ⟨rfl, (G.refl _ _).alloc _⟩
set_option maxRecDepth 100000 in
theorem mean2_c (p : Hx) (k : Ks) (g : Nat) (w : World) (hB : Bk w g 75 (ksC k)) : Calls Tryd.prog 49 #[.agg #[.string p.1.1, .string p.1.2.1, .int .i64 p.1.2.2.1, .int .i64 p.1.2.2.2, .slice p.2.1.1 p.2.2.length p.2.1.2], .pointer (some ⟨g, 0, none⟩)] w fun e w' => e = .returned (.bool (p.1.1.toList == k.2.1.toList)) ∧ G w w' none := by
  have hc := (Bk.new w 33 #[.string p.1.1, .string p.1.2.1, .int .i64 p.1.2.2.1, .int .i64 p.1.2.2.2, .slice p.2.1.1 p.2.2.length p.2.1.2]).cell 0
  rw [show (#[.string p.1.1, .string p.1.2.1, .int .i64 p.1.2.2.1, .int .i64 p.1.2.2.2, .slice p.2.1.1 p.2.2.length p.2.1.2] : Array Value)[0]? = some (.string p.1.1) from rfl] at hc
  have hc2 := (hB.alloc (.cells #[.string p.1.1, .string p.1.2.1, .int .i64 p.1.2.2.1, .int .i64 p.1.2.2.2, .slice p.2.1.1 p.2.2.length p.2.1.2] 33)).cell 1
  rw [show (ksC k)[1]? = some (.string k.2.1) from rfl] at hc2
  go_enter Tryd.func49, Tryd.ntmps49
  go_wp2_with fail
  go_ret
  exact ⟨rfl, (G.refl _ _).alloc _⟩
set_option maxRecDepth 100000 in
set_option maxHeartbeats 2000000 in
theorem indexA_c (v : Value) (L : List Hx) (c : Ks) (g : Nat) (w : World) (hr : RdR w 5 hxC v L) (hn : L.length ≤ 1000) (hB : Bk w g 75 (ksC c)) :
    Calls Tryd.prog 47 #[v, .func (.func 48) #[] #[.pointer (some ⟨g, 0, none⟩)]] w fun e w' => e = .returned (.int .i64 (hxAt c.1 L)) ∧ G w w' none := by
  have HR := Lib.hid hr
  obtain ⟨a, cap, rfl, hcap, hm⟩ := RdR.form hr
  clear hr
  go_enter Tryd.func47, Tryd.ntmps47
  go_wp2_with fail
  go_loopw [8] (IhRel w L c.1) (fun i _ => L.length - (intOf i).toNat)
  case atStart => exact ⟨0, by omega, rfl, rfl, G.refl _ _⟩
  case round =>
    obtain ⟨k, hk, rfl, heq, hG⟩ := hrel
    have HE := Lib.hid heq
    clear heq
    by_cases hlt : k < L.length
    · obtain ⟨p, hp⟩ : ∃ p, L[k]? = some p := ⟨_, List.getElem?_eq_getElem hlt⟩
      have HD : Hid (hxAt c.1 L = if (p.1.1.toList == (c.1).toList) = true then (k : Int) else ixP (fun p : Hx => p.1.1.toList == (c.1).toList) (L.drop (k + 1)) ((k : Int) + 1)) := Lib.hid (by
        rw [HE.out, List.drop_eq_getElem_cons hlt, (List.getElem?_eq_some_iff.1 hp).2]; rfl)
      obtain ⟨bb, bo, rfl, -, -⟩ := RdR.elem hxC_sz HR.out hG hp
      have HW := Lib.hid (hxRow HR.out hG hp)
      have HK := Lib.hid hlt
      clear hp
      go_wp2_with (refine wpList_load_at rfl 33 _ rfl ⟨bb, bo + k * 5, none⟩ rfl #[.string p.1.1, .string p.1.2.1, .int .i64 p.1.2.2.1, .int .i64 p.1.2.2.2, .slice p.2.1.1 p.2.2.length p.2.1.2] _ HW.out Tryd.underlying33 rfl (hi_info p.1 (hxV p)) ?_)
      refine (mean1_c p c g _ (hB.quiet hG)).mono ?_; rintro e w1 ⟨rfl, hG1⟩
      cases he : (p.1.1.toList == (c.1).toList) with
      | true =>
        have HF : Hid (hxAt c.1 L = k) := Lib.hid (by rw [HD.out, if_pos he])
        clear he
        go_wp2_with fail
        go_ret
        exact ⟨ret_int HF.out.symm, hG.trans hG1⟩
      | false =>
        have HF : Hid (hxAt c.1 L = ixP (fun p : Hx => p.1.1.toList == (c.1).toList) (L.drop (k + 1)) ((k + 1 : Nat) : Int)) := Lib.hid (by rw [HD.out, if_neg (by simp [he])]; rfl)
        clear he
        go_wp2_with fail
        go_roundw
        case rel => exact ⟨k + 1, by omega, by go_num, HF.out, hG.trans hG1⟩
        case measure => have := HK.out; simp [intOf]; omega
    · obtain rfl : k = L.length := by omega
      have HF : Hid (hxAt c.1 L = -1) := Lib.hid (by rw [HE.out, List.drop_length]; rfl)
      go_wp2_with fail
      go_ret
      exact ⟨ret_int HF.out.symm, hG⟩
set_option maxRecDepth 100000 in
set_option maxHeartbeats 2000000 in
theorem indexB_c (v : Value) (L : List Hx) (c : Ks) (g : Nat) (w : World) (hr : RdR w 5 hxC v L) (hn : L.length ≤ 1000) (hB : Bk w g 75 (ksC c)) :
    Calls Tryd.prog 47 #[v, .func (.func 49) #[] #[.pointer (some ⟨g, 0, none⟩)]] w fun e w' => e = .returned (.int .i64 (hxAt c.2.1 L)) ∧ G w w' none := by
  have HR := Lib.hid hr
  obtain ⟨a, cap, rfl, hcap, hm⟩ := RdR.form hr
  clear hr
  go_enter Tryd.func47, Tryd.ntmps47
  go_wp2_with fail
  go_loopw [8] (IhRel w L c.2.1) (fun i _ => L.length - (intOf i).toNat)
  case atStart => exact ⟨0, by omega, rfl, rfl, G.refl _ _⟩
  case round =>
    obtain ⟨k, hk, rfl, heq, hG⟩ := hrel
    have HE := Lib.hid heq
    clear heq
    by_cases hlt : k < L.length
    · obtain ⟨p, hp⟩ : ∃ p, L[k]? = some p := ⟨_, List.getElem?_eq_getElem hlt⟩
      have HD : Hid (hxAt c.2.1 L = if (p.1.1.toList == (c.2.1).toList) = true then (k : Int) else ixP (fun p : Hx => p.1.1.toList == (c.2.1).toList) (L.drop (k + 1)) ((k : Int) + 1)) := Lib.hid (by
        rw [HE.out, List.drop_eq_getElem_cons hlt, (List.getElem?_eq_some_iff.1 hp).2]; rfl)
      obtain ⟨bb, bo, rfl, -, -⟩ := RdR.elem hxC_sz HR.out hG hp
      have HW := Lib.hid (hxRow HR.out hG hp)
      have HK := Lib.hid hlt
      clear hp
      go_wp2_with (refine wpList_load_at rfl 33 _ rfl ⟨bb, bo + k * 5, none⟩ rfl #[.string p.1.1, .string p.1.2.1, .int .i64 p.1.2.2.1, .int .i64 p.1.2.2.2, .slice p.2.1.1 p.2.2.length p.2.1.2] _ HW.out Tryd.underlying33 rfl (hi_info p.1 (hxV p)) ?_)
      refine (mean2_c p c g _ (hB.quiet hG)).mono ?_; rintro e w1 ⟨rfl, hG1⟩
      cases he : (p.1.1.toList == (c.2.1).toList) with
      | true =>
        have HF : Hid (hxAt c.2.1 L = k) := Lib.hid (by rw [HD.out, if_pos he])
        clear he
        go_wp2_with fail
        go_ret
        exact ⟨ret_int HF.out.symm, hG.trans hG1⟩
      | false =>
        have HF : Hid (hxAt c.2.1 L = ixP (fun p : Hx => p.1.1.toList == (c.2.1).toList) (L.drop (k + 1)) ((k + 1 : Nat) : Int)) := Lib.hid (by rw [HD.out, if_neg (by simp [he])]; rfl)
        clear he
        go_wp2_with fail
        go_roundw
        case rel => exact ⟨k + 1, by omega, by go_num, HF.out, hG.trans hG1⟩
        case measure => have := HK.out; simp [intOf]; omega
    · obtain rfl : k = L.length := by omega
      have HF : Hid (hxAt c.2.1 L = -1) := Lib.hid (by rw [HE.out, List.drop_length]; rfl)
      go_wp2_with fail
      go_ret
      exact ⟨ret_int HF.out.symm, hG⟩
theorem ixP_at {α : Type} (q : α → Bool) : ∀ (l : List α) (k : Int) (i : Nat) (x : α), l[i]? = some x → q x = true → (∀ j y, j < i → l[j]? = some y → q y = false) → ixP q l k = k + i
  | [], _, i, x, h, _, _ => by simp at h
  | y :: r, k, 0, x, h, hq, _ => by
    simp only [List.getElem?_cons_zero, Option.some.injEq] at h
    subst h
    unfold ixP
    rw [if_pos hq]
    simp
  | y :: r, k, i + 1, x, h, hq, hj => by
    unfold ixP
    rw [if_neg (by rw [hj 0 y (by omega) rfl]; simp), ixP_at q r (k + 1) i x (by simpa using h) hq (fun j z hji hz => hj (j + 1) z (by omega) (by simpa using hz))]
    push_cast
    omega
theorem le_no {a b : ByteArray} (h : leB a b = false) : cmpI b a < 0 := by
  rw [leB_cmp] at h
  simp only [decide_eq_false_iff_not] at h
  have := cmpI_neg a b
  omega
/-- Keys that rise. -/
theorem hs_keys : ∀ (L : List Hx) (b : ByteArray), hsE b L = 0 → (∀ x ∈ L, cmpI b x.1.1 < 0) ∧ L.Pairwise (fun x y => cmpI x.1.1 y.1.1 < 0)
  | [], _, _ => ⟨fun x hx => by (cases hx), List.Pairwise.nil⟩
  | y :: r, b, e => by
    unfold hsE at e
    split at e
    · split at e
      · cases e
      · next h =>
        have h := le_no (show leB y.1.1 b = false by simpa using h)
        obtain ⟨i1, i2⟩ := hs_keys r y.1.1 e
        refine ⟨fun x hx => ?_, List.pairwise_cons.2 ⟨i1, i2⟩⟩
        rcases List.mem_cons.1 hx with rfl | hx
        · exact h
        · exact cmpI_trans h (i1 x hx)
    · contradiction
theorem hxAt_key {L : List Hx} (e : haE L = 0) {i : Nat} {x : Hx} (hx : L[i]? = some x) : hxAt x.1.1 L = i := by
  have hs : hsE ⟨#[]⟩ L = 0 := by
    unfold haE at e
    split at e
    · cases e
    · exact e
  have hp := (hs_keys L _ hs).2
  unfold hxAt
  rw [ixP_at _ L 0 i x hx (by simp) (fun j y hj hy => ?_)]
  · omega
  · have := List.pairwise_iff_getElem.1 hp j i (List.getElem?_eq_some_iff.1 hy).1 (List.getElem?_eq_some_iff.1 hx).1 hj
    rw [(List.getElem?_eq_some_iff.1 hy).2, (List.getElem?_eq_some_iff.1 hx).2] at this
    rw [beq_eq_false_iff_ne]
    intro q
    have q2 : y.1.1 = x.1.1 := toList_ext q
    rw [q2, cmpI_eq.2 rfl] at this
    omega
/-- What a clash means. -/
def CkOk (L : List Hx) (k : Ks) : Prop :=
  ∃ (i j : Nat) (x y : Hx), L[i]? = some x ∧ L[j]? = some y ∧ i < j ∧ k.1 = x.1.1 ∧ k.2.1 = y.1.1 ∧
    ((k.2.2.1 = 1 ∧ ∃ p ∈ x.2.2, ∃ q ∈ y.2.2, ckP alV p q = true ∧ k.2.2.2 = mxF p q) ∨ (k.2.2.1 = 2 ∧ (x.1.2.1.toList == y.1.2.1.toList) = true))
theorem ckL_mem {a b : ByteArray} {kind : Int} {o : Option Int} {k : Ks} (h : k ∈ ckL a b kind o) : ∃ m, o = some m ∧ k = (a, b, kind, m) := by
  cases o with
  | none => simp [ckL] at h
  | some m => exact ⟨m, rfl, by simpa [ckL] using h⟩
theorem clOf_mem {x y : Hx} (hx : hxE x = 0) (hy : hxE y = 0) {k : Ks} (h : k ∈ clOf x.1 y.1 x.2.2 y.2.2) : k.1 = x.1.1 ∧ k.2.1 = y.1.1 ∧
    ((k.2.2.1 = 1 ∧ ∃ p ∈ x.2.2, ∃ q ∈ y.2.2, ckP alV p q = true ∧ k.2.2.2 = mxF p q) ∨ (k.2.2.1 = 2 ∧ (x.1.2.1.toList == y.1.2.1.toList) = true)) := by
  unfold clOf at h
  rcases List.mem_append.1 h with h | h
  · obtain ⟨m, hm, rfl⟩ := ckL_mem h
    have ok := meO_ok alV _ x.2.2 y.2.2 (Nat.le_refl _) (hi_chain hx) (hi_chain hy)
    rw [hm] at ok
    obtain ⟨⟨p, hp, q, hq, hk, e⟩, -⟩ := ok
    exact ⟨rfl, rfl, .inl ⟨rfl, p, hp, q, hq, hk, e⟩⟩
  · obtain ⟨m, hm, rfl⟩ := ckL_mem h
    have ok := meO_ok (alD x.1 y.1) _ x.2.2 y.2.2 (Nat.le_refl _) (hi_chain hx) (hi_chain hy)
    rw [hm] at ok
    obtain ⟨⟨p, hp, q, hq, hk, e⟩, -⟩ := ok
    refine ⟨rfl, rfl, .inr ⟨rfl, ?_⟩⟩
    unfold ckP alD at hk
    simp only [Bool.and_eq_true] at hk
    exact hk.2
theorem clRow_mem {x : Hx} (hx : hxE x = 0) : ∀ (r : List Hx), (∀ y ∈ r, hxE y = 0) → ∀ k ∈ clRow x r, ∃ (j : Nat) (y : Hx), r[j]? = some y ∧ k ∈ clOf x.1 y.1 x.2.2 y.2.2
  | [], _, k, h => by simp [clRow] at h
  | y :: r, hr, k, h => by
    unfold clRow at h
    rcases List.mem_append.1 h with h | h
    · exact ⟨0, y, rfl, h⟩
    · obtain ⟨j, z, hz, hk⟩ := clRow_mem hx r (fun z hz => hr z (List.mem_cons_of_mem _ hz)) k h
      exact ⟨j + 1, z, by simpa using hz, hk⟩
theorem clAll_mem : ∀ (L : List Hx), (∀ y ∈ L, hxE y = 0) → ∀ k ∈ clAll L, CkOk L k
  | [], _, k, h => by simp [clAll] at h
  | x :: r, hr, k, h => by
    have hx := hr x List.mem_cons_self
    unfold clAll at h
    rcases List.mem_append.1 h with h | h
    · obtain ⟨j, y, hy, hk⟩ := clRow_mem hx r (fun z hz => hr z (List.mem_cons_of_mem _ hz)) k h
      have ym := hr y (List.mem_cons_of_mem _ (List.mem_of_getElem? hy))
      obtain ⟨q1, q2, q3⟩ := clOf_mem hx ym hk
      exact ⟨0, j + 1, x, y, rfl, by simpa using hy, by omega, q1, q2, q3⟩
    · obtain ⟨i, j, y, z, hy, hz, hij, q⟩ := clAll_mem r (fun z hz => hr z (List.mem_cons_of_mem _ hz)) k h
      exact ⟨i + 1, j + 1, y, z, by simpa using hy, by simpa using hz, by omega, q⟩
/-- At the moment of a clash of a vehicle a hire has it. -/
def hfB (k : Ks) (x y : Hx) (g : Lg) : Bool :=
  (wkB g.1 k.2.2.2 [x] && wkB g.1 k.2.2.2 [y]) && ((wkS g.1 k.2.2.2 [x]).toList == k.1.toList && (wkS g.1 k.2.2.2 [y]).toList == k.2.1.toList)
theorem key_pos {s : ByteArray} (h : keyB s = true) : leB s ⟨#[]⟩ = false := by
  have hne : s ≠ ⟨#[]⟩ := fun e => by rw [e] at h; exact absurd h (by decide)
  rw [leB_cmp, decide_eq_false_iff_not]
  intro q
  have h1 : cmpI s ⟨#[]⟩ ≠ 0 := fun e => hne (cmpI_eq.1 e)
  have h2 : cmpI s ⟨#[]⟩ = 1 ∨ cmpI s ⟨#[]⟩ = 0 := by
    unfold cmpI
    cases hs : s.data.toList with
    | nil => exact .inr rfl
    | cons a r => exact .inl rfl
  omega
theorem wk_one {x : Hx} {v : ByteArray} {t : Int} (hx : hxE x = 0) (hv : keyB v = true) (ht : momB t = true) (h : x.2.2.any (hasL v t) = true) : wkB v t [x] = true ∧ wkS v t [x] = x.1.1 := by
  have hk : keyB x.1.1 = true := by
    unfold hxE hiE at hx
    split at hx
    · cases hx
    · next q => simpa using q
  have h1 : haE [x] = 0 := by
    unfold haE
    rw [if_neg (by simp)]
    unfold hsE
    rw [if_pos hx, if_neg (by rw [key_pos hk]; simp)]
    rfl
  have hE : wkE v t [x] = 0 := by
    unfold wkE
    rw [if_pos h1, if_pos hv, if_pos ht]
  unfold wkB wkS
  rw [if_pos hE, if_pos hE]
  unfold wkO
  rw [if_pos h]
  exact ⟨rfl, rfl⟩
theorem legs_key {h : Hh} {l : List Lg} (e : hiE h l = 0) : ∀ p ∈ l, keyB p.1 = true := by
  have hs := (hiE_ls e).1
  have key : ∀ (l : List Lg) (f : Int) (b : Option Lg), lsE f b l = 0 → ∀ p ∈ l, keyB p.1 = true := by
    intro l
    induction l with
    | nil => intro f b _ p hp; cases hp
    | cons y t ih =>
      intro f b e p hp
      unfold lsE at e
      split at e
      · next hl =>
        rcases List.mem_cons.1 hp with rfl | hp
        · unfold lgE at hl
          split at hl
          · cases hl
          · next q => simpa using q
        · exact ih f (some y) e p hp
      · contradiction
  exact key l _ _ hs
theorem hf_any {k : Ks} {x y : Hx} (hx : hxE x = 0) (hy : hxE y = 0) (h1 : k.1 = x.1.1) (h2 : k.2.1 = y.1.1) (h : ∃ p ∈ x.2.2, ∃ q ∈ y.2.2, ckP alV p q = true ∧ k.2.2.2 = mxF p q) : x.2.2.any (hfB k x y) = true := by
  obtain ⟨p, hp, q, hq, hk, e⟩ := h
  unfold ckP at hk
  simp only [Bool.and_eq_true, decide_eq_true_eq] at hk
  obtain ⟨hm, hv⟩ := hk
  have ep := leg_ends hx p hp
  have eq := leg_ends hy q hq
  have ht : momB (mxF p q) = true := by unfold momB mxF; simp; omega
  have hpk := legs_key hx p hp
  have a1 : x.2.2.any (hasL p.1 (mxF p q)) = true := List.any_eq_true.2 ⟨p, hp, by unfold hasL hasB mxF; simp; omega⟩
  have a2 : y.2.2.any (hasL p.1 (mxF p q)) = true := List.any_eq_true.2 ⟨q, hq, by
    have hv2 : (q.1.toList == p.1.toList) = true := by unfold alV at hv; rw [beq_iff_eq] at hv ⊢; exact hv.symm
    unfold hasL hasB mxF
    rw [hv2]
    simp
    omega⟩
  obtain ⟨b1, s1⟩ := wk_one hx hpk ht a1
  obtain ⟨b2, s2⟩ := wk_one hy hpk ht a2
  refine List.any_eq_true.2 ⟨p, hp, ?_⟩
  unfold hfB
  rw [e, b1, b2, s1, s2, h1, h2]
  simp
end Go.Proofs.YtdcofbciebkfkaaDoor

/- Odds: the numbers of cases, reckoned as the program does. No program. -/
namespace Go.Proofs.YtdcofbciebkfkaaDoor
open Go.RowKit

/-- The new numbers of cases after j of the old ones were spread. -/
def nx (c : List Int) (p : Int) : Nat → List Int
  | 0 => List.replicate (c.length + 1) 0
  | j + 1 => ((nx c p j).set j ((nx c p j).getD j 0 + c.getD j 0 * (100 - p))).set (j + 1) ((nx c p j).getD (j + 1) 0 + c.getD j 0 * p)
def cas (ps : List Int) : List Int := ps.foldl (fun c p => nx c p c.length) [1]
theorem nx_len (c : List Int) (p : Int) (j : Nat) : (nx c p j).length = c.length + 1 := by
  induction j with
  | zero => simp [nx]
  | succ j ih => simp [nx, ih]
theorem sum_set (l : List Int) : ∀ (i : Nat) (v : Int), i < l.length → (l.set i v).sum = l.sum + (v - l.getD i 0) := by
  induction l with
  | nil => intro i v h; simp at h
  | cons x r ih =>
    intro i v h
    cases i with
    | zero => simp; omega
    | succ i =>
      have := ih i v (by simpa using h)
      simp only [List.set_cons_succ, List.sum_cons, List.getD_cons_succ]
      omega
theorem gdset_ne (l : List Int) (i j : Nat) (v : Int) (h : i ≠ j) : (l.set i v).getD j 0 = l.getD j 0 := by
  simp [List.getD, h]
theorem take_sum (c : List Int) (j : Nat) (h : j < c.length) : (c.take (j + 1)).sum = (c.take j).sum + c.getD j 0 := by
  rw [List.take_succ_eq_append_getElem h, List.sum_append]
  simp [List.getD, h]
theorem nx_sum (c : List Int) (p : Int) (j : Nat) (h : j ≤ c.length) : (nx c p j).sum = 100 * (c.take j).sum := by
  induction j with
  | zero => simp [nx]
  | succ j ih =>
    have hl := nx_len c p j
    unfold nx
    rw [sum_set _ _ _ (by rw [List.length_set, hl]; omega), sum_set _ _ _ (by rw [hl]; omega), gdset_ne _ _ _ _ (by omega), ih (by omega), take_sum c j (by omega)]
    have : c.getD j 0 * (100 - p) + c.getD j 0 * p = 100 * c.getD j 0 := by rw [← Int.mul_add]; rw [show (100 - p + p : Int) = 100 by omega, Int.mul_comm]
    omega
def NN (c : List Int) : Prop := ∀ x ∈ c, 0 ≤ x
theorem NN.getD {c : List Int} (h : NN c) (j : Nat) : 0 ≤ c.getD j 0 := by
  unfold List.getD
  cases hc : c[j]? with
  | none => exact Int.le_refl 0
  | some x => exact h x (List.mem_of_getElem? hc)
theorem NN.set {c : List Int} (h : NN c) (i : Nat) {v : Int} (hv : 0 ≤ v) : NN (c.set i v) := fun x hx => by
  rcases List.mem_or_eq_of_mem_set hx with hx | rfl
  · exact h x hx
  · exact hv
theorem nx_nn {c : List Int} {p : Int} (hc : NN c) (h0 : 0 ≤ p) (h1 : p ≤ 100) (j : Nat) : NN (nx c p j) := by
  induction j with
  | zero => intro x hx; have := List.eq_of_mem_replicate hx; omega
  | succ j ih =>
    unfold nx
    refine NN.set (NN.set ih j ?_) (j + 1) ?_
    · exact Int.add_nonneg (ih.getD j) (Int.mul_nonneg (hc.getD j) (by omega))
    · exact Int.add_nonneg (ih.getD (j + 1)) (Int.mul_nonneg (hc.getD j) h0)
theorem NN.sum {c : List Int} (h : NN c) : 0 ≤ c.sum := by
  induction c with
  | nil => exact Int.le_refl 0
  | cons x r ih =>
    have h1 := h x (List.mem_cons_self ..)
    have h2 := ih fun y hy => h y (List.mem_cons_of_mem _ hy)
    simp only [List.sum_cons]
    omega
theorem NN.le_sum {c : List Int} (h : NN c) (j : Nat) : c.getD j 0 ≤ c.sum := by
  induction c generalizing j with
  | nil => simp
  | cons x r ih =>
    have h1 := h x (List.mem_cons_self ..)
    have hr : NN r := fun y hy => h y (List.mem_cons_of_mem _ hy)
    have h2 := hr.sum
    cases j with
    | zero => simp only [List.getD_cons_zero, List.sum_cons]; omega
    | succ j =>
      have := ih hr j
      simp only [List.getD_cons_succ, List.sum_cons]
      omega
theorem cas_snoc (ps : List Int) (p : Int) : cas (ps ++ [p]) = nx (cas ps) p (cas ps).length := by
  unfold cas
  rw [List.foldl_append]
  rfl
theorem cas_ok (ps : List Int) (h : ∀ p ∈ ps, 0 ≤ p ∧ p ≤ 100) : (cas ps).length = ps.length + 1 ∧ NN (cas ps) ∧ (cas ps).sum = 100 ^ ps.length := by
  have key : ∀ (n : Nat) (ps : List Int), ps.length = n → (∀ p ∈ ps, 0 ≤ p ∧ p ≤ 100) → (cas ps).length = ps.length + 1 ∧ NN (cas ps) ∧ (cas ps).sum = 100 ^ ps.length := by
    intro n
    induction n with
    | zero =>
      intro ps hn _
      obtain rfl := List.eq_nil_of_length_eq_zero hn
      refine ⟨rfl, ?_, rfl⟩
      intro x hx
      have := List.mem_singleton.1 (show x ∈ [1] from hx)
      omega
    | succ n ih =>
      intro ps hn h
      obtain ⟨qs, p, rfl⟩ : ∃ qs p, ps = qs ++ [p] := ⟨ps.dropLast, ps.getLast (by intro e; rw [e] at hn; simp at hn), (List.dropLast_concat_getLast _).symm⟩
      simp at hn
      obtain ⟨h1, h2, h3⟩ := ih qs hn (fun q hq => h q (by simp [hq]))
      obtain ⟨p0, p1⟩ := h p (by simp)
      rw [cas_snoc]
      refine ⟨by rw [nx_len, h1]; simp, nx_nn h2 p0 p1 _, ?_⟩
      rw [nx_sum _ _ _ (Nat.le_refl _), List.take_length, h3, List.length_append, List.length_singleton, Int.pow_succ, Int.mul_comm]
  exact key ps.length ps rfl h
/-- A row of ints. -/
def ic (l : List Int) : Array Value := (l.map (Value.int .i64)).toArray
theorem ic_at (l : List Int) (j : Nat) (h : j < l.length) : (ic l)[j]? = some (.int .i64 (l.getD j 0)) := by
  simp [ic, List.getD, h]
theorem ic_set (l : List Int) (j : Nat) (v : Int) : (ic l).setIfInBounds j (.int .i64 v) = ic (l.set j v) := by
  simp [ic, List.map_set]
theorem ic_size (l : List Int) : (ic l).size = l.length := by simp [ic]
end Go.Proofs.YtdcofbciebkfkaaDoor

/- Bookings: checkForm; the reference's BookingForm. -/
namespace Go.Proofs.YtdcofbciebkfkaaDoor
open Go.RowKit

/-- A booking: key, class, from, to, made, percent. -/
abbrev Bo := ByteArray × ByteArray × Int × Int × Int × Int
def boC (x : Bo) : Array Value := #[.string x.1, .string x.2.1, .int .i64 x.2.2.1, .int .i64 x.2.2.2.1, .int .i64 x.2.2.2.2.1, .int .i64 x.2.2.2.2.2]
theorem boC_sz (x : Bo) : (boC x).size = 6 := rfl
theorem bo_info (x : Bo) : (Tryd.prog.info? 210).map (·.size) = some (boC x).size := (by kernel_rfl : (Tryd.prog.info? 210).map (·.size) = some 6)
def boB (x : Bo) : Prop := Small x.1 ∧ Small x.2.1 ∧ bnd x.2.2.1 ∧ bnd x.2.2.2.1 ∧ bnd x.2.2.2.2.1 ∧ bnd x.2.2.2.2.2
def BoOk (l : List Bo) : Prop := ∀ x ∈ l, boB x
def boT (a z m p : Int) : Bool := timB a z && (inB m 0 a && inB p 0 100)
def boErr (b : ByteArray) : List Bo → Int
  | [] => 0
  | x :: r => if keyB x.1 = false then 5 else if keyB x.2.1 = false then 5 else if leB x.1 b = true then 7 else if boT x.2.2.1 x.2.2.2.1 x.2.2.2.2.1 x.2.2.2.2.2 = false then 1 else boErr x.1 r
def boE (l : List Bo) : Int := if 500 < l.length then 2 else boErr ⟨#[]⟩ l
def BoRel (w : World) (l : List Bo) (v i : Value) (wr : World) : Prop :=
  ∃ (k : Nat) (b : ByteArray), k ≤ l.length ∧ i = .int .i64 k ∧ v = .string b ∧ boErr ⟨#[]⟩ l = boErr b (l.drop k) ∧ G w wr none
theorem boRow {W w : World} {bb bo n cap : Nat} {l : List Bo} (h : RdR W 6 boC (.slice (some ⟨bb, bo, none⟩) n cap) l) (hG : G W w none) {k : Nat} {p : Bo} (hp : l[k]? = some p) :
    ∀ j v, (boC p).toList[j]? = some v → w.cell? ((⟨bb, bo + k * 6, none⟩ : Addr).add j) = some v := fun j v hv => by
  rw [add_at]
  exact RdR.cell boC_sz h hG hp j v hv
theorem boTime {w : World} {g : Nat} {T : TypeId} {p : Bo} (h : Bk w g T (boC p)) : ∀ j v, (#[Value.int .i64 p.2.2.1, .int .i64 p.2.2.2.1] : Array Value).toList[j]? = some v → w.cell? ((⟨g, 2, none⟩ : Addr).add j) = some v := fun j v hv => by
  rw [add_at, h.cell]
  match j, hv with
  | 0, hv => exact hv
  | 1, hv => exact hv
  | n + 2, hv => simp at hv
set_option maxRecDepth 100000 in
set_option maxHeartbeats 4000000 in
theorem checkForm_c (v : Value) (l : List Bo) (w : World) (hr : RdR w 6 boC v l) (hl : BoOk l) (hn : l.length ≤ 1000) :
    Calls Tryd.prog 170 #[v] w fun e w' => e = .returned (.int .i64 (boE l)) ∧ G w w' none := by
  have HR := Lib.hid hr
  obtain ⟨a, cap, rfl, hcap, hm⟩ := RdR.form hr
  clear hr
  by_cases h30 : 500 < l.length
  · have H := Lib.hid (show boE l = 2 by simp [boE, h30])
    go_enter Tryd.func170, Tryd.ntmps170
    go_wp2_with fail
    go_ret
    exact ⟨by rw [H.out]; rfl, G.refl _ _⟩
  · have H := Lib.hid (show boE l = boErr ⟨#[]⟩ l by simp [boE, h30])
    go_enter Tryd.func170, Tryd.ntmps170
    go_wp2_with fail
    go_loopw [3, 11] (BoRel w l) (fun _ i _ => l.length - (intOf i).toNat)
    case atStart => exact ⟨0, ⟨#[]⟩, by omega, rfl, rfl, rfl, G.refl _ _⟩
    case round =>
      obtain ⟨k, b, hkl, rfl, rfl, heq, hG⟩ := hrel
      have HE := Lib.hid heq
      clear heq
      by_cases hk : k < l.length
      · obtain ⟨p, hp⟩ : ∃ p, l[k]? = some p := ⟨_, List.getElem?_eq_getElem hk⟩
        have hdrop : l.drop k = p :: l.drop (k + 1) := by rw [List.drop_eq_getElem_cons hk, ← (List.getElem?_eq_some_iff.1 hp).2]
        have hpl := hl p (List.mem_of_getElem? hp)
        obtain ⟨bb, bo, rfl, hbb, _⟩ := RdR.elem boC_sz HR.out hG hp
        have HW := Lib.hid (boRow HR.out hG hp)
        have hs1 := hpl.1
        have hs2 := hpl.2.1
        unfold Small at hs1 hs2
        have HS : Hid (boErr b (l.drop k) = if keyB p.1 = false then 5 else if keyB p.2.1 = false then 5 else if leB p.1 b = true then 7 else if boT p.2.2.1 p.2.2.2.1 p.2.2.2.2.1 p.2.2.2.2.2 = false then 1 else boErr p.1 (l.drop (k + 1))) := Lib.hid (by rw [hdrop]; rfl)
        have hB5 := Bk.new wr 210 (boC p)
        have hG5 := hG.alloc (.cells (boC p) 210)
        clear hdrop hp hpl hG
        go_wp2_with (refine wpList_load_at rfl 210 _ rfl ⟨bb, bo + k * 6, none⟩ rfl #[.string p.1, .string p.2.1, .int .i64 p.2.2.1, .int .i64 p.2.2.2.1, .int .i64 p.2.2.2.2.1, .int .i64 p.2.2.2.2.2] _ HW.out Tryd.underlying210 rfl (bo_info p) ?_)
        have hB5 : Bk (wr.alloc (.cells #[.string p.1, .string p.2.1, .int .i64 p.2.2.1, .int .i64 p.2.2.2.1, .int .i64 p.2.2.2.2.1, .int .i64 p.2.2.2.2.2] 210)) wr.heap.size 210 (boC p) := hB5
        have hG5 : G w (wr.alloc (.cells #[.string p.1, .string p.2.1, .int .i64 p.2.2.1, .int .i64 p.2.2.2.1, .int .i64 p.2.2.2.2.1, .int .i64 p.2.2.2.2.2] 210)) none := hG5
        have hg5 := hB5.lt
        generalize wr.alloc (.cells #[.string p.1, .string p.2.1, .int .i64 p.2.2.1, .int .i64 p.2.2.2.1, .int .i64 p.2.2.2.2.1, .int .i64 p.2.2.2.2.2] 210) = w5 at hB5 hG5 hg5 ⊢
        generalize wr.heap.size = g at hB5 hg5 ⊢
        refine (isKey_c _ _ hs1).mono ?_; rintro e w1 ⟨rfl, rfl⟩
        have c0 : World.cell? w5 ⟨g, 0, none⟩ = some (.string p.1) := hB5.cell 0
        have c1 : World.cell? w5 ⟨g, 1, none⟩ = some (.string p.2.1) := hB5.cell 1
        have c2 : World.cell? w5 ⟨g, 2, none⟩ = some (.int .i64 p.2.2.1) := hB5.cell 2
        have c3 : World.cell? w5 ⟨g, 3, none⟩ = some (.int .i64 p.2.2.2.1) := hB5.cell 3
        have c4 : World.cell? w5 ⟨g, 4, none⟩ = some (.int .i64 p.2.2.2.2.1) := hB5.cell 4
        have c5 : World.cell? w5 ⟨g, 5, none⟩ = some (.int .i64 p.2.2.2.2.2) := hB5.cell 5
        cases hkb : keyB p.1 with
        | false =>
          have HF : Hid (boE l = 5) := Lib.hid (by rw [H.out, HE.out, HS.out, if_pos hkb])
          clear hkb
          go_wp2_with fail
          go_ret
          exact ⟨by rw [HF.out]; rfl, hG5⟩
        | true =>
          have HK := Lib.hid hkb
          clear hkb
          go_wp2_with fail
          refine (isKey_c _ _ hs2).mono ?_; rintro e w1 ⟨rfl, rfl⟩
          cases hkb : keyB p.2.1 with
          | false =>
            have HF : Hid (boE l = 5) := Lib.hid (by rw [H.out, HE.out, HS.out, if_neg (by simp [HK.out]), if_pos hkb])
            clear hkb
            go_wp2_with fail
            go_ret
            exact ⟨by rw [HF.out]; rfl, hG5⟩
          | true =>
            have HK2 := Lib.hid hkb
            clear hkb
            cases hle : leB p.1 b with
            | true =>
              have HF : Hid (boE l = 7) := Lib.hid (by rw [H.out, HE.out, HS.out, if_neg (by simp [HK.out]), if_neg (by simp [HK2.out]), if_pos hle])
              unfold leB at hle
              go_wp2_with fail
              go_ret
              exact ⟨by rw [HF.out]; rfl, hG5⟩
            | false =>
              have HS2 : Hid (boErr ⟨#[]⟩ l = if boT p.2.2.1 p.2.2.2.1 p.2.2.2.2.1 p.2.2.2.2.2 = false then 1 else boErr p.1 (l.drop (k + 1))) := Lib.hid (by rw [HE.out, HS.out, if_neg (by simp [HK.out]), if_neg (by simp [HK2.out]), if_neg (by simp [hle])])
              unfold leB at hle
              clear HS HE
              have HT := Lib.hid (boTime hB5)
              go_wp2_with (refine wpList_load_at rfl 30 _ rfl ⟨g, 2, none⟩ rfl #[.int .i64 p.2.2.1, .int .i64 p.2.2.2.1] _ HT.out Tryd.underlying30 rfl (wi_info _ _) ?_)
              refine (isTime_c _ _ _).mono ?_; rintro e w2 ⟨rfl, hG2⟩
              have hB5 := hB5.quiet hG2
              have hG5 := hG5.trans hG2
              clear hG2 HT c0 c1 c2 c3 c4 c5
              have c0 : w2.cell? ⟨g, 0, none⟩ = some (.string p.1) := hB5.cell 0
              have c1 : w2.cell? ⟨g, 1, none⟩ = some (.string p.2.1) := hB5.cell 1
              have c2 : w2.cell? ⟨g, 2, none⟩ = some (.int .i64 p.2.2.1) := hB5.cell 2
              have c3 : w2.cell? ⟨g, 3, none⟩ = some (.int .i64 p.2.2.2.1) := hB5.cell 3
              have c4 : w2.cell? ⟨g, 4, none⟩ = some (.int .i64 p.2.2.2.2.1) := hB5.cell 4
              have c5 : w2.cell? ⟨g, 5, none⟩ = some (.int .i64 p.2.2.2.2.2) := hB5.cell 5
              cases ht : timB p.2.2.1 p.2.2.2.1 with
              | false =>
                have HF : Hid (boE l = 1) := Lib.hid (by rw [H.out, HS2.out, if_pos (by simp [boT, ht])])
                go_wp2_with fail
                go_ret
                exact ⟨by rw [HF.out]; rfl, hG5⟩
              | true =>
                have HTB := Lib.hid ht
                clear ht
                go_wp2_with fail
                refine (within_c _ _ _ _).mono ?_; rintro e w' ⟨rfl, rfl⟩
                cases hm1 : inB p.2.2.2.2.1 0 p.2.2.1 with
                | false =>
                  have HF : Hid (boE l = 1) := Lib.hid (by rw [H.out, HS2.out, if_pos (by simp [boT, hm1])])
                  go_wp2_with fail
                  go_ret
                  exact ⟨by rw [HF.out]; rfl, hG5⟩
                | true =>
                  have HM := Lib.hid hm1
                  clear hm1
                  go_wp2_with fail
                  refine (within_c _ _ _ _).mono ?_; rintro e w' ⟨rfl, rfl⟩
                  cases hp1 : inB p.2.2.2.2.2 0 100 with
                  | false =>
                    have HF : Hid (boE l = 1) := Lib.hid (by rw [H.out, HS2.out, if_pos (by simp [boT, hp1])])
                    go_wp2_with fail
                    go_ret
                    exact ⟨by rw [HF.out]; rfl, hG5⟩
                  | true =>
                    have HF : Hid (boErr ⟨#[]⟩ l = boErr p.1 (l.drop (k + 1))) := Lib.hid (by rw [HS2.out, if_neg (by simp [boT, HTB.out, HM.out, hp1])])
                    clear hp1
                    go_wp2_with fail
                    go_roundw
                    case rel => exact ⟨k + 1, p.1, by omega, by go_num, rfl, HF.out, hG5⟩
                    case measure => simp [intOf]; omega
      · obtain rfl : k = l.length := by omega
        have HE2 : Hid (boE l = 0) := Lib.hid (by rw [H.out, HE.out, List.drop_length]; rfl)
        go_wp2_with fail
        go_ret
        exact ⟨by rw [HE2.out]; rfl, hG⟩
end Go.Proofs.YtdcofbciebkfkaaDoor

/- Tiers: CheckTiers; the reference's TiersFault. -/
namespace Go.Proofs.YtdcofbciebkfkaaDoor
open Go.RowKit

/-- A tier: before, permille. -/
abbrev Ti := Int × Int
def tiC (x : Ti) : Array Value := #[.int .i64 x.1, .int .i64 x.2]
theorem tiC_sz (x : Ti) : (tiC x).size = 2 := rfl
def TiOk (l : List Ti) : Prop := ∀ x ∈ l, bnd x.1 ∧ bnd x.2
def tiAfter (b : Option Ti) (x : Ti) : Bool := match b with | none => false | some y => decide (y.1 ≤ x.1) || decide (x.2 < y.2)
def tiErr : Option Ti → List Ti → Int
  | _, [] => 0
  | b, x :: r => if inB x.1 1 5761440 = false then 1 else if inB x.2 0 1000 = false then 1 else if tiAfter b x = true then 7 else tiErr (some x) r
def tiE (l : List Ti) : Int := if 10 < l.length then 2 else tiErr none l
def TiRel (w : World) (l : List Ti) (i : Value) (wr : World) : Prop :=
  ∃ k : Nat, k ≤ l.length ∧ i = .int .i64 k ∧ tiErr none l = tiErr (prevAt l k) (l.drop k) ∧ G w wr none
theorem tiRow {W w : World} {bb bo n cap : Nat} {l : List Ti} (h : RdR W 2 tiC (.slice (some ⟨bb, bo, none⟩) n cap) l) (hG : G W w none) {k : Nat} {p : Ti} (hp : l[k]? = some p) :
    ∀ j v, (tiC p).toList[j]? = some v → w.cell? ((⟨bb, bo + k * 2, none⟩ : Addr).add j) = some v := fun j v hv => by
  rw [add_at]
  exact RdR.cell tiC_sz h hG hp j v hv
end Go.Proofs.YtdcofbciebkfkaaDoor

/- CancelFee; the reference's CancelOf. -/
namespace Go.Proofs.YtdcofbciebkfkaaDoor
open Go.RowKit

/-- The permille of the last tier that is meant. -/
def cnS (d a : Int) (x : Ti) : Int := if d < x.1 then x.2 else a
def cnP (l : List Ti) (d : Int) : Int := l.foldl (cnS d) 0
theorem cnP_succ {l : List Ti} {k : Nat} {p : Ti} (d : Int) (hp : l[k]? = some p) : cnP (l.take (k + 1)) d = cnS d (cnP (l.take k) d) p := by
  have hk : k < l.length := (List.getElem?_eq_some_iff.1 hp).1
  have e : l.take (k + 1) = l.take k ++ [p] := by
    rw [List.take_succ_eq_append_getElem hk, (List.getElem?_eq_some_iff.1 hp).2]
  unfold cnP
  rw [e, List.foldl_append]
  rfl
theorem cnP_rng {l : List Ti} (h : ∀ x ∈ l, 0 ≤ x.2 ∧ x.2 ≤ 1000) (d : Int) : 0 ≤ cnP l d ∧ cnP l d ≤ 1000 := by
  have : ∀ (r : List Ti) (a : Int), (∀ x ∈ r, 0 ≤ x.2 ∧ x.2 ≤ 1000) → 0 ≤ a ∧ a ≤ 1000 → 0 ≤ r.foldl (cnS d) a ∧ r.foldl (cnS d) a ≤ 1000 := by
    intro r
    induction r with
    | nil => intro a _ ha; exact ha
    | cons x r ih =>
      intro a hx ha
      refine ih _ (fun y hy => hx y (List.mem_cons_of_mem _ hy)) ?_
      unfold cnS
      split
      · exact hx x (List.mem_cons_self ..)
      · exact ha
  exact this l 0 h (by omega)
theorem tiErr_ok {l : List Ti} : ∀ {b : Option Ti}, tiErr b l = 0 → ∀ x ∈ l, 0 ≤ x.2 ∧ x.2 ≤ 1000 := by
  induction l with
  | nil => intro b _ x hx; cases hx
  | cons y r ih =>
    intro b h
    unfold tiErr at h
    split at h
    · exact absurd h (by decide)
    · split at h
      · exact absurd h (by decide)
      · rename_i h2
        split at h
        · exact absurd h (by decide)
        · intro x hx
          rcases List.mem_cons.1 hx with rfl | hx
          · simp only [inB, Bool.not_eq_false, Bool.and_eq_true, decide_eq_true_eq] at h2
            omega
          · exact ih h x hx
theorem tiE_ok {l : List Ti} (h : tiE l = 0) : ∀ x ∈ l, 0 ≤ x.2 ∧ x.2 ≤ 1000 := by
  unfold tiE at h
  split at h
  · exact absurd h (by decide)
  · exact tiErr_ok h
theorem boE_ok {b : Bo} (h : boE [b] = 0) : 0 ≤ b.2.2.1 ∧ b.2.2.1 < 5761440 := by
  have h1 : boErr ⟨#[]⟩ [b] = 0 := h
  unfold boErr at h1
  split at h1
  · exact absurd h1 (by decide)
  · split at h1
    · exact absurd h1 (by decide)
    · split at h1
      · exact absurd h1 (by decide)
      · split at h1
        · exact absurd h1 (by decide)
        · rename_i h2
          simp only [boT, Bool.not_eq_false, Bool.and_eq_true] at h2
          have := (timB_iff _ _).1 h2.1
          omega
theorem one_len (b : Bo) : ([b] : List Bo).length ≤ 1000 := by simp
theorem RdR.one {w : World} {g : Nat} {b : Bo} (h : Bk w g 210 (boC b)) : RdR w 6 boC (.slice (some ⟨g, 0, none⟩) 1 1) [b] := h.rd 6 1 rfl (by omega)
theorem BoOk.one {b : Bo} (h : boB b) : BoOk [b] := fun x hx => by
  obtain rfl := List.mem_singleton.1 hx
  exact h
def cfE (l : List Ti) (b : Bo) (c t : Int) : Int := if tiE l = 0 then (if boE [b] = 0 then (if inB c 0 1000000000 = false then 1 else if momB t = false then 1 else 0) else boE [b]) else tiE l
def cfN (l : List Ti) (b : Bo) (c t : Int) : Int := if cfE l b c t = 0 then c * cnP l (b.2.2.1 - t) / 1000 else 0
def CfRel (w : World) (l : List Ti) (d : Int) (g : Nat) (b : Bo) (s i : Value) (wr : World) : Prop :=
  ∃ k : Nat, k ≤ l.length ∧ i = .int .i64 k ∧ s = .int .i64 (cnP (l.take k) d) ∧ Bk wr g 210 (boC b) ∧ G w wr none
def CcoRel (w : World) (l : List Ti) (d c : Int) (g : Nat) (b : Bo) (s i : Value) (wr : World) : Prop :=
  ∃ k : Nat, k ≤ l.length ∧ i = .int .i64 k ∧ s = .int .i64 (c * cnP (l.take k) d / 1000) ∧ Bk wr g 210 (boC b) ∧ G w wr none
end Go.Proofs.YtdcofbciebkfkaaDoor

/- basic.Lowest. -/
namespace Go.Proofs.YtdcofbciebkfkaaDoor
open Go.RowKit

def frC (a b : Int) : Array Value := #[.int .i64 a, .int .i64 b]
theorem fr_info (a b : Int) : (Tryd.prog.info? 198).map (·.size) = some (frC a b).size := (by kernel_rfl : (Tryd.prog.info? 198).map (·.size) = some 2)
theorem fr_one (a b : Int) : (frC a b).all (·.oneCell') = true := by simp [frC, Value.oneCell']
theorem quo_wrap (n a q : Nat) (hn : n ≤ 1000000000000000000) (hq : n / a = q) : IntKind.i64.wrap ((n : Int) / (a : Int)) = (q : Int) := by
  have h2 : q ≤ n := by rw [← hq]; exact Nat.div_le_self n a
  have h1 : (n : Int) / (a : Int) = (q : Int) := by rw [← hq]; rfl
  rw [h1, IntKind.wrap_i64]
  omega
def LowRel (n d : Nat) (s5 s6 : Value) (w wr : World) : Prop :=
  ∃ a b : Nat, s5 = .int .i64 a ∧ s6 = .int .i64 b ∧ Nat.gcd a b = Nat.gcd d n ∧ a ≤ 1000000000000000000 ∧ b ≤ 1000000000000000000 ∧ 0 < a ∧ Bk wr w.heap.size 198 (frC 0 0) ∧ G w wr none
set_option maxRecDepth 100000 in
set_option maxHeartbeats 2000000 in
theorem lowest_c (n d : Nat) (w : World) (hn : n ≤ 1000000000000000000) (hd : d ≤ 1000000000000000000) (h0 : 0 < d) :
    Calls Tryd.prog 157 #[.int .i64 n, .int .i64 d] w fun e w' => e = .returned (.agg (frC (n / Nat.gcd d n : Nat) (d / Nat.gcd d n : Nat))) ∧ G w w' none := by
  go_enter Tryd.func157, Tryd.ntmps157
  go_wp2_with fail
  go_loopw [5, 6] (fun s5 s6 wr => LowRel n d s5 s6 w wr) (fun _ i _ => (intOf i).toNat)
  case atStart => exact ⟨d, n, rfl, rfl, rfl, hd, hn, h0, Bk.new w _ _, (G.refl _ _).alloc _⟩
  case round =>
    obtain ⟨a, b, rfl, rfl, hg, ha, hb, a0, hB, hG⟩ := hrel
    have HG := Lib.hid hg
    clear hg
    by_cases hb0 : b = 0
    · subst hb0
      have hag : a = Nat.gcd d n := by rw [← HG.out]; simp
      have HA := Lib.hid hag
      clear hag
      obtain ⟨q1, hq1⟩ : ∃ q, n / a = q := ⟨_, rfl⟩
      obtain ⟨q2, hq2⟩ : ∃ q, d / a = q := ⟨_, rfl⟩
      have hane : ¬ a = 0 := by omega
      have hw1 := quo_wrap n a q1 hn hq1
      have hw2 := quo_wrap d a q2 hd hq2
      have HQ1 := Lib.hid hq1
      have HQ2 := Lib.hid hq2
      clear hq1 hq2
      go_wp2_with fail
      have HQQ : Hid (Ending.returned (.agg (frC q1 q2)) = .returned (.agg (frC (n / Nat.gcd d n : Nat) (d / Nat.gcd d n : Nat)))) := Lib.hid (by rw [← HA.out, HQ1.out, HQ2.out])
      go_still_tail 7, (by kernel_rfl)
      change wpList _ _ _ _ _ wr.drew
      have hBd := hB.quiet ((G.refl wr none).drew)
      have hGd := hG.drew
      clear hB hG
      generalize wr.drew = w2 at hBd hGd ⊢
      go_wp2_with (refine wpList_store_row rfl 198 _ _ rfl w.heap.size (frC q1 q2) rfl rfl 198 _ hBd (fr_info q1 q2) rfl (fr_one q1 q2) ?_)
      refine bodyPost_ret (results_cell_row rfl _ _ w.heap.size 198 (frC q1 q2) (0, 0) _ rfl (hBd.setRow _) Tryd.underlying198 rfl (fr_info q1 q2)) rfl ?_
      exact ⟨HQQ.out, hGd.setRow (.inl (Nat.le_refl _)) _⟩
    · have hbp : 0 < b := by omega
      have hne : ((b : Int) != 0) = true := by rw [bne_iff_ne]; omega
      have hbq : ((b : Int) == 0) = false := by rw [beq_eq_false_iff_ne]; omega
      have htm : (a : Int).tmod (b : Int) = ((a % b : Nat) : Int) := by rw [Int.tmod_eq_emod_of_nonneg (by omega)]; rfl
      have hmw : IntKind.i64.wrap ((a % b : Nat) : Int) = ((a % b : Nat) : Int) := by have := Nat.mod_lt a hbp; rw [IntKind.wrap_i64]; omega
      have HML := Lib.hid (Nat.mod_lt a hbp)
      go_wp2_with fail
      go_quiet (fail)
      have hGq := hG.drewN nq
      have hBq := hB.drewN nq
      go_wp2_with fail
      go_roundw
      case rel => exact ⟨b, a % b, rfl, rfl, by rw [← HG.out, Nat.gcd_comm a b]; exact (Nat.gcd_rec b a).symm ▸ by rw [Nat.gcd_comm], hb, by have := HML.out; omega, hbp, hBq, hGq⟩
      case measure => have := HML.out; simp [intOf]; omega
end Go.Proofs.YtdcofbciebkfkaaDoor
