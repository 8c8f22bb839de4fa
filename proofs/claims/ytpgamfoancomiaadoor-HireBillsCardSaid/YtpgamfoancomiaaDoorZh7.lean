/- GenW, Ghi, GenP, Des, Hiu, Hbl, Lay. -/
import Derived.Test.YtpgamfoancomiaaDoorZh1
import Derived.Test.YtpgamfoancomiaaDoorZh3
import Derived.Laws.ResultCell
import Derived.Outline
import Derived.Test.YtpgamfoancomiaaDoorZh6
import Derived.Test.YtpgamfoancomiaaDoorZh2
import Derived.Test.YtpgamfoancomiaaDoorZh4
import Derived.BigQuiet
import Derived.Test.YtpgamfoancomiaaDoorRows
import Derived.Test.YtpgamfoancomiaaDoorTie
import Derived.Test.YtpgamfoancomiaaDoorCards
import Derived.LaidMore
import Derived.ChangeSame
import Derived.ProofKit
import Derived.OpenShut
import Derived.PinnedBridge
import Derived.Deep.DeepHandedRow
import Derived.Deep.DeepWitnessRowRef
/- Generator: the time of a hire. -/
namespace Go.Proofs.YtpgamfoancomiaaDoor
open Go.RowKit

def TimePost (s K : Nat) (w : World) (e : Ending) (w' : World) : Prop :=
  ∃ a z : Int, e = .returned (.agg #[.int .i64 a, .int .i64 z]) ∧ bnd a ∧ bnd z ∧ SB w' s (K + 8) ∧ G w w' (some s)
theorem time_fin {w w3 : World} {s K : Nat} {a z : Int} (hs : s < w.heap.size) (ha : bnd a) (hz : bnd z) (hSB : SB w3 s (K + 8)) (hG : G w w3 (some s)) :
    TimePost s K w (.returned (.agg #[.int .i64 a, .int .i64 z])) (w3.setRow w.heap.size #[.int .i64 a, .int .i64 z]) :=
  ⟨a, z, rfl, ha, hz, hSB.setRow hs _, hG.setRow (.inl (Nat.le_refl _)) _⟩
set_option maxRecDepth 100000 in
set_option maxHeartbeats 2000000 in
theorem time_c (w : World) (s : Nat) (K : Nat) (hs : SB w s K) (hk : K ≤ 900000000000) :
    Calls Tryd.prog 18 #[.pointer (some ⟨s, 0, none⟩)] w (TimePost s K w) := by
  have hslt := hs.lt
  go_enter Tryd.func18, Tryd.ntmps18
  go_wp2_with fail
  refine (pick_c _ _ _ [0, 0, 700, 5040, 5700, 6480, 6500, 8000, 10079, 20000] _ _ K ((hs.alloc _).alloc _) (by omega) (by decide) (by decide) (Rd.newAt _ (by simp) rfl (by decide)) (hs.newAt _ _ _ (by omega))).mono ?_
  rintro e w2 ⟨a, rfl, ha, hSB2, hG2⟩
  have ha0 : 0 ≤ a ∧ a ≤ 20000 := by simp only [List.mem_cons, List.mem_nil_iff, or_false] at ha; omega
  obtain ⟨a0, a1⟩ := ha0
  have hz2 : w.heap.size + 2 ≤ w2.heap.size := by have := hG2.size; simp at this; omega
  have hB2 := ((Bk.new w 30 #[.int .i64 0, .int .i64 0]).alloc (.cells _ 3)).grown hG2 (by simp; omega)
  have hG02 : G w w2 (some s) := (((G.refl w (some s)).alloc _).alloc _).trans hG2
  clear hG2 ha
  go_wp2_with fail
  refine (pick_c _ _ _ [1, 59, 60, 61, 300, 1440, 1441, 1500, 2880, 4320, 5850, 7200, 8641, 10080, 11520, 14800, 21600] _ _ _ (hSB2.alloc _) (by omega) (by decide) (by decide) (Rd.newAt _ rfl rfl (by decide)) (hSB2.newAt _ _ _ (Nat.le_refl _))).mono ?_
  rintro e w3 ⟨d, rfl, hd, hSB3, hG3⟩
  have hd0 : 1 ≤ d ∧ d ≤ 21600 := by simp only [List.mem_cons, List.mem_nil_iff, or_false] at hd; omega
  obtain ⟨d0, d1⟩ := hd0
  have hz3 := hG3.size
  have hB3 := (hB2.alloc (.cells _ 3)).grown hG3 (by simp; omega)
  have hG03 := (hG02.alloc _).trans hG3
  simp at hz3
  clear hG3 hd hB2 hG02 hSB2
  obtain ⟨z, hz⟩ : ∃ z, a + d = z := ⟨_, rfl⟩
  have hzb : 1 ≤ z ∧ z ≤ 41600 := by omega
  obtain ⟨z0, z1⟩ := hzb
  have hN4 := Bk.new w3 30 #[.int .i64 a, .int .i64 z]
  have hSB4 := hSB3.alloc (.cells #[.int .i64 a, .int .i64 z] 30)
  have hB4 := hB3.alloc (.cells #[.int .i64 a, .int .i64 z] 30)
  have hG04 := hG03.alloc (.cells #[.int .i64 a, .int .i64 z] 30)
  have hs3 := hSB3.lt
  have hl3 := hB3.lt
  have hgw : w.heap.size ≤ w3.heap.size := hG03.size
  clear hB3 hG03 hSB3 hz3
  have HZ : Hid (bnd a ∧ bnd z) := Lib.hid (by unfold bnd; omega)
  go_wp2_with fail
  generalize w3.alloc (.cells #[.int .i64 a, .int .i64 z] 30) = w4 at hN4 hSB4 hB4 hG04 ⊢
  generalize w3.heap.size = g at hN4 hs3 hl3 hgw ⊢
  clear hz z0 z1 a0 a1 d0 d1
  refine (flip_c _ _ _ _ hSB4 (by omega) (by omega)).mono ?_; rintro e w5 ⟨q, rfl, hSB5, hG5⟩
  have hN5 := hN4.grown hG5 (fun e => by have := Option.some.inj e; omega)
  have hB5 := hB4.grown hG5 (fun e => by have := Option.some.inj e; omega)
  have hG05 := hG04.trans hG5
  clear hN4 hB4 hG04 hG5 hSB4
  cases q with
  | false =>
    go_wp2_with (first | (refine wpList_load_row rfl 30 _ rfl g rfl 30 #[.int .i64 a, .int .i64 z] (0, 0) _ hN5 Tryd.underlying30 rfl (wi_info a z) ?_) | (refine wpList_store_row rfl 30 _ _ rfl w.heap.size #[.int .i64 a, .int .i64 z] rfl rfl 30 _ hB5 (wi_info a z) rfl (wi_one a z) ?_))
    refine bodyPost_ret (results_cell_row rfl _ _ w.heap.size 30 #[.int .i64 a, .int .i64 z] (0, 0) _ rfl (hB5.setRow _) Tryd.underlying30 rfl (wi_info a z)) rfl ?_
    exact time_fin hslt HZ.out.1 HZ.out.2 (hSB5.le (by omega)) hG05
  | true =>
    go_wp2_with fail
    refine (odd_c _ _ _ _ _ hSB5 (by omega) (by omega) (by omega) (by omega) (by omega)).mono ?_; rintro e w6 ⟨y1, rfl, y10, y11, hSB6, hG6⟩
    have hN6 := hN5.grown hG6 (fun e => by have := Option.some.inj e; omega)
    have hB6 := hB5.grown hG6 (fun e => by have := Option.some.inj e; omega)
    have hG06 := hG05.trans hG6
    clear hN5 hB5 hG05 hG6 hSB5
    go_wp2_with fail
    refine (pick_c _ _ _ [0, 1000, 5761439, 5761440, 172800, 173801] _ _ _ (hSB6.alloc _) (by omega) (by decide) (by decide) (Rd.newAt _ rfl rfl (by decide)) (hSB6.newAt _ _ _ (Nat.le_refl _))).mono ?_; rintro e w7 ⟨y2, rfl, hy2, hSB7, hG7⟩
    have b2 := bnd_pick hy2 (by decide)
    have hN7 := (hN6.alloc _).grown hG7 (fun e => by have := Option.some.inj e; omega)
    have hB7 := (hB6.alloc _).grown hG7 (fun e => by have := Option.some.inj e; omega)
    have hG07 := (hG06.alloc _).trans hG7
    clear hN6 hB6 hG06 hG7 hSB6 hy2
    have hN8 := hN7.setRow #[.int .i64 y1, .int .i64 y2]
    have hB8 := hB7.farRow (show w.heap.size ≠ g by omega) #[.int .i64 y1, .int .i64 y2]
    go_wp2_with (first | (refine wpList_store_row rfl 30 _ _ rfl g #[.int .i64 y1, .int .i64 y2] rfl rfl 30 _ hN7 (wi_info y1 y2) rfl (wi_one y1 y2) ?_) | (refine wpList_load_row rfl 30 _ rfl g rfl 30 #[.int .i64 y1, .int .i64 y2] (0, 0) _ hN8 Tryd.underlying30 rfl (wi_info y1 y2) ?_) | (refine wpList_store_row rfl 30 _ _ rfl w.heap.size #[.int .i64 y1, .int .i64 y2] rfl rfl 30 _ hB8 (wi_info y1 y2) rfl (wi_one y1 y2) ?_))
    refine bodyPost_ret (results_cell_row rfl _ _ w.heap.size 30 #[.int .i64 y1, .int .i64 y2] (0, 0) _ rfl (hB8.setRow _) Tryd.underlying30 rfl (wi_info y1 y2)) rfl ?_
    exact time_fin hslt ⟨y10, y11⟩ b2 ((hSB7.setRow hs3 _).le (by omega)) (hG07.setRow (.inl hgw) _)
end Go.Proofs.YtpgamfoancomiaaDoor

/- Generator: Hire. Written by genghi.py. -/
namespace Go.Proofs.YtpgamfoancomiaaDoor
open Go.RowKit

def HSm (H : Hh) (l : List Lg) : Prop := LgOk l ∧ Small H.1 ∧ Small H.2.1 ∧ bnd H.2.2.1 ∧ bnd H.2.2.2 ∧ l.length ≤ 20
def HirePost (s K : Nat) (w : World) (e : Ending) (w' : World) : Prop :=
  ∃ (H : Hh) (l : List Lg) (a : Option Addr) (c : Nat), e = .returned (.agg (hiC H (.slice a l.length c))) ∧ HSm H l ∧ RdR w' 9 lgC (.slice a l.length c) l ∧ (∀ k, (Value.slice a l.length c).ownBlock = some k → w.heap.size ≤ k) ∧ SB w' s (K + 740) ∧ G w w' (some s)
theorem hi_fin_len {w w3 : World} {s K K' n : Nat} {H : Hh} {l : List Lg} {a : Option Addr} {c : Nat} (hn : l.length = n) (hok : HSm H l) (hR : RdR w3 9 lgC (.slice a n c) l) (hb : ∀ k, (Value.slice a n c).ownBlock = some k → w.heap.size + 1 ≤ k) (hSB : SB w3 s K') (hK : K' ≤ K + 740) (hG : G w w3 (some s)) (hs : s < w.heap.size) :
    HirePost s K w (.returned (.agg (hiC H (.slice a n c)))) (w3.setRow w.heap.size (hiC H (.slice a n c))) := by
  subst hn
  exact ⟨H, l, a, c, rfl, hok, Rd.grown hR ((G.refl w3 (some w.heap.size)).setRow (.inr rfl) _) (fun k e hk => by cases e; have := hb _ hk; omega), fun k e => by have := hb k e; omega, (hSB.setRow hs _).le hK, hG.setRow (.inl (Nat.le_refl _)) _⟩
theorem hi_fin {w w3 : World} {s K K' : Nat} {H : Hh} {l : List Lg} {a : Option Addr} {c : Nat} (hok : HSm H l) (hR : RdR w3 9 lgC (.slice a l.length c) l) (hb : ∀ k, (Value.slice a l.length c).ownBlock = some k → w.heap.size + 1 ≤ k) (hSB : SB w3 s K') (hK : K' ≤ K + 740) (hG : G w w3 (some s)) (hs : s < w.heap.size) :
    HirePost s K w (.returned (.agg (hiC H (.slice a l.length c)))) (w3.setRow w.heap.size (hiC H (.slice a l.length c))) := hi_fin_len rfl hok hR hb hSB hK hG hs
theorem inR_pos {n r : Int} (h : InR n r) (hn : 0 < n) : 0 ≤ r ∧ r < n := by
  unfold InR at h
  omega
theorem LgOk.set {l : List Lg} (h : LgOk l) {x : Lg} (hx : lgB x) (k : Nat) : LgOk (l.set k x) := fun y hy => by
  rcases List.mem_or_eq_of_mem_set hy with hy | rfl
  · exact h y hy
  · exact hx
theorem there_any {α : Type} {T : TypeId} {z : Nat} {c : α → Array Value} (hz : ∀ p, (c p).size = z) {w : World} {base g1 cap k : Nat} {l : List α} {p : α} (h : OwnX T z c w base (.slice (some ⟨g1, 0, none⟩) l.length cap) l) (hp : l[k]? = some p) :
    ∀ j, j < z → (w.cell? ⟨g1, 0 + k * z + j, none⟩).isSome = true ∧ w.frozen? ⟨g1, 0 + k * z + j, none⟩ = false := by
  intro j hj
  obtain ⟨g, cap', cur, e, hB, -⟩ := OwnX.form h (by have := (List.getElem?_eq_some_iff.1 hp).1; omega)
  cases e
  refine ⟨?_, hB.free _⟩
  obtain ⟨u, hu⟩ : ∃ u, (c p).toList[j]? = some u := ⟨_, List.getElem?_eq_getElem (by rw [Array.length_toList, hz]; exact hj)⟩
  rw [RdR.cell hz (Rd.of_owns h) (G.refl w none) hp j u hu]
  rfl
theorem own_setIn {w : World} {base g1 cap k : Nat} {l : List Lg} {p : Lg} (h : OwnLg w base (.slice (some ⟨g1, 0, none⟩) l.length cap) l) (hp : l[k]? = some p) (r : Rg) :
    w.setCells g1 (k * 9 + 5) (#[.int .i64 r.1, .string r.2.1, .int .i64 r.2.2.1, .int .i64 r.2.2.2] : Array Value).toList |>.ownsRow base 99 9 (.slice (some ⟨g1, 0, none⟩) l.length cap) (l.set k (p.1, p.2.1, r)).length (rowL lgC (l.set k (p.1, p.2.1, r))) := by
  have hk := (List.getElem?_eq_some_iff.1 hp).1
  rw [List.length_set]
  have hs : ∀ q : Lg, (l.set k q)[k]? = some q := fun q => by rw [List.getElem?_set_self hk]
  have h1 := OwnX.set lgC_sz h hp 5 (.int .i64 r.1) (by omega) (q := (p.1, p.2.1, (r.1, p.2.2.2))) rfl
  have h2 := OwnX.set lgC_sz h1 (hs _) 6 (.string r.2.1) (by omega) (q := (p.1, p.2.1, (r.1, r.2.1, p.2.2.2.2))) rfl
  rw [List.set_set] at h2
  have h3 := OwnX.set lgC_sz h2 (hs _) 7 (.int .i64 r.2.2.1) (by omega) (q := (p.1, p.2.1, (r.1, r.2.1, r.2.2.1, p.2.2.2.2.2))) rfl
  rw [List.set_set] at h3
  have h4 := OwnX.set lgC_sz h3 (hs _) 8 (.int .i64 r.2.2.2) (by omega) (q := (p.1, p.2.1, r)) rfl
  rw [List.set_set] at h4
  exact h4
set_option maxRecDepth 100000 in
set_option maxHeartbeats 20000000 in
theorem hire_c (w : World) (s K : Nat) (hs : SB w s K) (hk : K ≤ 700000000000) :
    Calls Tryd.prog 9 #[.pointer (some ⟨s, 0, none⟩)] w (HirePost s K w) := by
  have hslt := hs.lt
  go_enter Tryd.func9, Tryd.ntmps9
  go_wp2_with fail
  refine (pick_c _ _ _ [0, 100, 1440] _ _ K ((hs.alloc _).alloc _) (by omega) (by decide) (by decide) (Rd.newAt _ (by simp) rfl (by decide)) (hs.newAt _ _ _ (by simp))).mono ?_; rintro e w1 ⟨f, rfl, hp, hSB1, hG1⟩
  have hfb : 0 ≤ f ∧ f ≤ 1440 := by simp only [List.mem_cons, List.mem_nil_iff, or_false] at hp; omega
  have hB1 := ((Bk.new w 33 HIZ).alloc (.cells _ 3)).grown hG1 (by simp; omega)
  have hG01 : G w w1 (some s) := (((G.refl w (some s)).alloc _).alloc _).trans hG1
  clear hG1 hp hs
  go_wp2_with fail
  refine (rightHire_c ⟨#[104, 49]⟩ f _ s _ (by decide +kernel) (small_of (by decide)) hfb.1 (by omega) hSB1 (by omega)).mono ?_; rintro e w2 ⟨H, l, a8, c8, rfl, hok, hR2, hb2, hSB2, hG2⟩
  have HOK := Lib.hid hok
  have hs2 := hSB2.lt
  have hw1 := hB1.lt
  have hB2 := hB1.grown hG2 (fun e => by have := Option.some.inj e; omega)
  have hw2 := hB2.lt
  have hG02 := hG01.trans hG2
  have HB2 := Lib.hid hb2
  rw [show hiC H (.slice a8 l.length c8) = #[.string H.1, .string H.2.1, .int .i64 H.2.2.1, .int .i64 H.2.2.2, .slice a8 l.length c8] from rfl]
  have hq := (G.refl w2 none).alloc (.cells #[.string H.1, .string H.2.1, .int .i64 H.2.2.1, .int .i64 H.2.2.2, .slice a8 l.length c8] 33)
  have hP := Bk.new w2 33 #[.string H.1, .string H.2.1, .int .i64 H.2.2.1, .int .i64 H.2.2.2, .slice a8 l.length c8]
  have hSB3 := hSB2.quiet hq
  have hB := hB2.quiet hq
  have hG := hG02.trans0 hq
  have hR := Rd.quiet hR2 hq
  clear hb2 hB1 hG01 hSB1 hG2 hSB2 hB2 hG02 hR2 hok hq
  go_upto_region 2 with fail
  generalize w2.alloc (.cells #[.string H.1, .string H.2.1, .int .i64 H.2.2.1, .int .i64 H.2.2.2, .slice a8 l.length c8] 33) = w3 at hP hSB3 hB hG hR ⊢
  have hs3 : s < w2.heap.size := hs2
  have hg3 : w.heap.size < w2.heap.size := hw2
  generalize w2.heap.size = g3 at hP hs3 hg3 ⊢
  clear hs2 hw2
  go_wp2_with fail
  refine (flip_c _ _ _ _ hSB3 (by omega) (by omega)).mono ?_; rintro e w4 ⟨q, rfl, hSB4, hh⟩
  replace hP := hP.grown hh (fun e => by have := Option.some.inj e; omega)
  replace hB := hB.grown hh (fun e => by have := Option.some.inj e; omega)
  replace hR := Rd.grown hR hh (fun k e hk => by cases e; have := HB2.out _ hk; omega)
  replace hG := hG.trans hh
  clear hh hSB3
  cases q with
  | false =>
    have hSB := hSB4
    go_wp2_with (first | (refine wpList_load_row rfl 33 _ rfl (g3) rfl 33 #[.string H.1, .string H.2.1, .int .i64 H.2.2.1, .int .i64 H.2.2.2, .slice a8 l.length c8] (0, 0) _ hP Tryd.underlying33 rfl (hi_info (H.1, H.2.1, H.2.2.1, H.2.2.2) _) ?_) | (refine wpList_store_row rfl 33 _ _ rfl (w.heap.size) #[.string H.1, .string H.2.1, .int .i64 H.2.2.1, .int .i64 H.2.2.2, .slice a8 l.length c8] rfl rfl 33 _ hB (hi_info (H.1, H.2.1, H.2.2.1, H.2.2.2) _) rfl (hi_one (H.1, H.2.1, H.2.2.1, H.2.2.2) _ _ _) ?_))
    refine bodyPost_ret (results_cell_row rfl _ _ w.heap.size 33 #[.string H.1, .string H.2.1, .int .i64 H.2.2.1, .int .i64 H.2.2.2, .slice a8 l.length c8] (0, 0) _ rfl (hB.setRow _) Tryd.underlying33 rfl (hi_info (H.1, H.2.1, H.2.2.1, H.2.2.2) _)) rfl ?_
    exact hi_fin (H := (H.1, H.2.1, H.2.2.1, H.2.2.2)) (l := l) ⟨HOK.out.2.1, HOK.out.2.2.1, HOK.out.2.2.2.1, HOK.out.2.2.2.2.1, HOK.out.2.2.2.2.2, HOK.out.len.2⟩ hR (fun k e => by have := HB2.out k e; omega) hSB (by omega) hG hslt
  | true =>
    have c4 : w4.cell? ⟨g3, 4, none⟩ = some (.slice a8 l.length c8) := hP.cell 4
    go_wp2_with fail
    refine (cloneLg_c _ l _ hR (by have := HOK.out.len.2; omega)).mono ?_; rintro e w5 ⟨v1, rfl, hO, hh⟩
    obtain ⟨g1, cap1, cur, rfl, -, hg1⟩ := OwnX.form hO HOK.out.len.1
    have hb3 := hP.lt
    have hsb := hSB4.lt
    have hwb := hB.lt
    replace hP := hP.quiet hh
    replace hB := hB.quiet hh
    replace hG := hG.trans0 hh
    have hSB5 := hSB4.quiet hh
    clear hh hR c4 hSB4
    generalize w4.heap.size = b3 at hO hg1 hb3 hsb hwb
    have f4 := hP.free 4
    have c4 : w5.cell? ⟨g3, 4, none⟩ = some (.slice a8 l.length c8) := hP.cell 4
    go_upto_region 5 with fail
    replace hP : Bk (w5.setCell ⟨g3, 4, none⟩ (.slice (some ⟨g1, 0, none⟩) l.length cap1)) g3 33 #[.string H.1, .string H.2.1, .int .i64 H.2.2.1, .int .i64 H.2.2.2, .slice (some ⟨g1, 0, none⟩) l.length cap1] := hP.set 4 _
    replace hO := OwnX.far hO (p := ⟨g3, 4, none⟩) (OwnX.ne hO (.inl (by show g3 < b3; omega))) (.slice (some ⟨g1, 0, none⟩) l.length cap1)
    replace hB := hB.far (p := ⟨g3, 4, none⟩) (show w.heap.size ≠ g3 by omega) (.slice (some ⟨g1, 0, none⟩) l.length cap1)
    have hSB6 := hSB5.setCell (p := ⟨g3, 4, none⟩) hs3 (.slice (some ⟨g1, 0, none⟩) l.length cap1)
    replace hG := hG.setCell (p := ⟨g3, 4, none⟩) (.inl (show w.heap.size ≤ g3 by omega)) (.slice (some ⟨g1, 0, none⟩) l.length cap1)
    clear f4 c4 hSB5
    generalize w5.setCell ⟨g3, 4, none⟩ (.slice (some ⟨g1, 0, none⟩) l.length cap1) = w6 at hP hO hB hSB6 hG ⊢
    go_wp2_with fail
    refine (next_c 6 _ s _ hSB6 (by omega) (by omega)).mono ?_; rintro e w7 ⟨r, rfl, hr, hSB7, hh⟩
    replace hP := hP.grown hh (fun e => by have := Option.some.inj e; omega)
    replace hB := hB.grown hh (fun e => by have := Option.some.inj e; omega)
    replace hO := OwnX.kept hO hh (by omega)
    replace hG := hG.trans hh
    have hr2 := inR_pos hr (by omega)
    clear hh hSB6 hr
    rcases (show r = 0 ∨ r = 1 ∨ r = 2 ∨ r = 3 ∨ r = 4 ∨ r = 5 by omega) with rfl | rfl | rfl | rfl | rfl | rfl
    · clear hr2
      go_wp2_with fail
      refine (some_c _ _ _ [⟨#[104, 49]⟩, ⟨#[]⟩, ⟨#[65]⟩] _ _ _ (hSB7.alloc _) (by omega) (by decide) (by decide) (Rd.newAt _ rfl rfl (by decide)) (hSB7.newAt _ _ _ (Nat.le_refl _))).mono ?_; rintro e w8 ⟨x1, rfl, hp, hSB8, hh⟩
      have HX1 := Lib.hid (small_pick hp (by decide))
      clear hp
      have hq := ((G.refl w7 (some s)).alloc (.cells _ 9)).trans hh
      replace hP := hP.grown hq (fun e => by have := Option.some.inj e; omega)
      replace hB := hB.grown hq (fun e => by have := Option.some.inj e; omega)
      replace hO := OwnX.kept hO hq (by omega)
      replace hG := hG.trans hq
      clear hh hq
      go_wp2_with fail
      refine (some_c _ _ _ [⟨#[97, 110, 110]⟩, ⟨#[]⟩] _ _ _ (hSB8.alloc _) (by omega) (by decide) (by decide) (Rd.newAt _ rfl rfl (by decide)) (hSB8.newAt _ _ _ (Nat.le_refl _))).mono ?_; rintro e w9 ⟨x2, rfl, hp, hSB, hh⟩
      have HX2 := Lib.hid (small_pick hp (by decide))
      clear hp
      have hq := ((G.refl w8 (some s)).alloc (.cells _ 9)).trans hh
      replace hP := hP.grown hq (fun e => by have := Option.some.inj e; omega)
      replace hB := hB.grown hq (fun e => by have := Option.some.inj e; omega)
      replace hO := OwnX.kept hO hq (by omega)
      replace hG := hG.trans hq
      clear hh hq
      have hs9 := hSB.lt
      have f0 := hP.free 0
      have f1 := hP.free 1
      have y0 : w9.cell? ⟨g3, 0, none⟩ = some (.string H.1) := hP.cell 0
      have y1 : w9.cell? ⟨g3, 1, none⟩ = some (.string H.2.1) := hP.cell 1
      go_upto_region 20 with fail
      replace hP : Bk ((w9.setCell ⟨g3, 0, none⟩ (.string x1)).setCell ⟨g3, 1, none⟩ (.string x2)) g3 33 #[.string x1, .string x2, .int .i64 H.2.2.1, .int .i64 H.2.2.2, .slice (some ⟨g1, 0, none⟩) l.length cap1] := (hP.set 0 (.string x1)).set 1 (.string x2)
      replace hO := OwnX.far (OwnX.far hO (p := ⟨g3, 0, none⟩) (OwnX.ne hO (.inl (by show g3 < b3; omega))) (.string x1)) (p := ⟨g3, 1, none⟩) (OwnX.ne (OwnX.far hO (p := ⟨g3, 0, none⟩) (OwnX.ne hO (.inl (by show g3 < b3; omega))) (.string x1)) (.inl (by show g3 < b3; omega))) (.string x2)
      replace hB := (hB.far (p := ⟨g3, 0, none⟩) (show w.heap.size ≠ g3 by omega) (.string x1)).far (p := ⟨g3, 1, none⟩) (show w.heap.size ≠ g3 by omega) (.string x2)
      replace hSB := (hSB.setCell (p := ⟨g3, 0, none⟩) hs3 (.string x1)).setCell (p := ⟨g3, 1, none⟩) hs3 (.string x2)
      replace hG := (hG.setCell (p := ⟨g3, 0, none⟩) (.inl (show w.heap.size ≤ g3 by omega)) (.string x1)).setCell (p := ⟨g3, 1, none⟩) (.inl (show w.heap.size ≤ g3 by omega)) (.string x2)
      clear y0 y1 f0 f1
      generalize (w9.setCell ⟨g3, 0, none⟩ (.string x1)).setCell ⟨g3, 1, none⟩ (.string x2) = wz at hP hO hB hSB hG ⊢
      go_wp2_with (first | (refine wpList_load_row rfl 33 _ rfl (g3) rfl 33 #[.string x1, .string x2, .int .i64 H.2.2.1, .int .i64 H.2.2.2, .slice (some ⟨g1, 0, none⟩) l.length cap1] (0, 0) _ hP Tryd.underlying33 rfl (hi_info (x1, x2, H.2.2.1, H.2.2.2) _) ?_) | (refine wpList_store_row rfl 33 _ _ rfl (w.heap.size) #[.string x1, .string x2, .int .i64 H.2.2.1, .int .i64 H.2.2.2, .slice (some ⟨g1, 0, none⟩) l.length cap1] rfl rfl 33 _ hB (hi_info (x1, x2, H.2.2.1, H.2.2.2) _) rfl (hi_one (x1, x2, H.2.2.1, H.2.2.2) _ _ _) ?_))
      refine bodyPost_ret (results_cell_row rfl _ _ w.heap.size 33 #[.string x1, .string x2, .int .i64 H.2.2.1, .int .i64 H.2.2.2, .slice (some ⟨g1, 0, none⟩) l.length cap1] (0, 0) _ rfl (hB.setRow _) Tryd.underlying33 rfl (hi_info (x1, x2, H.2.2.1, H.2.2.2) _)) rfl ?_
      exact hi_fin (H := (x1, x2, H.2.2.1, H.2.2.2)) (l := l) ⟨HOK.out.2.1, HX1.out, HX2.out, HOK.out.2.2.2.2.1, HOK.out.2.2.2.2.2, HOK.out.len.2⟩ (Rd.of_owns hO) (fun k e => by have := OwnX.low hO k e; omega) hSB (by omega) hG hslt
    · clear hr2
      go_wp2_with fail
      refine (time_c _ s _ hSB7 (by omega)).mono ?_; rintro e w8 ⟨z1, z2, rfl, hz1, hz2, hSB, hh⟩
      have HZ := Lib.hid (And.intro hz1 hz2)
      clear hz1 hz2
      replace hP := hP.grown hh (fun e => by have := Option.some.inj e; omega)
      replace hB := hB.grown hh (fun e => by have := Option.some.inj e; omega)
      replace hO := OwnX.kept hO hh (by omega)
      replace hG := hG.trans hh
      clear hh
      have f2 := hP.free 2
      have f3 := hP.free 3
      have y2 : w8.cell? ⟨g3, 2, none⟩ = some (.int .i64 H.2.2.1) := hP.cell 2
      have y3 : w8.cell? ⟨g3, 3, none⟩ = some (.int .i64 H.2.2.2) := hP.cell 3
      go_upto_region 20 with fail
      have hq : G w8 ((w8.setCell ⟨g3, 2, none⟩ (.int .i64 z1)).setCell ⟨g3, 3, none⟩ (.int .i64 z2)) (some g3) := G.setCells g3 [.int .i64 z1, .int .i64 z2] 2 w8
      replace hP : Bk ((w8.setCell ⟨g3, 2, none⟩ (.int .i64 z1)).setCell ⟨g3, 3, none⟩ (.int .i64 z2)) g3 33 #[.string H.1, .string H.2.1, .int .i64 z1, .int .i64 z2, .slice (some ⟨g1, 0, none⟩) l.length cap1] := (hP.set 2 (.int .i64 z1)).set 3 (.int .i64 z2)
      replace hO := World.ownsRow.kept hO hq (.inr fun e => by have := (World.ownsRow.lt hO g3 e).1; omega)
      replace hB := hB.grown hq (fun e => by have := Option.some.inj e; omega)
      replace hSB := hSB.far hq (by omega)
      replace hG := hG.other hq (fun j e => by cases e; exact .inl (by omega))
      clear hq f2 f3 y2 y3
      generalize (w8.setCell ⟨g3, 2, none⟩ (.int .i64 z1)).setCell ⟨g3, 3, none⟩ (.int .i64 z2) = wz at hP hO hB hSB hG ⊢
      go_wp2_with (first | (refine wpList_load_row rfl 33 _ rfl (g3) rfl 33 #[.string H.1, .string H.2.1, .int .i64 z1, .int .i64 z2, .slice (some ⟨g1, 0, none⟩) l.length cap1] (0, 0) _ hP Tryd.underlying33 rfl (hi_info (H.1, H.2.1, z1, z2) _) ?_) | (refine wpList_store_row rfl 33 _ _ rfl (w.heap.size) #[.string H.1, .string H.2.1, .int .i64 z1, .int .i64 z2, .slice (some ⟨g1, 0, none⟩) l.length cap1] rfl rfl 33 _ hB (hi_info (H.1, H.2.1, z1, z2) _) rfl (hi_one (H.1, H.2.1, z1, z2) _ _ _) ?_))
      refine bodyPost_ret (results_cell_row rfl _ _ w.heap.size 33 #[.string H.1, .string H.2.1, .int .i64 z1, .int .i64 z2, .slice (some ⟨g1, 0, none⟩) l.length cap1] (0, 0) _ rfl (hB.setRow _) Tryd.underlying33 rfl (hi_info (H.1, H.2.1, z1, z2) _)) rfl ?_
      exact hi_fin (H := (H.1, H.2.1, z1, z2)) (l := l) ⟨HOK.out.2.1, HOK.out.2.2.1, HOK.out.2.2.2.1, HZ.out.1, HZ.out.2, HOK.out.len.2⟩ (Rd.of_owns hO) (fun k e => by have := OwnX.low hO k e; omega) hSB (by omega) hG hslt
    · clear hr2
      have hSB := hSB7
      have f4 := hP.free 4
      have y4 : w7.cell? ⟨g3, 4, none⟩ = some (.slice (some ⟨g1, 0, none⟩) l.length cap1) := hP.cell 4
      go_upto_region 20 with fail
      replace hP : Bk (w7.setCell ⟨g3, 4, none⟩ (.slice none 0 0)) g3 33 #[.string H.1, .string H.2.1, .int .i64 H.2.2.1, .int .i64 H.2.2.2, .slice none 0 0] := hP.set 4 (.slice none 0 0)
      replace hB := hB.far (p := ⟨g3, 4, none⟩) (show w.heap.size ≠ g3 by omega) (.slice none 0 0)
      replace hSB := hSB.setCell (p := ⟨g3, 4, none⟩) hs3 (.slice none 0 0)
      replace hG := hG.setCell (p := ⟨g3, 4, none⟩) (.inl (show w.heap.size ≤ g3 by omega)) (.slice none 0 0)
      clear y4 f4 hSB7 hO
      generalize w7.setCell ⟨g3, 4, none⟩ (.slice none 0 0) = wz at hP hB hSB hG ⊢
      go_wp2_with (first | (refine wpList_load_row rfl 33 _ rfl (g3) rfl 33 #[.string H.1, .string H.2.1, .int .i64 H.2.2.1, .int .i64 H.2.2.2, .slice none 0 0] (0, 0) _ hP Tryd.underlying33 rfl (hi_info (H.1, H.2.1, H.2.2.1, H.2.2.2) _) ?_) | (refine wpList_store_row rfl 33 _ _ rfl (w.heap.size) #[.string H.1, .string H.2.1, .int .i64 H.2.2.1, .int .i64 H.2.2.2, .slice none 0 0] rfl rfl 33 _ hB (hi_info (H.1, H.2.1, H.2.2.1, H.2.2.2) _) rfl (hi_one (H.1, H.2.1, H.2.2.1, H.2.2.2) _ _ _) ?_))
      refine bodyPost_ret (results_cell_row rfl _ _ w.heap.size 33 #[.string H.1, .string H.2.1, .int .i64 H.2.2.1, .int .i64 H.2.2.2, .slice none 0 0] (0, 0) _ rfl (hB.setRow _) Tryd.underlying33 rfl (hi_info (H.1, H.2.1, H.2.2.1, H.2.2.2) _)) rfl ?_
      exact hi_fin (H := (H.1, H.2.1, H.2.2.1, H.2.2.2)) (l := []) ⟨(fun x hx => by cases hx), HOK.out.2.2.1, HOK.out.2.2.2.1, HOK.out.2.2.2.2.1, HOK.out.2.2.2.2.2, by simp⟩ (RdR.nil _ _ _) (fun k e => by cases e) hSB (by omega) hG hslt
    · clear hr2
      go_upto_region 15 with fail
      have hq := (G.refl w7 none).drew
      have hSB8 := hSB7.quiet hq
      replace hP := hP.quiet hq
      replace hB := hB.quiet hq
      replace hO := OwnX.quiet hO hq
      replace hG := hG.trans0 hq
      clear hq hSB7
      refine wp_region_held_drew (S := (fun w' => w'.cell? ⟨g3, 4, none⟩ = some (.slice (some ⟨g1, 0, none⟩) l.length cap1))) (by kernel_rfl) ?_ (fun hHeld => ?_)
      · exact hP.cell 4
      refine wpAnyH_take (i := 0) (oi := { dst := some 57, op := Op.fieldAddr 33 (Operand.tmp 3) 3, type := 0, pos := _, after := #[], guard := none }) (v := ?_) rfl (by kernel_rfl) (by kernel_rfl) (by kernel_rfl) (fun _ _ _ h => h) (Or.inl ⟨by rfl, ?_⟩) (by assumption) ?_
      rotate_left
      · (intro w hSw; (go_simp <;> with_reducible rfl))
      try simp only [Act.put, List.setIfInBounds_toArray, List.set_cons_zero, List.set_cons_succ]
      refine wpAnyH_take (i := 1) (oi := { dst := some 58, op := Op.load 31 (Operand.tmp 57), type := 31, pos := _, after := #[{ on := 0, ground := Ground.data }], guard := none }) (v := ?_) rfl (by kernel_rfl) (by kernel_rfl) (by kernel_rfl) (fun _ _ _ h => h) (Or.inl ⟨by rfl, ?_⟩) (by assumption) ?_
      rotate_left
      · (intro w hSw; (go_simp <;> with_reducible rfl))
      try simp only [Act.put, List.setIfInBounds_toArray, List.set_cons_zero, List.set_cons_succ]
      refine wpAnyH_take (i := 2) (oi := { dst := some 59, op := Op.move (Operand.tmp 0), type := 23, pos := _, after := #[], guard := none }) (v := ?_) rfl (by kernel_rfl) (by kernel_rfl) (by kernel_rfl) (fun _ _ _ h => h) (Or.inl ⟨by rfl, ?_⟩) (by assumption) ?_
      rotate_left
      · (intro w hSw; (go_simp <;> with_reducible rfl))
      try simp only [Act.put, List.setIfInBounds_toArray, List.set_cons_zero, List.set_cons_succ]
      refine wpAnyH_take (i := 3) (oi := { dst := some 60, op := Op.fieldAddr 33 (Operand.tmp 3) 3, type := 0, pos := _, after := #[], guard := none }) (v := ?_) rfl (by kernel_rfl) (by kernel_rfl) (by kernel_rfl) (fun _ _ _ h => h) (Or.inl ⟨by rfl, ?_⟩) (by assumption) ?_
      rotate_left
      · (intro w hSw; (go_simp <;> with_reducible rfl))
      try simp only [Act.put, List.setIfInBounds_toArray, List.set_cons_zero, List.set_cons_succ]
      refine wpAnyH_take (i := 4) (oi := { dst := some 61, op := Op.load 31 (Operand.tmp 60), type := 31, pos := _, after := #[{ on := 3, ground := Ground.data }], guard := none }) (v := ?_) rfl (by kernel_rfl) (by kernel_rfl) (by kernel_rfl) (fun _ _ _ h => h) (Or.inl ⟨by rfl, ?_⟩) (by assumption) ?_
      rotate_left
      · (intro w hSw; (go_simp <;> with_reducible rfl))
      try simp only [Act.put, List.setIfInBounds_toArray, List.set_cons_zero, List.set_cons_succ]
      refine wpAnyH_take (i := 5) (oi := { dst := some 62, op := Op.call { callee := Callee.builtin Builtin.len, args := #[Operand.tmp 61], argTypes := #[31] }, type := 3, pos := _, after := #[{ on := 4, ground := Ground.data }], guard := none }) (v := ?_) rfl (by kernel_rfl) (by kernel_rfl) (by kernel_rfl) (fun _ _ _ h => h) (Or.inl ⟨by rfl, ?_⟩) (by assumption) ?_
      rotate_left
      · (intro w hSw; (go_simp <;> with_reducible rfl))
      try simp only [Act.put, List.setIfInBounds_toArray, List.set_cons_zero, List.set_cons_succ]
      refine wpAnyH_ready (rs := [6]) (by kernel_rfl) (by simp) ?_
      refine AllReadyH.cons (o := { dst := some 63, op := Op.call { callee := Callee.value (Operand.func 61), args := #[Operand.tmp 59, Operand.tmp 62], argTypes := #[23, 3] }, type := 3, pos := _, after := #[{ on := 2, ground := Ground.data }, { on := 5, ground := Ground.data }], guard := none }) rfl (fun K hK => ?_) AllReadyH.nil
      go_simp
      refine (next_c (l.length : Int) _ s _ hSB8 (by omega) (by have := HOK.out.len.2; omega)).mono ?_
      rintro e w9 ⟨k, rfl, hk, hSB9, hh⟩
      replace hP := hP.grown hh (fun e => by have := Option.some.inj e; omega)
      replace hB := hB.grown hh (fun e => by have := Option.some.inj e; omega)
      replace hO := OwnX.kept hO hh (by omega)
      replace hG := hG.trans hh
      have hk2 := inR_pos hk (by have := HOK.out.len.1; omega)
      obtain ⟨k, rfl⟩ := Int.eq_ofNat_of_zero_le hk2.1
      have hkl : k < l.length := by omega
      have hki : (k : Int) < (l.length : Int) := by omega
      clear hh hSB8 hk hk2
      refine hK.out _ _ ?_ (fun hHeld => ?_)
      · exact hP.cell 4
      clear hK K
      try simp only [Act.put, List.setIfInBounds_toArray, List.set_cons_zero, List.set_cons_succ]
      refine wpAnyH_take (i := 7) (oi := { dst := some 64, op := Op.indexAddr 31 (Operand.tmp 58) (Operand.tmp 63), type := 0, pos := _, after := #[{ on := 1, ground := Ground.data }, { on := 6, ground := Ground.data }], guard := none }) (v := ?_) rfl (by kernel_rfl) (by kernel_rfl) (by kernel_rfl) (fun _ _ _ h => h) (Or.inl ⟨by rfl, ?_⟩) (by assumption) ?_
      rotate_left
      · (intro w hSw; (go_simp <;> with_reducible rfl))
      try simp only [Act.put, List.setIfInBounds_toArray, List.set_cons_zero, List.set_cons_succ]
      refine wpAnyH_take (i := 8) (oi := { dst := some 4, op := Op.assign (Operand.tmp 64), type := 101, pos := _, after := #[{ on := 7, ground := Ground.data }, { on := 6, ground := Ground.chain }, { on := 0, ground := Ground.phase }, { on := 1, ground := Ground.phase }, { on := 2, ground := Ground.phase }, { on := 3, ground := Ground.phase }, { on := 4, ground := Ground.phase }, { on := 5, ground := Ground.phase }, { on := 6, ground := Ground.phase }, { on := 7, ground := Ground.phase }], guard := none }) (v := ?_) rfl (by kernel_rfl) (by kernel_rfl) (by kernel_rfl) (fun _ _ _ h => h) (Or.inl ⟨by rfl, ?_⟩) (by assumption) ?_
      rotate_left
      · (intro w hSw; (go_simp <;> with_reducible rfl))
      try simp only [Act.put, List.setIfInBounds_toArray, List.set_cons_zero, List.set_cons_succ]
      refine wpAnyH_done (by kernel_rfl) ?_ _
      obtain ⟨p, hp⟩ : ∃ p, l[k]? = some p := ⟨_, List.getElem?_eq_getElem hkl⟩
      have HP := Lib.hid hp
      have HKL := Lib.hid hkl
      clear hp hkl
      go_wp2_with fail
      refine (some_c _ _ _ [⟨#[118, 49]⟩, ⟨#[]⟩, ⟨#[65]⟩] _ _ _ (hSB9.alloc _) (by omega) (by decide) (by decide) (Rd.newAt _ rfl rfl (by decide)) (hSB9.newAt _ _ _ (Nat.le_refl _))).mono ?_; rintro e wa ⟨x1, rfl, hq1, hSBa, hh⟩
      have HX1 := Lib.hid (small_pick hq1 (by decide))
      clear hq1
      have hq := ((G.refl w9 (some s)).alloc (.cells _ 9)).trans hh
      replace hP := hP.grown hq (fun e => by have := Option.some.inj e; omega)
      replace hB := hB.grown hq (fun e => by have := Option.some.inj e; omega)
      replace hO := OwnX.kept hO hq (by omega)
      replace hG := hG.trans hq
      clear hh hq
      go_wp2_with fail
      refine (odd_c _ _ _ _ _ hSBa (by omega) (by omega) (by omega) (by omega) (by omega)).mono ?_; rintro e wb ⟨z, rfl, z0, z1, hSB, hh⟩
      clear z0 z1
      replace hP := hP.grown hh (fun e => by have := Option.some.inj e; omega)
      replace hB := hB.grown hh (fun e => by have := Option.some.inj e; omega)
      replace hO := OwnX.kept hO hh (by omega)
      replace hG := hG.trans hh
      clear hh
      have HT := Lib.hid (there_any (z := 9) lgC_sz hO HP.out)
      have f0 := (HT.out 0 (by omega)).2
      have f1 := (HT.out 1 (by omega)).2
      have y0 := RdR.cell lgC_sz (Rd.of_owns hO) (G.refl wb none) HP.out 0 (.string p.1) rfl
      have y1 := RdR.cell lgC_sz (Rd.of_owns hO) (G.refl wb none) HP.out 1 (.int .i64 p.2.1.1) rfl
      simp only [Nat.zero_add, Nat.add_zero] at f0 f1 y0 y1
      go_upto_region 20 with fail
      have hO1 := OwnX.set lgC_sz hO HP.out 0 (.string x1) (by omega) (q := (x1, p.2.1, p.2.2)) rfl
      have hO2 := OwnX.set lgC_sz hO1 (show (l.set k (x1, p.2.1, p.2.2))[k]? = some (x1, p.2.1, p.2.2) by rw [List.getElem?_set_self HKL.out]) 1 (.int .i64 z) (by omega) (q := (x1, (z, p.2.1.2), p.2.2)) rfl
      rw [List.set_set] at hO2
      simp only [Nat.add_zero] at hO1 hO2
      have hq : G wb ((wb.setCell ⟨g1, k * 9, none⟩ (.string x1)).setCell ⟨g1, k * 9 + 1, none⟩ (.int .i64 z)) (some g1) := ((G.refl wb (some g1)).setCell (p := ⟨g1, k * 9, none⟩) (.inr rfl) _).setCell (p := ⟨g1, k * 9 + 1, none⟩) (.inr rfl) _
      replace hP := hP.grown hq (fun e => by have := Option.some.inj e; omega)
      replace hB := hB.grown hq (fun e => by have := Option.some.inj e; omega)
      replace hSB := hSB.far hq (by omega)
      replace hG := hG.other hq (fun j e => by cases e; exact .inl (by omega))
      have hR : RdR ((wb.setCell ⟨g1, k * 9, none⟩ (.string x1)).setCell ⟨g1, k * 9 + 1, none⟩ (.int .i64 z)) 9 lgC (.slice (some ⟨g1, 0, none⟩) l.length cap1) (l.set k (x1, (z, p.2.1.2), p.2.2)) := by
        have := Rd.of_owns hO2
        unfold RdR
        rw [List.length_set]
        exact this
      clear y0 y1 f0 f1 HT hO hO1 hO2 hq
      generalize (wb.setCell ⟨g1, k * 9, none⟩ (.string x1)).setCell ⟨g1, k * 9 + 1, none⟩ (.int .i64 z) = wz at hP hR hB hSB hG ⊢
      go_wp2_with (first | (refine wpList_load_row rfl 33 _ rfl (g3) rfl 33 #[.string H.1, .string H.2.1, .int .i64 H.2.2.1, .int .i64 H.2.2.2, .slice (some ⟨g1, 0, none⟩) l.length cap1] (0, 0) _ hP Tryd.underlying33 rfl (hi_info (H.1, H.2.1, H.2.2.1, H.2.2.2) _) ?_) | (refine wpList_store_row rfl 33 _ _ rfl (w.heap.size) #[.string H.1, .string H.2.1, .int .i64 H.2.2.1, .int .i64 H.2.2.2, .slice (some ⟨g1, 0, none⟩) l.length cap1] rfl rfl 33 _ hB (hi_info (H.1, H.2.1, H.2.2.1, H.2.2.2) _) rfl (hi_one (H.1, H.2.1, H.2.2.1, H.2.2.2) _ _ _) ?_))
      refine bodyPost_ret (results_cell_row rfl _ _ w.heap.size 33 #[.string H.1, .string H.2.1, .int .i64 H.2.2.1, .int .i64 H.2.2.2, .slice (some ⟨g1, 0, none⟩) l.length cap1] (0, 0) _ rfl (hB.setRow _) Tryd.underlying33 rfl (hi_info (H.1, H.2.1, H.2.2.1, H.2.2.2) _)) rfl ?_
      refine hi_fin_len (H := (H.1, H.2.1, H.2.2.1, H.2.2.2)) (List.length_set ..) (l := l.set k (x1, (z, p.2.1.2), p.2.2)) ⟨LgOk.set HOK.out.2.1 (x := (x1, (z, p.2.1.2), p.2.2)) ⟨HX1.out, (HOK.out.2.1 p (List.mem_of_getElem? HP.out)).2.1, (HOK.out.2.1 p (List.mem_of_getElem? HP.out)).2.2⟩ k, HOK.out.2.2.1, HOK.out.2.2.2.1, HOK.out.2.2.2.2.1, HOK.out.2.2.2.2.2, by rw [List.length_set]; exact HOK.out.len.2⟩ hR (fun k e => by have e : g1 = k := Option.some.inj e; omega) hSB (by omega) hG hslt
    · clear hr2
      go_upto_region 18 with fail
      have hq := (G.refl w7 none).drew
      have hSB8 := hSB7.quiet hq
      replace hP := hP.quiet hq
      replace hB := hB.quiet hq
      replace hO := OwnX.quiet hO hq
      replace hG := hG.trans0 hq
      clear hq hSB7
      refine wp_region_held_drew (S := (fun w' => w'.cell? ⟨g3, 4, none⟩ = some (.slice (some ⟨g1, 0, none⟩) l.length cap1))) (by kernel_rfl) ?_ (fun hHeld => ?_)
      · exact hP.cell 4
      refine wpAnyH_take (i := 0) (oi := { dst := some 79, op := Op.fieldAddr 33 (Operand.tmp 3) 3, type := 0, pos := _, after := #[], guard := none }) (v := ?_) rfl (by kernel_rfl) (by kernel_rfl) (by kernel_rfl) (fun _ _ _ h => h) (Or.inl ⟨by rfl, ?_⟩) (by assumption) ?_
      rotate_left
      · (intro w hSw; (go_simp <;> with_reducible rfl))
      try simp only [Act.put, List.setIfInBounds_toArray, List.set_cons_zero, List.set_cons_succ]
      refine wpAnyH_take (i := 1) (oi := { dst := some 80, op := Op.load 31 (Operand.tmp 79), type := 31, pos := _, after := #[{ on := 0, ground := Ground.data }], guard := none }) (v := ?_) rfl (by kernel_rfl) (by kernel_rfl) (by kernel_rfl) (fun _ _ _ h => h) (Or.inl ⟨by rfl, ?_⟩) (by assumption) ?_
      rotate_left
      · (intro w hSw; (go_simp <;> with_reducible rfl))
      try simp only [Act.put, List.setIfInBounds_toArray, List.set_cons_zero, List.set_cons_succ]
      refine wpAnyH_take (i := 2) (oi := { dst := some 81, op := Op.move (Operand.tmp 0), type := 23, pos := _, after := #[], guard := none }) (v := ?_) rfl (by kernel_rfl) (by kernel_rfl) (by kernel_rfl) (fun _ _ _ h => h) (Or.inl ⟨by rfl, ?_⟩) (by assumption) ?_
      rotate_left
      · (intro w hSw; (go_simp <;> with_reducible rfl))
      try simp only [Act.put, List.setIfInBounds_toArray, List.set_cons_zero, List.set_cons_succ]
      refine wpAnyH_take (i := 3) (oi := { dst := some 82, op := Op.fieldAddr 33 (Operand.tmp 3) 3, type := 0, pos := _, after := #[], guard := none }) (v := ?_) rfl (by kernel_rfl) (by kernel_rfl) (by kernel_rfl) (fun _ _ _ h => h) (Or.inl ⟨by rfl, ?_⟩) (by assumption) ?_
      rotate_left
      · (intro w hSw; (go_simp <;> with_reducible rfl))
      try simp only [Act.put, List.setIfInBounds_toArray, List.set_cons_zero, List.set_cons_succ]
      refine wpAnyH_take (i := 4) (oi := { dst := some 83, op := Op.load 31 (Operand.tmp 82), type := 31, pos := _, after := #[{ on := 3, ground := Ground.data }], guard := none }) (v := ?_) rfl (by kernel_rfl) (by kernel_rfl) (by kernel_rfl) (fun _ _ _ h => h) (Or.inl ⟨by rfl, ?_⟩) (by assumption) ?_
      rotate_left
      · (intro w hSw; (go_simp <;> with_reducible rfl))
      try simp only [Act.put, List.setIfInBounds_toArray, List.set_cons_zero, List.set_cons_succ]
      refine wpAnyH_take (i := 5) (oi := { dst := some 84, op := Op.call { callee := Callee.builtin Builtin.len, args := #[Operand.tmp 83], argTypes := #[31] }, type := 3, pos := _, after := #[{ on := 4, ground := Ground.data }], guard := none }) (v := ?_) rfl (by kernel_rfl) (by kernel_rfl) (by kernel_rfl) (fun _ _ _ h => h) (Or.inl ⟨by rfl, ?_⟩) (by assumption) ?_
      rotate_left
      · (intro w hSw; (go_simp <;> with_reducible rfl))
      try simp only [Act.put, List.setIfInBounds_toArray, List.set_cons_zero, List.set_cons_succ]
      refine wpAnyH_ready (rs := [6]) (by kernel_rfl) (by simp) ?_
      refine AllReadyH.cons (o := { dst := some 85, op := Op.call { callee := Callee.value (Operand.func 61), args := #[Operand.tmp 81, Operand.tmp 84], argTypes := #[23, 3] }, type := 3, pos := _, after := #[{ on := 2, ground := Ground.data }, { on := 5, ground := Ground.data }], guard := none }) rfl (fun K hK => ?_) AllReadyH.nil
      go_simp
      refine (next_c (l.length : Int) _ s _ hSB8 (by omega) (by have := HOK.out.len.2; omega)).mono ?_
      rintro e w9 ⟨k, rfl, hk, hSB9, hh⟩
      replace hP := hP.grown hh (fun e => by have := Option.some.inj e; omega)
      replace hB := hB.grown hh (fun e => by have := Option.some.inj e; omega)
      replace hO := OwnX.kept hO hh (by omega)
      replace hG := hG.trans hh
      have hk2 := inR_pos hk (by have := HOK.out.len.1; omega)
      obtain ⟨k, rfl⟩ := Int.eq_ofNat_of_zero_le hk2.1
      have hkl : k < l.length := by omega
      have hki : (k : Int) < (l.length : Int) := by omega
      clear hh hSB8 hk hk2
      refine hK.out _ _ ?_ (fun hHeld => ?_)
      · exact hP.cell 4
      clear hK K
      try simp only [Act.put, List.setIfInBounds_toArray, List.set_cons_zero, List.set_cons_succ]
      refine wpAnyH_take (i := 7) (oi := { dst := some 86, op := Op.indexAddr 31 (Operand.tmp 80) (Operand.tmp 85), type := 0, pos := _, after := #[{ on := 1, ground := Ground.data }, { on := 6, ground := Ground.data }], guard := none }) (v := ?_) rfl (by kernel_rfl) (by kernel_rfl) (by kernel_rfl) (fun _ _ _ h => h) (Or.inl ⟨by rfl, ?_⟩) (by assumption) ?_
      rotate_left
      · (intro w hSw; (go_simp <;> with_reducible rfl))
      try simp only [Act.put, List.setIfInBounds_toArray, List.set_cons_zero, List.set_cons_succ]
      refine wpAnyH_take (i := 8) (oi := { dst := some 5, op := Op.assign (Operand.tmp 86), type := 101, pos := _, after := #[{ on := 7, ground := Ground.data }, { on := 6, ground := Ground.chain }, { on := 0, ground := Ground.phase }, { on := 1, ground := Ground.phase }, { on := 2, ground := Ground.phase }, { on := 3, ground := Ground.phase }, { on := 4, ground := Ground.phase }, { on := 5, ground := Ground.phase }, { on := 6, ground := Ground.phase }, { on := 7, ground := Ground.phase }], guard := none }) (v := ?_) rfl (by kernel_rfl) (by kernel_rfl) (by kernel_rfl) (fun _ _ _ h => h) (Or.inl ⟨by rfl, ?_⟩) (by assumption) ?_
      rotate_left
      · (intro w hSw; (go_simp <;> with_reducible rfl))
      try simp only [Act.put, List.setIfInBounds_toArray, List.set_cons_zero, List.set_cons_succ]
      refine wpAnyH_done (by kernel_rfl) ?_ _
      obtain ⟨p, hp⟩ : ∃ p, l[k]? = some p := ⟨_, List.getElem?_eq_getElem hkl⟩
      have HP := Lib.hid hp
      have HKL := Lib.hid hkl
      clear hp hkl
      go_wp2_with fail
      refine (pick_c _ _ _ [-1, 0, 100, 5000] _ _ _ (hSB9.alloc _) (by omega) (by decide) (by decide) (Rd.newAt _ rfl rfl (by decide)) (hSB9.newAt _ _ _ (Nat.le_refl _))).mono ?_; rintro e wa ⟨z, rfl, hq1, hSBa, hh⟩
      have HZ := Lib.hid (bnd_pick hq1 (by decide))
      clear hq1
      have hq := ((G.refl w9 (some s)).alloc (.cells _ 3)).trans hh
      replace hP := hP.grown hq (fun e => by have := Option.some.inj e; omega)
      replace hB := hB.grown hq (fun e => by have := Option.some.inj e; omega)
      replace hO := OwnX.kept hO hq (by omega)
      replace hG := hG.trans hq
      clear hh hq
      go_wp2_with fail
      refine (reading_c z _ s _ HZ.out hSBa (by omega)).mono ?_; rintro e wb ⟨⟨r1, r2, r3, r4⟩, rfl, hr, hSB, hh⟩
      have HR := Lib.hid hr
      clear hr
      rw [show rgC (r1, r2, r3, r4) = #[.int .i64 r1, .string r2, .int .i64 r3, .int .i64 r4] from rfl]
      replace hP := hP.grown hh (fun e => by have := Option.some.inj e; omega)
      replace hB := hB.grown hh (fun e => by have := Option.some.inj e; omega)
      replace hO := OwnX.kept hO hh (by omega)
      replace hG := hG.trans hh
      clear hh
      have HT := Lib.hid (there_any (z := 9) lgC_sz hO HP.out)
      have f5 := (HT.out 5 (by omega)).2
      have y5 := RdR.cell lgC_sz (Rd.of_owns hO) (G.refl wb none) HP.out 5 (.int .i64 p.2.2.1) rfl
      have f6 := (HT.out 6 (by omega)).2
      have y6 := RdR.cell lgC_sz (Rd.of_owns hO) (G.refl wb none) HP.out 6 (.string p.2.2.2.1) rfl
      have f7 := (HT.out 7 (by omega)).2
      have y7 := RdR.cell lgC_sz (Rd.of_owns hO) (G.refl wb none) HP.out 7 (.int .i64 p.2.2.2.2.1) rfl
      have f8 := (HT.out 8 (by omega)).2
      have y8 := RdR.cell lgC_sz (Rd.of_owns hO) (G.refl wb none) HP.out 8 (.int .i64 p.2.2.2.2.2) rfl
      simp only [Nat.zero_add] at f5 y5 f6 y6 f7 y7 f8 y8
      go_upto_region 20 with fail
      have hq : G wb ((((wb.setCell ⟨g1, k * 9 + 5, none⟩ (.int .i64 r1)).setCell ⟨g1, k * 9 + 6, none⟩ (.string r2)).setCell ⟨g1, k * 9 + 7, none⟩ (.int .i64 r3)).setCell ⟨g1, k * 9 + 8, none⟩ (.int .i64 r4)) (some g1) := G.setCells g1 [.int .i64 r1, .string r2, .int .i64 r3, .int .i64 r4] (k * 9 + 5) wb
      have hO2 := own_setIn hO HP.out (r1, r2, r3, r4)
      replace hP := hP.grown hq (fun e => by have := Option.some.inj e; omega)
      replace hB := hB.grown hq (fun e => by have := Option.some.inj e; omega)
      replace hSB := hSB.far hq (by omega)
      replace hG := hG.other hq (fun j e => by cases e; exact .inl (by omega))
      have hR : RdR ((((wb.setCell ⟨g1, k * 9 + 5, none⟩ (.int .i64 r1)).setCell ⟨g1, k * 9 + 6, none⟩ (.string r2)).setCell ⟨g1, k * 9 + 7, none⟩ (.int .i64 r3)).setCell ⟨g1, k * 9 + 8, none⟩ (.int .i64 r4)) 9 lgC (.slice (some ⟨g1, 0, none⟩) l.length cap1) (l.set k (p.1, p.2.1, (r1, r2, r3, r4))) := Rd.of_owns hO2
      clear HT hO hO2 hq f5 y5 f6 y6 f7 y7 f8 y8
      generalize (((wb.setCell ⟨g1, k * 9 + 5, none⟩ (.int .i64 r1)).setCell ⟨g1, k * 9 + 6, none⟩ (.string r2)).setCell ⟨g1, k * 9 + 7, none⟩ (.int .i64 r3)).setCell ⟨g1, k * 9 + 8, none⟩ (.int .i64 r4) = wz at hP hR hB hSB hG ⊢
      go_wp2_with (first | (refine wpList_load_row rfl 33 _ rfl (g3) rfl 33 #[.string H.1, .string H.2.1, .int .i64 H.2.2.1, .int .i64 H.2.2.2, .slice (some ⟨g1, 0, none⟩) l.length cap1] (0, 0) _ hP Tryd.underlying33 rfl (hi_info (H.1, H.2.1, H.2.2.1, H.2.2.2) _) ?_) | (refine wpList_store_row rfl 33 _ _ rfl (w.heap.size) #[.string H.1, .string H.2.1, .int .i64 H.2.2.1, .int .i64 H.2.2.2, .slice (some ⟨g1, 0, none⟩) l.length cap1] rfl rfl 33 _ hB (hi_info (H.1, H.2.1, H.2.2.1, H.2.2.2) _) rfl (hi_one (H.1, H.2.1, H.2.2.1, H.2.2.2) _ _ _) ?_))
      refine bodyPost_ret (results_cell_row rfl _ _ w.heap.size 33 #[.string H.1, .string H.2.1, .int .i64 H.2.2.1, .int .i64 H.2.2.2, .slice (some ⟨g1, 0, none⟩) l.length cap1] (0, 0) _ rfl (hB.setRow _) Tryd.underlying33 rfl (hi_info (H.1, H.2.1, H.2.2.1, H.2.2.2) _)) rfl ?_
      refine hi_fin_len (H := (H.1, H.2.1, H.2.2.1, H.2.2.2)) (List.length_set ..) (l := l.set k (p.1, p.2.1, (r1, r2, r3, r4))) ⟨LgOk.set HOK.out.2.1 (x := (p.1, p.2.1, (r1, r2, r3, r4))) ⟨(HOK.out.2.1 p (List.mem_of_getElem? HP.out)).1, (HOK.out.2.1 p (List.mem_of_getElem? HP.out)).2.1, HR.out.2.1⟩ k, HOK.out.2.2.1, HOK.out.2.2.2.1, HOK.out.2.2.2.2.1, HOK.out.2.2.2.2.2, by rw [List.length_set]; exact HOK.out.len.2⟩ hR (fun k e => by have e : g1 = k := Option.some.inj e; omega) hSB (by omega) hG hslt
    · clear hr2
      go_upto_region 6 with fail
      have hq := (G.refl w7 none).drew
      have hSB8 := hSB7.quiet hq
      replace hP := hP.quiet hq
      replace hB := hB.quiet hq
      replace hO := OwnX.quiet hO hq
      replace hG := hG.trans0 hq
      clear hq hSB7
      refine wp_region_held_drew (S := (fun w' => w'.cell? ⟨g3, 4, none⟩ = some (.slice (some ⟨g1, 0, none⟩) l.length cap1))) (by kernel_rfl) ?_ (fun hHeld => ?_)
      · exact hP.cell 4
      refine wpAnyH_take (i := 0) (oi := { dst := some 22, op := Op.fieldAddr 33 (Operand.tmp 3) 3, type := 0, pos := _, after := #[], guard := none }) (v := ?_) rfl (by kernel_rfl) (by kernel_rfl) (by kernel_rfl) (fun _ _ _ h => h) (Or.inl ⟨by rfl, ?_⟩) (by assumption) ?_
      rotate_left
      · (intro w hSw; (go_simp <;> with_reducible rfl))
      try simp only [Act.put, List.setIfInBounds_toArray, List.set_cons_zero, List.set_cons_succ]
      refine wpAnyH_take (i := 1) (oi := { dst := some 23, op := Op.load 31 (Operand.tmp 22), type := 31, pos := _, after := #[{ on := 0, ground := Ground.data }], guard := none }) (v := ?_) rfl (by kernel_rfl) (by kernel_rfl) (by kernel_rfl) (fun _ _ _ h => h) (Or.inl ⟨by rfl, ?_⟩) (by assumption) ?_
      rotate_left
      · (intro w hSw; (go_simp <;> with_reducible rfl))
      try simp only [Act.put, List.setIfInBounds_toArray, List.set_cons_zero, List.set_cons_succ]
      refine wpAnyH_take (i := 2) (oi := { dst := some 24, op := Op.move (Operand.tmp 0), type := 23, pos := _, after := #[], guard := none }) (v := ?_) rfl (by kernel_rfl) (by kernel_rfl) (by kernel_rfl) (fun _ _ _ h => h) (Or.inl ⟨by rfl, ?_⟩) (by assumption) ?_
      rotate_left
      · (intro w hSw; (go_simp <;> with_reducible rfl))
      try simp only [Act.put, List.setIfInBounds_toArray, List.set_cons_zero, List.set_cons_succ]
      refine wpAnyH_take (i := 3) (oi := { dst := some 25, op := Op.fieldAddr 33 (Operand.tmp 3) 3, type := 0, pos := _, after := #[], guard := none }) (v := ?_) rfl (by kernel_rfl) (by kernel_rfl) (by kernel_rfl) (fun _ _ _ h => h) (Or.inl ⟨by rfl, ?_⟩) (by assumption) ?_
      rotate_left
      · (intro w hSw; (go_simp <;> with_reducible rfl))
      try simp only [Act.put, List.setIfInBounds_toArray, List.set_cons_zero, List.set_cons_succ]
      refine wpAnyH_take (i := 4) (oi := { dst := some 26, op := Op.load 31 (Operand.tmp 25), type := 31, pos := _, after := #[{ on := 3, ground := Ground.data }], guard := none }) (v := ?_) rfl (by kernel_rfl) (by kernel_rfl) (by kernel_rfl) (fun _ _ _ h => h) (Or.inl ⟨by rfl, ?_⟩) (by assumption) ?_
      rotate_left
      · (intro w hSw; (go_simp <;> with_reducible rfl))
      try simp only [Act.put, List.setIfInBounds_toArray, List.set_cons_zero, List.set_cons_succ]
      refine wpAnyH_take (i := 5) (oi := { dst := some 27, op := Op.call { callee := Callee.builtin Builtin.len, args := #[Operand.tmp 26], argTypes := #[31] }, type := 3, pos := _, after := #[{ on := 4, ground := Ground.data }], guard := none }) (v := ?_) rfl (by kernel_rfl) (by kernel_rfl) (by kernel_rfl) (fun _ _ _ h => h) (Or.inl ⟨by rfl, ?_⟩) (by assumption) ?_
      rotate_left
      · (intro w hSw; (go_simp <;> with_reducible rfl))
      try simp only [Act.put, List.setIfInBounds_toArray, List.set_cons_zero, List.set_cons_succ]
      refine wpAnyH_ready (rs := [6]) (by kernel_rfl) (by simp) ?_
      refine AllReadyH.cons (o := { dst := some 28, op := Op.call { callee := Callee.value (Operand.func 61), args := #[Operand.tmp 24, Operand.tmp 27], argTypes := #[23, 3] }, type := 3, pos := _, after := #[{ on := 2, ground := Ground.data }, { on := 5, ground := Ground.data }], guard := none }) rfl (fun K hK => ?_) AllReadyH.nil
      go_simp
      refine (next_c (l.length : Int) _ s _ hSB8 (by omega) (by have := HOK.out.len.2; omega)).mono ?_
      rintro e w9 ⟨k, rfl, hk, hSB9, hh⟩
      replace hP := hP.grown hh (fun e => by have := Option.some.inj e; omega)
      replace hB := hB.grown hh (fun e => by have := Option.some.inj e; omega)
      replace hO := OwnX.kept hO hh (by omega)
      replace hG := hG.trans hh
      have hk2 := inR_pos hk (by have := HOK.out.len.1; omega)
      obtain ⟨k, rfl⟩ := Int.eq_ofNat_of_zero_le hk2.1
      have hkl : k < l.length := by omega
      have hki : (k : Int) < (l.length : Int) := by omega
      clear hh hSB8 hk hk2
      refine hK.out _ _ ?_ (fun hHeld => ?_)
      · exact hP.cell 4
      clear hK K
      try simp only [Act.put, List.setIfInBounds_toArray, List.set_cons_zero, List.set_cons_succ]
      refine wpAnyH_take (i := 7) (oi := { dst := some 29, op := Op.indexAddr 31 (Operand.tmp 23) (Operand.tmp 28), type := 0, pos := _, after := #[{ on := 1, ground := Ground.data }, { on := 6, ground := Ground.data }], guard := none }) (v := ?_) rfl (by kernel_rfl) (by kernel_rfl) (by kernel_rfl) (fun _ _ _ h => h) (Or.inl ⟨by rfl, ?_⟩) (by assumption) ?_
      rotate_left
      · (intro w hSw; (go_simp <;> with_reducible rfl))
      try simp only [Act.put, List.setIfInBounds_toArray, List.set_cons_zero, List.set_cons_succ]
      refine wpAnyH_take (i := 8) (oi := { dst := some 6, op := Op.assign (Operand.tmp 29), type := 101, pos := _, after := #[{ on := 7, ground := Ground.data }, { on := 6, ground := Ground.chain }, { on := 0, ground := Ground.phase }, { on := 1, ground := Ground.phase }, { on := 2, ground := Ground.phase }, { on := 3, ground := Ground.phase }, { on := 4, ground := Ground.phase }, { on := 5, ground := Ground.phase }, { on := 6, ground := Ground.phase }, { on := 7, ground := Ground.phase }], guard := none }) (v := ?_) rfl (by kernel_rfl) (by kernel_rfl) (by kernel_rfl) (fun _ _ _ h => h) (Or.inl ⟨by rfl, ?_⟩) (by assumption) ?_
      rotate_left
      · (intro w hSw; (go_simp <;> with_reducible rfl))
      try simp only [Act.put, List.setIfInBounds_toArray, List.set_cons_zero, List.set_cons_succ]
      refine wpAnyH_done (by kernel_rfl) ?_ _
      obtain ⟨p, hp⟩ : ∃ p, l[k]? = some p := ⟨_, List.getElem?_eq_getElem hkl⟩
      have HP := Lib.hid hp
      have HKL := Lib.hid hkl
      clear hp hkl
      go_wp2_with fail
      refine (pick_c _ _ _ [0, 0, 1] _ _ _ (hSB9.alloc _) (by omega) (by decide) (by decide) (Rd.newAt _ rfl rfl (by decide)) (hSB9.newAt _ _ _ (Nat.le_refl _))).mono ?_; rintro e wb ⟨z, rfl, hq1, hSB, hh⟩
      clear hq1
      have hq := ((G.refl w9 (some s)).alloc (.cells _ 3)).trans hh
      replace hP := hP.grown hq (fun e => by have := Option.some.inj e; omega)
      replace hB := hB.grown hq (fun e => by have := Option.some.inj e; omega)
      replace hO := OwnX.kept hO hq (by omega)
      replace hG := hG.trans hq
      clear hh hq
      have HT := Lib.hid (there_any (z := 9) lgC_sz hO HP.out)
      have f5 := (HT.out 5 (by omega)).2
      have y5 := RdR.cell lgC_sz (Rd.of_owns hO) (G.refl wb none) HP.out 5 (.int .i64 p.2.2.1) rfl
      have f6 := (HT.out 6 (by omega)).2
      have y6 := RdR.cell lgC_sz (Rd.of_owns hO) (G.refl wb none) HP.out 6 (.string p.2.2.2.1) rfl
      have f7 := (HT.out 7 (by omega)).2
      have y7 := RdR.cell lgC_sz (Rd.of_owns hO) (G.refl wb none) HP.out 7 (.int .i64 p.2.2.2.2.1) rfl
      have f8 := (HT.out 8 (by omega)).2
      have y8 := RdR.cell lgC_sz (Rd.of_owns hO) (G.refl wb none) HP.out 8 (.int .i64 p.2.2.2.2.2) rfl
      simp only [Nat.zero_add] at f5 y5 f6 y6 f7 y7 f8 y8
      go_upto_region 20 with fail
      have hq : G wb ((((wb.setCell ⟨g1, k * 9 + 5, none⟩ (.int .i64 (-1))).setCell ⟨g1, k * 9 + 6, none⟩ (.string ⟨#[]⟩)).setCell ⟨g1, k * 9 + 7, none⟩ (.int .i64 z)).setCell ⟨g1, k * 9 + 8, none⟩ (.int .i64 0)) (some g1) := G.setCells g1 [.int .i64 (-1), .string ⟨#[]⟩, .int .i64 z, .int .i64 0] (k * 9 + 5) wb
      have hO2 := own_setIn hO HP.out (-1, ⟨#[]⟩, z, 0)
      replace hP := hP.grown hq (fun e => by have := Option.some.inj e; omega)
      replace hB := hB.grown hq (fun e => by have := Option.some.inj e; omega)
      replace hSB := hSB.far hq (by omega)
      replace hG := hG.other hq (fun j e => by cases e; exact .inl (by omega))
      have hR : RdR ((((wb.setCell ⟨g1, k * 9 + 5, none⟩ (.int .i64 (-1))).setCell ⟨g1, k * 9 + 6, none⟩ (.string ⟨#[]⟩)).setCell ⟨g1, k * 9 + 7, none⟩ (.int .i64 z)).setCell ⟨g1, k * 9 + 8, none⟩ (.int .i64 0)) 9 lgC (.slice (some ⟨g1, 0, none⟩) l.length cap1) (l.set k (p.1, p.2.1, (-1, ⟨#[]⟩, z, 0))) := Rd.of_owns hO2
      clear HT hO hO2 hq f5 y5 f6 y6 f7 y7 f8 y8
      generalize (((wb.setCell ⟨g1, k * 9 + 5, none⟩ (.int .i64 (-1))).setCell ⟨g1, k * 9 + 6, none⟩ (.string ⟨#[]⟩)).setCell ⟨g1, k * 9 + 7, none⟩ (.int .i64 z)).setCell ⟨g1, k * 9 + 8, none⟩ (.int .i64 0) = wz at hP hR hB hSB hG ⊢
      go_wp2_with (first | (refine wpList_load_row rfl 33 _ rfl (g3) rfl 33 #[.string H.1, .string H.2.1, .int .i64 H.2.2.1, .int .i64 H.2.2.2, .slice (some ⟨g1, 0, none⟩) l.length cap1] (0, 0) _ hP Tryd.underlying33 rfl (hi_info (H.1, H.2.1, H.2.2.1, H.2.2.2) _) ?_) | (refine wpList_store_row rfl 33 _ _ rfl (w.heap.size) #[.string H.1, .string H.2.1, .int .i64 H.2.2.1, .int .i64 H.2.2.2, .slice (some ⟨g1, 0, none⟩) l.length cap1] rfl rfl 33 _ hB (hi_info (H.1, H.2.1, H.2.2.1, H.2.2.2) _) rfl (hi_one (H.1, H.2.1, H.2.2.1, H.2.2.2) _ _ _) ?_))
      refine bodyPost_ret (results_cell_row rfl _ _ w.heap.size 33 #[.string H.1, .string H.2.1, .int .i64 H.2.2.1, .int .i64 H.2.2.2, .slice (some ⟨g1, 0, none⟩) l.length cap1] (0, 0) _ rfl (hB.setRow _) Tryd.underlying33 rfl (hi_info (H.1, H.2.1, H.2.2.1, H.2.2.2) _)) rfl ?_
      refine hi_fin_len (H := (H.1, H.2.1, H.2.2.1, H.2.2.2)) (List.length_set ..) (l := l.set k (p.1, p.2.1, (-1, ⟨#[]⟩, z, 0))) ⟨LgOk.set HOK.out.2.1 (x := (p.1, p.2.1, (-1, ⟨#[]⟩, z, 0))) ⟨(HOK.out.2.1 p (List.mem_of_getElem? HP.out)).1, (HOK.out.2.1 p (List.mem_of_getElem? HP.out)).2.1, small_nil⟩ k, HOK.out.2.2.1, HOK.out.2.2.2.1, HOK.out.2.2.2.2.1, HOK.out.2.2.2.2.2, by rw [List.length_set]; exact HOK.out.len.2⟩ hR (fun k e => by have e : g1 = k := Option.some.inj e; omega) hSB (by omega) hG hslt
end Go.Proofs.YtpgamfoancomiaaDoor

/- Generator: Deal. Written by gendep.py. -/
namespace Go.Proofs.YtpgamfoancomiaaDoor
open Go.RowKit

def DealPost (s K : Nat) (w : World) (e : Ending) (w' : World) : Prop :=
  ∃ x : De, e = .returned (.agg (deC x)) ∧ SB w' s (K + 16) ∧ G w w' (some s)
theorem de_one (x : De) : (deC x).all (·.oneCell') = true := by simp [deC, Value.oneCell']
theorem deal_fin {w w3 : World} {s K : Nat} {x : De} (hs : s < w.heap.size) (hSB : SB w3 s (K + 16)) (hG : G w w3 (some s)) :
    DealPost s K w (.returned (.agg (deC x))) (w3.setRow w.heap.size (deC x)) :=
  ⟨x, rfl, hSB.setRow hs _, hG.setRow (.inl (Nat.le_refl _)) _⟩
set_option maxRecDepth 100000 in
set_option maxHeartbeats 4000000 in
theorem deal_c (w : World) (s : Nat) (K : Nat) (hs : SB w s K) (hk : K ≤ 900000000000) :
    Calls Tryd.prog 8 #[.pointer (some ⟨s, 0, none⟩)] w (DealPost s K w) := by
  have hslt := hs.lt
  go_enter Tryd.func8, Tryd.ntmps8
  go_wp2_with fail
  refine (pick_c _ _ _ [0, 100, 200, 10000] _ _ K ((hs.alloc _).alloc _) (by omega) (by decide) (by decide) (Rd.newAt _ (by simp) rfl (by decide)) (hs.newAt _ _ _ (by omega))).mono ?_
  rintro e w1 ⟨a0, rfl, hp, hSB1, hG1⟩
  have hz1 : w.heap.size + 2 ≤ w1.heap.size := by have := hG1.size; simp at this; omega
  have hB1 := ((Bk.new w 27 #[.int .i64 0, .int .i64 0, .int .i64 0, .int .i64 0, .int .i64 0, .int .i64 0, .int .i64 0]).alloc (.cells _ 3)).grown hG1 (by simp; omega)
  have hG01 : G w w1 (some s) := (((G.refl w (some s)).alloc _).alloc _).trans hG1
  clear hG1 hp hz1
  go_wp2_with fail
  refine (pick_c _ _ _ [0, 2, 30] _ _ _ (hSB1.alloc _) (by omega) (by decide) (by decide) (Rd.newAt _ rfl rfl (by decide)) (hSB1.newAt _ _ _ (Nat.le_refl _))).mono ?_
  rintro e w2 ⟨a1, rfl, hp, hSB2, hG2⟩
  have hB2 := (hB1.alloc (.cells _ 3)).grown hG2 (by simp; omega)
  have hG02 := (hG01.alloc _).trans hG2
  clear hG2 hp hB1 hG01 hSB1
  go_wp2_with fail
  refine (pick_c _ _ _ [0, 300, 1000] _ _ _ (hSB2.alloc _) (by omega) (by decide) (by decide) (Rd.newAt _ rfl rfl (by decide)) (hSB2.newAt _ _ _ (Nat.le_refl _))).mono ?_
  rintro e w3 ⟨a2, rfl, hp, hSB3, hG3⟩
  have hB3 := (hB2.alloc (.cells _ 3)).grown hG3 (fun e => by have := Option.some.inj e; omega)
  have hG03 := (hG02.alloc _).trans hG3
  clear hG3 hp hB2 hG02 hSB2
  go_wp2_with fail
  refine (pick_c _ _ _ [0, 29, 30, 59, 60] _ _ _ (hSB3.alloc _) (by omega) (by decide) (by decide) (Rd.newAt _ rfl rfl (by decide)) (hSB3.newAt _ _ _ (Nat.le_refl _))).mono ?_
  rintro e w4 ⟨a3, rfl, hp, hSB4, hG4⟩
  have hB4 := (hB3.alloc (.cells _ 3)).grown hG4 (fun e => by have := Option.some.inj e; omega)
  have hG04 := (hG03.alloc _).trans hG4
  clear hG4 hp hB3 hG03 hSB3
  go_wp2_with fail
  refine (pick_c _ _ _ [0, 500, 1000, 2000] _ _ _ (hSB4.alloc _) (by omega) (by decide) (by decide) (Rd.newAt _ rfl rfl (by decide)) (hSB4.newAt _ _ _ (Nat.le_refl _))).mono ?_
  rintro e w5 ⟨a4, rfl, hp, hSB5, hG5⟩
  have hB5 := (hB4.alloc (.cells _ 3)).grown hG5 (fun e => by have := Option.some.inj e; omega)
  have hG05 := (hG04.alloc _).trans hG5
  clear hG5 hp hB4 hG04 hSB4
  go_wp2_with fail
  refine (pick_c _ _ _ [0, 4000, 5000, 9000] _ _ _ (hSB5.alloc _) (by omega) (by decide) (by decide) (Rd.newAt _ rfl rfl (by decide)) (hSB5.newAt _ _ _ (Nat.le_refl _))).mono ?_
  rintro e w6 ⟨a5, rfl, hp, hSB6, hG6⟩
  have hB6 := (hB5.alloc (.cells _ 3)).grown hG6 (fun e => by have := Option.some.inj e; omega)
  have hG06 := (hG05.alloc _).trans hG6
  clear hG6 hp hB5 hG05 hSB5
  go_wp2_with fail
  refine (pick_c _ _ _ [0, 10000, 1000000] _ _ _ (hSB6.alloc _) (by omega) (by decide) (by decide) (Rd.newAt _ rfl rfl (by decide)) (hSB6.newAt _ _ _ (Nat.le_refl _))).mono ?_
  rintro e w7 ⟨a6, rfl, hp, hSB7, hG7⟩
  have hB7 := (hB6.alloc (.cells _ 3)).grown hG7 (fun e => by have := Option.some.inj e; omega)
  have hG07 := (hG06.alloc _).trans hG7
  clear hG7 hp hB6 hG06 hSB6
  have hN8 := Bk.new w7 27 #[.int .i64 a0, .int .i64 a1, .int .i64 a2, .int .i64 a3, .int .i64 a4, .int .i64 a5, .int .i64 a6]
  have hSB8 := hSB7.alloc (.cells #[.int .i64 a0, .int .i64 a1, .int .i64 a2, .int .i64 a3, .int .i64 a4, .int .i64 a5, .int .i64 a6] 27)
  have hB8 := hB7.alloc (.cells #[.int .i64 a0, .int .i64 a1, .int .i64 a2, .int .i64 a3, .int .i64 a4, .int .i64 a5, .int .i64 a6] 27)
  have hG08 := hG07.alloc (.cells #[.int .i64 a0, .int .i64 a1, .int .i64 a2, .int .i64 a3, .int .i64 a4, .int .i64 a5, .int .i64 a6] 27)
  have hs7 := hSB7.lt
  have hl7 := hB7.lt
  have hgw : w.heap.size ≤ w7.heap.size := hG07.size
  clear hB7 hG07 hSB7
  go_wp2_with fail
  generalize w7.alloc (.cells #[.int .i64 a0, .int .i64 a1, .int .i64 a2, .int .i64 a3, .int .i64 a4, .int .i64 a5, .int .i64 a6] 27) = w8 at hN8 hSB8 hB8 hG08 ⊢
  generalize w7.heap.size = g at hN8 hs7 hl7 hgw ⊢
  refine (flip_c _ _ _ _ hSB8 (by omega) (by omega)).mono ?_; rintro e w9 ⟨q, rfl, hSB9, hG9⟩
  have hN9 := hN8.grown hG9 (fun e => by have := Option.some.inj e; omega)
  have hB9 := hB8.grown hG9 (fun e => by have := Option.some.inj e; omega)
  have hG09 := hG08.trans hG9
  clear hN8 hB8 hG08 hG9 hSB8
  cases q with
  | false =>
    go_wp2_with (first | (refine wpList_load_row rfl 27 _ rfl g rfl 27 #[.int .i64 a0, .int .i64 a1, .int .i64 a2, .int .i64 a3, .int .i64 a4, .int .i64 a5, .int .i64 a6] (0, 0) _ hN9 Tryd.underlying27 rfl (de_info ⟨a0, a1, a2, a3, a4, a5, a6⟩) ?_) | (refine wpList_store_row rfl 27 _ _ rfl w.heap.size #[.int .i64 a0, .int .i64 a1, .int .i64 a2, .int .i64 a3, .int .i64 a4, .int .i64 a5, .int .i64 a6] rfl rfl 27 _ hB9 (de_info ⟨a0, a1, a2, a3, a4, a5, a6⟩) rfl (de_one ⟨a0, a1, a2, a3, a4, a5, a6⟩) ?_) | (refine wpList_load_row rfl 27 _ rfl w.heap.size rfl 27 #[.int .i64 a0, .int .i64 a1, .int .i64 a2, .int .i64 a3, .int .i64 a4, .int .i64 a5, .int .i64 a6] (0, 0) _ (hB9.setRow _) Tryd.underlying27 rfl (de_info ⟨a0, a1, a2, a3, a4, a5, a6⟩) ?_))
    refine bodyPost_ret (results_cell_row rfl _ _ w.heap.size 27 #[.int .i64 a0, .int .i64 a1, .int .i64 a2, .int .i64 a3, .int .i64 a4, .int .i64 a5, .int .i64 a6] (0, 0) _ rfl (hB9.setRow _) Tryd.underlying27 rfl (de_info ⟨a0, a1, a2, a3, a4, a5, a6⟩)) rfl ?_
    exact deal_fin (x := ⟨a0, a1, a2, a3, a4, a5, a6⟩) hslt (hSB9.le (by omega)) hG09
  | true =>
    go_wp2_with fail
    refine (odd_c _ _ _ _ _ hSB9 (by omega) (by omega) (by omega) (by omega) (by omega)).mono ?_; rintro e wa ⟨b0, rfl, b0, b1, hSBa, hGa⟩
    have hNa := hN9.grown hGa (fun e => by have := Option.some.inj e; omega)
    have hBa := hB9.grown hGa (fun e => by have := Option.some.inj e; omega)
    have hG0a := hG09.trans hGa
    clear hN9 hB9 hG09 hGa hSB9 b0 b1
    go_wp2_with fail
    refine (odd_c _ _ _ _ _ hSBa (by omega) (by omega) (by omega) (by omega) (by omega)).mono ?_; rintro e wb ⟨b1, rfl, b0, b1, hSBb, hGb⟩
    have hNb := hNa.grown hGb (fun e => by have := Option.some.inj e; omega)
    have hBb := hBa.grown hGb (fun e => by have := Option.some.inj e; omega)
    have hG0b := hG0a.trans hGb
    clear hNa hBa hG0a hGb hSBa b0 b1
    go_wp2_with fail
    refine (odd_c _ _ _ _ _ hSBb (by omega) (by omega) (by omega) (by omega) (by omega)).mono ?_; rintro e wc ⟨b2, rfl, b0, b1, hSBc, hGc⟩
    have hNc := hNb.grown hGc (fun e => by have := Option.some.inj e; omega)
    have hBc := hBb.grown hGc (fun e => by have := Option.some.inj e; omega)
    have hG0c := hG0b.trans hGc
    clear hNb hBb hG0b hGc hSBb b0 b1
    go_wp2_with fail
    refine (odd_c _ _ _ _ _ hSBc (by omega) (by omega) (by omega) (by omega) (by omega)).mono ?_; rintro e wd ⟨b3, rfl, b0, b1, hSBd, hGd⟩
    have hNd := hNc.grown hGd (fun e => by have := Option.some.inj e; omega)
    have hBd := hBc.grown hGd (fun e => by have := Option.some.inj e; omega)
    have hG0d := hG0c.trans hGd
    clear hNc hBc hG0c hGd hSBc b0 b1
    have n0 : wd.cell? ⟨g, 0, none⟩ = some (.int .i64 a0) := hNd.cell 0
    have n1 : wd.cell? ⟨g, 1, none⟩ = some (.int .i64 a1) := hNd.cell 1
    have n2 : wd.cell? ⟨g, 2, none⟩ = some (.int .i64 a2) := hNd.cell 2
    have n3 : wd.cell? ⟨g, 3, none⟩ = some (.int .i64 a3) := hNd.cell 3
    have n4 : wd.cell? ⟨g, 4, none⟩ = some (.int .i64 a4) := hNd.cell 4
    have n5 : wd.cell? ⟨g, 5, none⟩ = some (.int .i64 a5) := hNd.cell 5
    have n6 : wd.cell? ⟨g, 6, none⟩ = some (.int .i64 a6) := hNd.cell 6
    have x0 := hNd.free 0
    have x3 := hNd.free 3
    have x4 := hNd.free 4
    have x6 := hNd.free 6
    go_upto_region 4 with fail
    have hNe : Bk ((((wd.setCell ⟨g, 0, none⟩ (.int .i64 b0)).setCell ⟨g, 3, none⟩ (.int .i64 b1)).setCell ⟨g, 4, none⟩ (.int .i64 b2)).setCell ⟨g, 6, none⟩ (.int .i64 b3)) g 27 #[.int .i64 b0, .int .i64 a1, .int .i64 a2, .int .i64 b1, .int .i64 b2, .int .i64 a5, .int .i64 b3] := (((hNd.set 0 _).set 3 _).set 4 _).set 6 _
    have hBe := ((((hBd.far (p := ⟨g, 0, none⟩) (show w.heap.size ≠ g by omega) (.int .i64 b0)).far (p := ⟨g, 3, none⟩) (show w.heap.size ≠ g by omega) (.int .i64 b1)).far (p := ⟨g, 4, none⟩) (show w.heap.size ≠ g by omega) (.int .i64 b2)).far (p := ⟨g, 6, none⟩) (show w.heap.size ≠ g by omega) (.int .i64 b3))
    have hSBe := ((((hSBd.setCell (p := ⟨g, 0, none⟩) hs7 (.int .i64 b0)).setCell (p := ⟨g, 3, none⟩) hs7 (.int .i64 b1)).setCell (p := ⟨g, 4, none⟩) hs7 (.int .i64 b2)).setCell (p := ⟨g, 6, none⟩) hs7 (.int .i64 b3))
    have hG0e := ((((hG0d.setCell (p := ⟨g, 0, none⟩) (.inl hgw) (.int .i64 b0)).setCell (p := ⟨g, 3, none⟩) (.inl hgw) (.int .i64 b1)).setCell (p := ⟨g, 4, none⟩) (.inl hgw) (.int .i64 b2)).setCell (p := ⟨g, 6, none⟩) (.inl hgw) (.int .i64 b3))
    generalize ((((wd.setCell ⟨g, 0, none⟩ (.int .i64 b0)).setCell ⟨g, 3, none⟩ (.int .i64 b1)).setCell ⟨g, 4, none⟩ (.int .i64 b2)).setCell ⟨g, 6, none⟩ (.int .i64 b3)) = we at hNe hBe hSBe hG0e ⊢
    clear hNd hBd hSBd hG0d n0 n1 n2 n3 n4 n5 n6 x0 x3 x4 x6
    go_wp2_with (first | (refine wpList_load_row rfl 27 _ rfl g rfl 27 #[.int .i64 b0, .int .i64 a1, .int .i64 a2, .int .i64 b1, .int .i64 b2, .int .i64 a5, .int .i64 b3] (0, 0) _ hNe Tryd.underlying27 rfl (de_info ⟨b0, a1, a2, b1, b2, a5, b3⟩) ?_) | (refine wpList_store_row rfl 27 _ _ rfl w.heap.size #[.int .i64 b0, .int .i64 a1, .int .i64 a2, .int .i64 b1, .int .i64 b2, .int .i64 a5, .int .i64 b3] rfl rfl 27 _ hBe (de_info ⟨b0, a1, a2, b1, b2, a5, b3⟩) rfl (de_one ⟨b0, a1, a2, b1, b2, a5, b3⟩) ?_) | (refine wpList_load_row rfl 27 _ rfl w.heap.size rfl 27 #[.int .i64 b0, .int .i64 a1, .int .i64 a2, .int .i64 b1, .int .i64 b2, .int .i64 a5, .int .i64 b3] (0, 0) _ (hBe.setRow _) Tryd.underlying27 rfl (de_info ⟨b0, a1, a2, b1, b2, a5, b3⟩) ?_))
    refine bodyPost_ret (results_cell_row rfl _ _ w.heap.size 27 #[.int .i64 b0, .int .i64 a1, .int .i64 a2, .int .i64 b1, .int .i64 b2, .int .i64 a5, .int .i64 b3] (0, 0) _ rfl (hBe.setRow _) Tryd.underlying27 rfl (de_info ⟨b0, a1, a2, b1, b2, a5, b3⟩)) rfl ?_
    exact deal_fin (x := ⟨b0, a1, a2, b1, b2, a5, b3⟩) hslt (hSBe.le (by omega)) hG0e
end Go.Proofs.YtpgamfoancomiaaDoor

/- Deals: Settle. -/
namespace Go.Proofs.YtpgamfoancomiaaDoor
open Go.RowKit

def seE (x : De) (l : List Li) (p : Int) : Int := if deE x = 1 then 1 else if liE l ≠ 0 then liE l else if inB p 0 1000000000 = false then 1 else 0
/-- What is left. -/
def seL (x : De) (l : List Li) (p : Int) : Int := if seE x l p = 0 then p + x.dep - liS l else 0
set_option maxRecDepth 100000 in
set_option maxHeartbeats 4000000 in
theorem settle_c (x : De) (v : Value) (l : List Li) (p : Int) (w : World) (hr : RdR w 3 liC v l) (hl : LiOk l) (hn : l.length ≤ 2000) :
    Calls Tryd.prog 39 #[.agg (deC x), v, .int .i64 p] w fun e w' => e = .returned (.tuple #[.int .i64 (max 0 (seL x l p)), .int .i64 (max 0 (-(seL x l p))), .int .i64 (seE x l p)]) ∧ G w w' none := by
  have hE := Lib.hid (show seE x l p = if deE x = 1 then 1 else if liE l ≠ 0 then liE l else if inB p 0 1000000000 = false then 1 else 0 from rfl)
  have hL := Lib.hid (show seL x l p = if seE x l p = 0 then p + x.dep - liS l else 0 from rfl)
  have hC := Lib.hid (fun w => checkDeal_c x w)
  obtain ⟨d, hd⟩ : ∃ d, deE x = d := ⟨_, rfl⟩
  have hd01 := deE_or x
  have hok := Lib.hid (fun h => deE_ok (x := x) h)
  obtain ⟨a0, a1, a2, a3, a4, a5, a6⟩ := x
  have hI := de_info ⟨a0, a1, a2, a3, a4, a5, a6⟩
  have HB := (Bk.new w 27 (deC ⟨a0, a1, a2, a3, a4, a5, a6⟩))
  have hG := (G.refl w none).alloc (.cells (deC ⟨a0, a1, a2, a3, a4, a5, a6⟩) 27)
  rw [hd] at hE hd01
  have hC : Hid (∀ w, Calls Tryd.prog 14 #[.agg (deC ⟨a0, a1, a2, a3, a4, a5, a6⟩)] w fun e w' => e = .returned (.int .i64 d) ∧ G w w' none) := Lib.hid fun w => hd ▸ hC.out w
  have hok := Lib.hid fun h : d = 0 => hok.out (hd.trans h)
  clear hd
  rw [show deC ⟨a0, a1, a2, a3, a4, a5, a6⟩ = #[.int .i64 a0, .int .i64 a1, .int .i64 a2, .int .i64 a3, .int .i64 a4, .int .i64 a5, .int .i64 a6] from rfl] at *
  generalize seE ⟨a0, a1, a2, a3, a4, a5, a6⟩ l p = E at hE hL ⊢
  generalize seL ⟨a0, a1, a2, a3, a4, a5, a6⟩ l p = L at hL ⊢
  go_enter Tryd.func39, Tryd.ntmps39
  go_wp2_with (refine wpList_load_row rfl 27 _ rfl w.heap.size rfl 27 #[.int .i64 a0, .int .i64 a1, .int .i64 a2, .int .i64 a3, .int .i64 a4, .int .i64 a5, .int .i64 a6] (0, 0) _ HB Tryd.underlying27 rfl hI ?_)
  refine (hC.out _).mono ?_; rintro e w1 ⟨rfl, hG1⟩
  have hB1 := HB.quiet hG1
  have hG01 := hG.trans hG1
  clear hG hG1 HB hC
  rcases hd01 with rfl | rfl
  · have hok := hok.out rfl
    go_wp2_with fail
    refine (total_c v l _ (hr.quiet hG01) hl hn).mono ?_; rintro e w2 ⟨rfl, hG2⟩
    have hB2 := hB1.quiet hG2
    have hG02 := hG01.trans hG2
    clear hG01 hG2 hB1
    by_cases h : liE l = 0
    · have hS : toN l = liS l := if_pos h
      obtain ⟨hb, hlen⟩ := liE_ok h
      have hbn := liS_bnd l hb l.length (Nat.le_refl _)
      rw [List.take_length] at hbn
      rw [h] at hE ⊢
      rw [hS]
      generalize liS l = S at hL hbn ⊢
      clear h hS hb hr hl
      go_wp2_with fail
      refine (within_c _ _ _ _).mono ?_; rintro e w' ⟨rfl, rfl⟩
      cases hp : inB p 0 1000000000 with
      | false =>
        have HE : Hid (E = 1) := Lib.hid (by rw [hE.out]; simp [hp])
        have HL : Hid (L = 0) := Lib.hid (by rw [hL.out, HE.out]; rfl)
        clear hE hL
        go_wp2_with fail
        go_ret3
        exact ⟨by rw [HE.out, HL.out]; rfl, hG02⟩
      | true =>
        have HE : Hid (E = 0) := Lib.hid (by rw [hE.out]; simp [hp])
        have HL : Hid (L = p + a6 - S) := Lib.hid (by rw [hL.out, HE.out, if_pos rfl])
        have hpb : 0 ≤ p ∧ p ≤ 1000000000 := by simpa [inB] using hp
        have hw1 : IntKind.i64.wrap (p + a6) = p + a6 := by rw [IntKind.wrap_i64]; omega
        have hw2 : IntKind.i64.wrap (p + a6 - S) = p + a6 - S := by rw [IntKind.wrap_i64]; omega
        have hw3 : IntKind.i64.wrap (-(p + a6 - S)) = -(p + a6 - S) := by rw [IntKind.wrap_i64]; omega
        have c6 : w2.cell? ⟨w.heap.size, 6, none⟩ = some (.int .i64 a6) := hB2.cell 6
        clear hE hL
        go_wp2_with fail
        go_ret3
        exact ⟨by rw [HE.out, HL.out]; rfl, hG02⟩
    · have HE : Hid (E = liE l) := Lib.hid (by rw [hE.out]; simp [h])
      have HL : Hid (L = 0) := Lib.hid (by rw [hL.out, HE.out, if_neg h])
      have h' : (liE l != 0) = true := by simpa using h
      clear hE hL h
      go_wp2_with fail
      go_ret3
      exact ⟨by rw [HE.out, HL.out]; rfl, hG02⟩
  · have HE : Hid (E = 1) := Lib.hid (by rw [hE.out]; rfl)
    have HL : Hid (L = 0) := Lib.hid (by rw [hL.out, HE.out]; rfl)
    clear hE hL
    go_wp2_with fail
    go_ret3
    exact ⟨by rw [HE.out, HL.out]; rfl, hG01⟩
end Go.Proofs.YtpgamfoancomiaaDoor

/- Hires: lists of legs, hires compared; hired. -/
namespace Go.Proofs.YtpgamfoancomiaaDoor
open Go.RowKit

theorem lg_neq (x y : Lg) (w : World) : (binOp .neq 99 (.agg (lgC x)) (.agg (lgC y))).run Tryd.prog w = .ok (.bool (!(decide (x = y)))) w := by
  have ht : Tryd.prog.underlying 99 = some (.struct (Tryd.prog.fieldsOf 99)) := by kernel_rfl
  have hp : Tryd.prog.stoodInHeld 99 = false := by kernel_rfl
  rw [run_neq_struct, run_equalIn_agg w 9999 99 _ _ ht hp]
  obtain ⟨a, ⟨b, c, d, e⟩, f, g, h, i⟩ := x
  obtain ⟨a', ⟨b', c', d', e'⟩, f', g', h', i'⟩ := y
  simp [lgC, Tryd.underlying99, Tryd.underlying37, Tryd.underlying3, Tryd.underlying9, go_sem]
  have tl : ∀ u v : ByteArray, (u.toList = v.toList) ↔ u = v := fun u v => ⟨toList_ext, fun h => by rw [h]⟩
  simp only [tl]
  by_cases h1 : a = a'
  · by_cases h2 : b = b'
    · by_cases h3 : c = c'
      · by_cases h4 : d = d'
        · by_cases h5 : e = e'
          · by_cases h6 : f = f'
            · by_cases h7 : g = g'
              · by_cases h8 : h = h' <;> by_cases h9 : i = i' <;> simp [h1, h2, h3, h4, h5, h6, h7, h8, h9]
              · simp [h1, h2, h3, h4, h5, h6, h7]
            · simp [h1, h2, h3, h4, h5, h6]
          · simp [h1, h2, h3, h4, h5]
        · simp [h1, h2, h3, h4]
      · simp [h1, h2, h3]
    · simp [h1, h2]
  · simp [h1]
def EqlRel (l m : List Lg) (w : World) (i : Value) (wr : World) : Prop := ∃ k n : Nat, k ≤ l.length ∧ i = .int .i64 k ∧ l.take k = m.take k ∧ wr = w.drewN n
theorem take_succ_lg {l m : List Lg} {k : Nat} {x : Lg} (h : l.take k = m.take k) (hx : l[k]? = some x) (hy : m[k]? = some x) : l.take (k + 1) = m.take (k + 1) := by
  rw [List.take_add_one, List.take_add_one, h, hx, hy]
set_option maxRecDepth 100000 in
set_option maxHeartbeats 4000000 in
theorem lgEqual_c (v u : Value) (l m : List Lg) (w : World) (hr : RdR w 9 lgC v l) (hs : RdR w 9 lgC u m) (hn : l.length ≤ 1000000) :
    Calls Tryd.prog 81 #[v, u] w fun e w' => e = .returned (.bool (decide (l = m))) ∧ G w w' none := by
  have HR := Lib.hid hr
  have HS := Lib.hid hs
  obtain ⟨a, cap, rfl, hcap, hm1⟩ := RdR.form hr
  obtain ⟨a2, cap2, rfl, hcap2, hm2⟩ := RdR.form hs
  clear hr hs
  by_cases hlen : l.length = m.length
  · have hlq : ((l.length : Int) != (m.length : Int)) = false := by rw [hlen]; simp
    have hlq2 : ((m.length : Int) != (l.length : Int)) = false := by rw [hlen]; simp
    have HL := Lib.hid hlen
    clear hlen
    go_enter Tryd.func81, Tryd.ntmps81
    go_wp2_with fail
    go_loopw [13] (EqlRel l m w) (fun i _ => l.length - (intOf i).toNat)
    case atStart => exact ⟨0, 0, by omega, rfl, rfl, rfl⟩
    case round =>
      obtain ⟨k, n, hk, rfl, heq, rfl⟩ := hrel
      have HE := Lib.hid heq
      clear heq
      by_cases hlt : k < l.length
      · obtain ⟨x, hx⟩ : ∃ x, l[k]? = some x := ⟨_, List.getElem?_eq_getElem hlt⟩
        obtain ⟨y, hy⟩ : ∃ y, m[k]? = some y := ⟨_, List.getElem?_eq_getElem (by rw [← HL.out]; exact hlt)⟩
        have hlt2 : k < m.length := by have := HL.out; omega
        obtain ⟨bb, bo, rfl, hbb, _⟩ := RdR.elem lgC_sz HR.out (G.refl w none) hx
        obtain ⟨b2, o2, rfl, hb2, _⟩ := RdR.elem lgC_sz HS.out (G.refl w none) hy
        have d0 := RdR.cell lgC_sz HR.out (G.refl w none) hx 0 (.string x.1) rfl
        have d1 := RdR.cell lgC_sz HR.out (G.refl w none) hx 1 (.int .i64 x.2.1.1) rfl
        have d2 := RdR.cell lgC_sz HR.out (G.refl w none) hx 2 (.string x.2.1.2.1) rfl
        have d3 := RdR.cell lgC_sz HR.out (G.refl w none) hx 3 (.int .i64 x.2.1.2.2.1) rfl
        have d4 := RdR.cell lgC_sz HR.out (G.refl w none) hx 4 (.int .i64 x.2.1.2.2.2) rfl
        have d5 := RdR.cell lgC_sz HR.out (G.refl w none) hx 5 (.int .i64 x.2.2.1) rfl
        have d6 := RdR.cell lgC_sz HR.out (G.refl w none) hx 6 (.string x.2.2.2.1) rfl
        have d7 := RdR.cell lgC_sz HR.out (G.refl w none) hx 7 (.int .i64 x.2.2.2.2.1) rfl
        have d8 := RdR.cell lgC_sz HR.out (G.refl w none) hx 8 (.int .i64 x.2.2.2.2.2) rfl
        have e0 := RdR.cell lgC_sz HS.out (G.refl w none) hy 0 (.string y.1) rfl
        have e1 := RdR.cell lgC_sz HS.out (G.refl w none) hy 1 (.int .i64 y.2.1.1) rfl
        have e2 := RdR.cell lgC_sz HS.out (G.refl w none) hy 2 (.string y.2.1.2.1) rfl
        have e3 := RdR.cell lgC_sz HS.out (G.refl w none) hy 3 (.int .i64 y.2.1.2.2.1) rfl
        have e4 := RdR.cell lgC_sz HS.out (G.refl w none) hy 4 (.int .i64 y.2.1.2.2.2) rfl
        have e5 := RdR.cell lgC_sz HS.out (G.refl w none) hy 5 (.int .i64 y.2.2.1) rfl
        have e6 := RdR.cell lgC_sz HS.out (G.refl w none) hy 6 (.string y.2.2.2.1) rfl
        have e7 := RdR.cell lgC_sz HS.out (G.refl w none) hy 7 (.int .i64 y.2.2.2.2.1) rfl
        have e8 := RdR.cell lgC_sz HS.out (G.refl w none) hy 8 (.int .i64 y.2.2.2.2.2) rfl
        simp only [Nat.add_zero] at d0 e0
        have HX := Lib.hid hx
        have HY := Lib.hid hy
        clear hx hy
        by_cases hxy : x = y
        · have hnq : ∀ w : World, (binOp .neq 99 (.agg #[.string x.1, .int .i64 x.2.1.1, .string x.2.1.2.1, .int .i64 x.2.1.2.2.1, .int .i64 x.2.1.2.2.2, .int .i64 x.2.2.1, .string x.2.2.2.1, .int .i64 x.2.2.2.2.1, .int .i64 x.2.2.2.2.2]) (.agg #[.string y.1, .int .i64 y.2.1.1, .string y.2.1.2.1, .int .i64 y.2.1.2.2.1, .int .i64 y.2.1.2.2.2, .int .i64 y.2.2.1, .string y.2.2.2.1, .int .i64 y.2.2.2.2.1, .int .i64 y.2.2.2.2.2])).run Tryd.prog w = .ok (.bool false) w := fun w => by
            have := lg_neq x y w
            rw [decide_eq_true hxy] at this
            exact this
          have HT : Hid (l.take (k + 1) = m.take (k + 1)) := Lib.hid (take_succ_lg HE.out HX.out (by rw [hxy]; exact HY.out))
          clear hxy HX HY
          go_wp2_with fail
          go_quiet (fail)
          go_wp2_with fail
          go_roundw
          case rel => exact ⟨k + 1, _, by omega, by go_num, HT.out, rfl⟩
          case measure => simp [intOf]; omega
        · have hnq : ∀ w : World, (binOp .neq 99 (.agg #[.string x.1, .int .i64 x.2.1.1, .string x.2.1.2.1, .int .i64 x.2.1.2.2.1, .int .i64 x.2.1.2.2.2, .int .i64 x.2.2.1, .string x.2.2.2.1, .int .i64 x.2.2.2.2.1, .int .i64 x.2.2.2.2.2]) (.agg #[.string y.1, .int .i64 y.2.1.1, .string y.2.1.2.1, .int .i64 y.2.1.2.2.1, .int .i64 y.2.1.2.2.2, .int .i64 y.2.2.1, .string y.2.2.2.1, .int .i64 y.2.2.2.2.1, .int .i64 y.2.2.2.2.2])).run Tryd.prog w = .ok (.bool true) w := fun w => by
            have := lg_neq x y w
            rw [decide_eq_false hxy] at this
            exact this
          have HT : Hid (decide (l = m) = false) := Lib.hid (decide_eq_false (fun e => hxy (by have h1 := HX.out; rw [e, HY.out] at h1; exact (Option.some.inj h1).symm)))
          clear hxy HX HY
          go_wp2_with fail
          go_quiet (fail)
          go_wp2_with fail
          go_ret
          exact ⟨ret_bool HT.out.symm, ((G.refl _ _).drewN _).drewN _⟩
      · obtain rfl : k = l.length := by omega
        have HT : Hid (decide (l = m) = true) := Lib.hid (decide_eq_true (by have h := HE.out; rwa [List.take_length, HL.out, List.take_length] at h))
        go_wp2_with fail
        go_ret
        exact ⟨ret_bool HT.out.symm, (G.refl _ _).drewN _⟩
  · have hlq : ((l.length : Int) != (m.length : Int)) = true := by rw [bne_iff_ne]; omega
    have hlq2 : ¬ l.length = m.length := hlen
    have HT : Hid (decide (l = m) = false) := Lib.hid (decide_eq_false (fun e => hlen (by rw [e])))
    clear hlen
    go_enter Tryd.func81, Tryd.ntmps81
    go_wp2_with fail
    go_ret
    exact ⟨ret_bool HT.out.symm, G.refl _ _⟩
theorem wi_eql (x y : Int) (w : World) : (binOp .eql 30 (.agg #[.int .i64 x, .int .i64 y]) (.agg #[.int .i64 x, .int .i64 y])).run Tryd.prog w = .ok (.bool true) w := by
  have ht : Tryd.prog.underlying 30 = some (.struct (Tryd.prog.fieldsOf 30)) := by kernel_rfl
  have hp : Tryd.prog.stoodInHeld 30 = false := by kernel_rfl
  rw [run_eql_struct, run_equalIn_agg w 9999 30 _ _ ht hp]
  simp [Tryd.underlying30, Tryd.underlying3, go_sem]
set_option maxRecDepth 100000 in
set_option maxHeartbeats 2000000 in
theorem sameHire_c (h : Hh) (u v : Value) (l : List Lg) (w : World) (hr : RdR w 9 lgC u l) (hs : RdR w 9 lgC v l) (hn : l.length ≤ 1000) :
    Calls Tryd.prog 26 #[.agg (hiC h u), .agg (hiC h v)] w fun e w' => e = .returned (.bool true) ∧ G w w' none := by
  have hA := (Bk.new w 33 (hiC h u)).alloc (.cells (hiC h v) 33)
  have hB := Bk.newAt (w := w.alloc (.cells (hiC h u) 33)) (b := w.heap.size + 1) (by simp) 33 (hiC h v)
  have hG := ((G.refl w none).alloc (.cells (hiC h u) 33)).alloc (.cells (hiC h v) 33)
  have HR := Lib.hid (hr.quiet hG)
  have HS := Lib.hid (hs.quiet hG)
  obtain ⟨h1, h2, h3, h4⟩ := h
  clear hr hs
  simp only [hiC] at hA hB hG HR HS ⊢
  go_enter Tryd.func26, Tryd.ntmps26
  go_upto_region 1 with fail
  generalize (w.alloc (.cells #[.string h1, .string h2, .int .i64 h3, .int .i64 h4, u] 33)).alloc (.cells #[.string h1, .string h2, .int .i64 h3, .int .i64 h4, v] 33) = w2 at hA hB hG HR HS ⊢
  have a0 : w2.cell? ⟨w.heap.size, 0, none⟩ = some (.string h1) := hA.cell 0
  have a1 : w2.cell? ⟨w.heap.size, 1, none⟩ = some (.string h2) := hA.cell 1
  have a4 : w2.cell? ⟨w.heap.size, 4, none⟩ = some u := hA.cell 4
  have b0 : w2.cell? ⟨w.heap.size + 1, 0, none⟩ = some (.string h1) := hB.cell 0
  have b1 : w2.cell? ⟨w.heap.size + 1, 1, none⟩ = some (.string h2) := hB.cell 1
  have b4 : w2.cell? ⟨w.heap.size + 1, 4, none⟩ = some v := hB.cell 4
  have a2 : w2.cell? ⟨w.heap.size, 2, none⟩ = some (.int .i64 h3) := hA.cell 2
  have a3 : w2.cell? ⟨w.heap.size, 3, none⟩ = some (.int .i64 h4) := hA.cell 3
  have b2 : w2.cell? ⟨w.heap.size + 1, 2, none⟩ = some (.int .i64 h3) := hB.cell 2
  have b3 : w2.cell? ⟨w.heap.size + 1, 3, none⟩ = some (.int .i64 h4) := hB.cell 3
  have hq := wi_eql h3 h4
  go_wp2_with fail
  refine (lgEqual_c u v l l _ HR.out HS.out (by omega)).mono ?_; rintro e w3 ⟨rfl, hG3⟩
  rw [decide_eq_true (rfl : l = l)]
  go_wp2_with fail
  go_ret
  exact ⟨rfl, hG.trans hG3⟩
def h1K : Hh := (⟨#[104]⟩, ⟨#[100]⟩, 5, 9)
def h1R : Rg := (5, ⟨#[115]⟩, 0, 0)
theorem h1_ok : hiE h1K [(⟨#[118]⟩, h1R, noIn)] = 0 := by decide +kernel
set_option maxRecDepth 100000 in
set_option maxHeartbeats 2000000 in
theorem start1_c (w : World) : Calls Tryd.prog 19 #[.string ⟨#[104]⟩, .string ⟨#[100]⟩, .agg #[.int .i64 5, .int .i64 9], .string ⟨#[118]⟩, .agg #[.int .i64 5, .string ⟨#[115]⟩, .int .i64 0, .int .i64 0]] w
    fun e w' => ∃ a c, e = .returned (.tuple #[.agg #[.string ⟨#[104]⟩, .string ⟨#[100]⟩, .int .i64 5, .int .i64 9, .slice a 1 c], .int .i64 0]) ∧ G w w' none := by
  refine (start_c h1K ⟨#[118]⟩ h1R w (small_of (by decide)) (small_of (by decide)) (small_of (by decide)) (small_of (by decide)) (by unfold bnd h1K; dsimp only; omega) (by unfold bnd h1K; dsimp only; omega)).mono ?_
  rintro e w' ⟨H, a, n, c, rfl, hH, -, hR, hG⟩
  rw [h1_ok] at hH hR
  obtain rfl : H = h1K := hH
  obtain ⟨a', c', hv, -, -⟩ := RdR.form hR
  obtain rfl : n = 1 := by cases hv; rfl
  exact ⟨a, c, by rw [h1_ok]; rfl, hG⟩
set_option maxRecDepth 100000 in
set_option maxHeartbeats 2000000 in
theorem hired_c (w : World) : Calls Tryd.prog 27 #[] w fun e w' => e = .returned (.bool true) ∧ G w w' none := by
  go_enter Tryd.func27, Tryd.ntmps27
  go_wp2_with fail
  refine (start1_c _).mono ?_; rintro e w2 ⟨a, c, rfl, hG2⟩
  go_wp2_with fail
  go_ret
  exact ⟨rfl, hG2.alloc _⟩
end Go.Proofs.YtpgamfoancomiaaDoor

/- The law HireBills. Written by genhbl.py. -/
namespace Go.Proofs.YtpgamfoancomiaaDoor
open Go.RowKit

theorem cb_errs (x : De) (h : Hh) (l : List Lg) (ls : List Li) : errsOf [deE x, hiE h l, liE ls, if ioB l = true then 11 else 0] = cbE x h l ls := by
  unfold cbE
  by_cases e1 : deE x = 0
  · rw [if_pos e1, errsOf, if_pos e1]
    by_cases e2 : hiE h l = 0
    · rw [if_pos e2, errsOf, if_pos e2]
      by_cases e3 : liE ls = 0
      · rw [if_pos e3, errsOf, if_pos e3]
        by_cases b : ioB l = true
        · rw [if_pos b, errsOf, if_neg (by decide)]
        · rw [if_neg b, errsOf, if_pos rfl]; rfl
      · rw [if_neg e3, errsOf, if_neg e3]
    · rw [if_neg e2, errsOf, if_neg e2]
  · rw [if_neg e1, errsOf, if_neg e1]
theorem se_errs (x : De) (ls : List Li) (p : Int) (b : Bool) (hb : b = !(inB p 0 1000000000)) : errsOf [deE x, liE ls, if b = true then 1 else 0] = seE x ls p := by
  subst hb
  unfold seE
  rcases deE_or x with e1 | e1 <;> by_cases e3 : liE ls = 0 <;> cases hp : inB p 0 1000000000 <;> simp [errsOf, e1, e3]
set_option maxRecDepth 100000 in
set_option maxHeartbeats 16000000 in
theorem hireBills_c (a : Option Addr) (n c : Nat) (zs : List Int) (W : World) (hr : Rd W 1 (.slice a n c) n (zs.map (Value.int .i64))) (hz : ∀ z ∈ zs, -9223372036854775808 ≤ z ∧ z ≤ 9223372036854775807) :
    Calls Tryd.prog 5 #[.slice a n c] W fun e W' => e = .returned (.bool true) ∧ G W W' none := by
  have hSB : SB (W.alloc (.cells #[.slice a n c, .int .i64 0] 25)) W.heap.size 0 := by
    have hB := Bk.new W 25 #[.slice a n c, .int .i64 0]
    refine ⟨0, a, n, c, zs, Nat.le_refl _, hr.quiet ((G.refl _ _).alloc _), fun b e => ?_, hz, hB.cell 0, hB.cell 1, hB.free 1, hB.lt⟩
    obtain ⟨a', c', e', r1, r2, r3, r4, r5⟩ := hr
    cases e'
    exact (r5 b e).2.1
  have hG0 : G W (W.alloc (.cells #[.slice a n c, .int .i64 0] 25)) (some W.heap.size) := (G.refl _ _).alloc _
  clear hr hz
  go_enter Tryd.func5, Tryd.ntmps5
  go_wp2_with fail
  refine (deal_c _ W.heap.size 0 hSB (by omega)).mono ?_; rintro e w1 ⟨x, rfl, hSB1, hG1⟩
  have hG01 := hG0.trans hG1
  have hs1 := hSB1.lt
  clear hSB hG0 hG1
  go_wp2_with fail
  refine (hire_c _ W.heap.size _ hSB1 (by omega)).mono ?_; rintro e w2 ⟨H, l, b1, c1, rfl, hsm, hR2, hb2, hSB2, hG2⟩
  have HSM := Lib.hid hsm
  have hG02 := hG01.trans hG2
  have hs2 := hSB2.lt
  have hK2 := Kp.rd (s := W.heap.size) hR2 (fun k e => by have := hb2 k e; omega)
  clear hsm hSB1 hG01 hG2 hb2 hR2
  go_wp2_with fail
  refine (billLines_c _ W.heap.size _ hSB2 (by omega)).mono ?_; rintro e w3 ⟨u, ls, rfl, hown, hls, hln, hSB3, hG3⟩
  have HLS := Lib.hid hls
  have hG03 := hG02.trans hG3
  have hK3 := hK2.step hG3
  clear hSB2 hG02 hG3 hK2 hls
  go_wp2_with fail
  refine (pick_c _ _ _ [0, 100, 5000, 1000000000, -1] _ _ _ (hSB3.alloc _) (by omega) (by decide) (by decide) (Rd.newAt _ rfl rfl (by decide)) (hSB3.newAt _ _ _ (Nat.le_refl _))).mono ?_; rintro e w4 ⟨p, rfl, hp, hSB4, hG4⟩
  have hpb : -1 ≤ p ∧ p ≤ 1000000000 := by simp only [List.mem_cons, List.mem_nil_iff, or_false] at hp; omega
  have hh := ((G.refl w3 (some W.heap.size)).alloc (.cells _ 3)).trans hG4
  have hR4 := (hK3.step hh).now
  have hU4 := Rd.of_owns (OwnX.kept hown hh hs2)
  have hG04 := (hG03.trans hh).own (Nat.le_refl _)
  clear hSB3 hSB4 hG03 hG4 hK3 hown hp hh
  obtain ⟨s1, s2, s3, s4, s5, s6⟩ := HSM.out
  have CB := Lib.hid (fun w' (q : RdR w' 9 lgC (.slice b1 l.length c1) l) (q2 : RdR w' 3 liC u ls) => bill_c x H _ l u ls w' q s1 s2 s3 s4 s5 (by omega) q2 HLS.out (by omega))
  have CS := Lib.hid (fun w' (q2 : RdR w' 3 liC u ls) => settle_c x u ls p w' q2 HLS.out (by omega))
  have CIO := Lib.hid (fun w' (q : RdR w' 9 lgC (.slice b1 l.length c1) l) => isOpenR_c H _ l w' q (by omega))
  have CHF := Lib.hid (fun w' (q : RdR w' 9 lgC (.slice b1 l.length c1) l) => hireFault_c H _ l w' q s1 s2 s3 s4 s5 (by omega))
  have CDF := Lib.hid (fun w' => dealFault_c x w')
  have CLF := Lib.hid (fun w' (q2 : RdR w' 3 liC u ls) => linesFault_c u ls w' q2 HLS.out (by omega))
  have CBO := Lib.hid (fun (e : cbE x H l ls = 0) w' (q : RdR w' 9 lgC (.slice b1 l.length c1) l) (q2 : RdR w' 3 liC u ls) => billOf_c x H _ l u ls w' (cbE_ok e).1 (cbE_ok e).2.1 (cbE_ok e).2.2.2 q q2 HLS.out (by omega))
  have CSU := Lib.hid (fun (e : liE ls = 0) w' (q2 : RdR w' 3 liC u ls) => sumOfR_c u ls w' q2 (liE_ok e).1 (liE_ok e).2)
  have HCB := Lib.hid (cb_errs x H l ls)
  have HSE := Lib.hid (se_errs x ls p)
  have HB1 : Hid (cbE x H l ls = 0 → biE x H l ls = liE (billL x H l ls) ∧ biL x H l ls = if liE (billL x H l ls) = 0 then billL x H l ls else []) := Lib.hid fun e => by
    have q : biE x H l ls = liE (billL x H l ls) := by unfold biE; rw [if_pos e]
    exact ⟨q, by unfold biL; rw [q]⟩
  have HB0 : Hid (cbE x H l ls ≠ 0 → biE x H l ls = cbE x H l ls ∧ biL x H l ls = []) := Lib.hid fun e => by
    have q : biE x H l ls = cbE x H l ls := by unfold biE; rw [if_neg e]
    exact ⟨q, by unfold biL; rw [q, if_neg e]⟩
  have HLN : Hid ((biL x H l ls).length ≤ 1000000) := Lib.hid (by
    unfold biL
    split
    · have h1 := (liAdd_len ls kLate (lcN x (laN H l))).2
      have h2 := (liAdd_len (liAdd ls kLate (lcN x (laN H l))) kDist (dcN x H l)).2
      have h3 := (liAdd_len (liAdd (liAdd ls kLate (lcN x (laN H l))) kDist (dcN x H l)) kFuel (x.eighth * miS l)).2
      unfold billL
      omega
    · simp)
  have HS1 : Hid (seE x ls p = 0 → seL x ls p = p + x.dep - liS ls ∧ deE x = 0 ∧ liE ls = 0 ∧ inB p 0 1000000000 = true) := Lib.hid fun e => by
    refine ⟨by unfold seL; rw [if_pos e], ?_⟩
    unfold seE at e
    split at e
    · cases e
    · next h1 =>
      split at e
      · contradiction
      · next h2 =>
        split at e
        · cases e
        · next h3 => exact ⟨by rcases deE_or x with q | q; exact q; exact absurd q h1, by simpa using h2, by simpa using h3⟩
  have HS0 : Hid (seE x ls p ≠ 0 → seL x ls p = 0) := Lib.hid fun e => by unfold seL; rw [if_neg e]
  have HBN : Hid (liE ls = 0 → -6000000000 ≤ liS ls ∧ liS ls ≤ 6000000000) := Lib.hid fun e => by
    have q := liS_bnd ls (liE_ok e).1 ls.length (Nat.le_refl _)
    rw [List.take_length] at q
    omega
  have HDP : Hid (deE x = 0 → 0 ≤ x.dep ∧ x.dep ≤ 1000000) := Lib.hid fun e => (deE_ok e).2.2.2.2.2.2
  clear s1 s2 s3 s4 s5 s6
  generalize biL x H l ls = YL at CB HB1 HB0 HLN
  generalize biE x H l ls = YE at CB HB1 HB0
  generalize (if liE (billL x H l ls) = 0 then billL x H l ls else []) = RL at CBO HB1
  generalize liE (billL x H l ls) = RE at CBO HB1
  generalize cbE x H l ls = CE at CBO HCB HB1 HB0
  generalize seL x ls p = SL at CS HS1 HS0
  generalize seE x ls p = SE at CS HSE HS1 HS0
  generalize liS ls = LS at CSU HS1 HBN
  generalize hiE H l = HE at CHF HCB
  generalize ioB l = IO at CIO HCB
  generalize liE ls = LE at CLF CSU HCB HSE HS1 HBN
  generalize deE x = DE at CDF HCB HSE HS1 HDP
  obtain ⟨a0, a1, a2, a3, a4, a5, a6⟩ := x
  dsimp only at HS1 HDP
  rw [show deC ⟨a0, a1, a2, a3, a4, a5, a6⟩ = #[.int .i64 a0, .int .i64 a1, .int .i64 a2, .int .i64 a3, .int .i64 a4, .int .i64 a5, .int .i64 a6] from rfl] at *
  simp only [hiC] at CB CIO CHF CBO ⊢
  have hN := (Bk.new w4 27 #[.int .i64 a0, .int .i64 a1, .int .i64 a2, .int .i64 a3, .int .i64 a4, .int .i64 a5, .int .i64 a6]).alloc (.cells #[.string H.1, .string H.2.1, .int .i64 H.2.2.1, .int .i64 H.2.2.2, .slice b1 l.length c1] 33)
  have hP := Bk.newAt (w := w4.alloc (.cells #[.int .i64 a0, .int .i64 a1, .int .i64 a2, .int .i64 a3, .int .i64 a4, .int .i64 a5, .int .i64 a6] 27)) (b := w4.heap.size + 1) (by simp) 33 #[.string H.1, .string H.2.1, .int .i64 H.2.2.1, .int .i64 H.2.2.2, .slice b1 l.length c1]
  have hq := ((G.refl w4 none).alloc (.cells #[.int .i64 a0, .int .i64 a1, .int .i64 a2, .int .i64 a3, .int .i64 a4, .int .i64 a5, .int .i64 a6] 27)).alloc (.cells #[.string H.1, .string H.2.1, .int .i64 H.2.2.1, .int .i64 H.2.2.2, .slice b1 l.length c1] 33)
  have hG := hG04.trans hq
  have hR := Rd.quiet hR4 hq
  have hU := Rd.quiet hU4 hq
  clear hR4 hU4 hG04 hq
  go_upto_region 3 with fail
  generalize (w4.alloc (.cells #[.int .i64 a0, .int .i64 a1, .int .i64 a2, .int .i64 a3, .int .i64 a4, .int .i64 a5, .int .i64 a6] 27)).alloc (.cells #[.string H.1, .string H.2.1, .int .i64 H.2.2.1, .int .i64 H.2.2.2, .slice b1 l.length c1] 33) = w5 at hN hP hG hR hU ⊢
  generalize w4.heap.size = g at hN hP ⊢
  go_wp2_with (first | (refine wpList_load_row rfl 27 _ rfl g rfl 27 #[.int .i64 a0, .int .i64 a1, .int .i64 a2, .int .i64 a3, .int .i64 a4, .int .i64 a5, .int .i64 a6] (0, 0) _ hN Tryd.underlying27 rfl (de_info ⟨a0, a1, a2, a3, a4, a5, a6⟩) ?_) | (refine wpList_load_row rfl 33 _ rfl (g + 1) rfl 33 #[.string H.1, .string H.2.1, .int .i64 H.2.2.1, .int .i64 H.2.2.2, .slice b1 l.length c1] (0, 0) _ hP Tryd.underlying33 rfl (hi_info H _) ?_))
  refine (CB.out _ hR hU).mono ?_; rintro e w6 ⟨y, rfl, hY, hh⟩
  replace hN := hN.quiet hh
  replace hP := hP.quiet hh
  replace hR := Rd.quiet hR hh
  replace hU := Rd.quiet hU hh
  replace hG := hG.trans hh
  clear hh
  go_wp2_with (refine wpList_load_row rfl 27 _ rfl g rfl 27 #[.int .i64 a0, .int .i64 a1, .int .i64 a2, .int .i64 a3, .int .i64 a4, .int .i64 a5, .int .i64 a6] (0, 0) _ hN Tryd.underlying27 rfl (de_info ⟨a0, a1, a2, a3, a4, a5, a6⟩) ?_)
  refine (CS.out _ hU).mono ?_; rintro e w7 ⟨rfl, hh⟩
  replace hY := Rd.quiet hY hh
  replace hN := hN.quiet hh
  replace hP := hP.quiet hh
  replace hR := Rd.quiet hR hh
  replace hU := Rd.quiet hU hh
  replace hG := hG.trans hh
  clear hh
  go_upto_region 5 with fail
  have hh := (G.refl w7 none).drew
  replace hY := Rd.quiet hY hh
  replace hN := hN.quiet hh
  replace hP := hP.quiet hh
  replace hR := Rd.quiet hR hh
  replace hU := Rd.quiet hU hh
  replace hG := hG.trans hh
  clear hh
  refine wp_region_held_drew (S := (fun w' => w'.cell? ⟨g, 0, none⟩ = some (.int .i64 a0) ∧ w'.cell? ⟨g, 1, none⟩ = some (.int .i64 a1) ∧ w'.cell? ⟨g, 2, none⟩ = some (.int .i64 a2) ∧ w'.cell? ⟨g, 3, none⟩ = some (.int .i64 a3) ∧ w'.cell? ⟨g, 4, none⟩ = some (.int .i64 a4) ∧ w'.cell? ⟨g, 5, none⟩ = some (.int .i64 a5) ∧ w'.cell? ⟨g, 6, none⟩ = some (.int .i64 a6) ∧ w'.cell? ⟨g + 1, 0, none⟩ = some (.string H.1) ∧ w'.cell? ⟨g + 1, 1, none⟩ = some (.string H.2.1) ∧ w'.cell? ⟨g + 1, 2, none⟩ = some (.int .i64 H.2.2.1) ∧ w'.cell? ⟨g + 1, 3, none⟩ = some (.int .i64 H.2.2.2) ∧ w'.cell? ⟨g + 1, 4, none⟩ = some (.slice b1 l.length c1))) (by kernel_rfl) ?_ (fun hHeld => ?_)
  · exact ⟨hN.cell 0, hN.cell 1, hN.cell 2, hN.cell 3, hN.cell 4, hN.cell 5, hN.cell 6, hP.cell 0, hP.cell 1, hP.cell 2, hP.cell 3, hP.cell 4⟩
  refine wpAnyH_take (i := 0) (oi := ⟨_, _, _, _, _, _⟩) (v := ?_) rfl (by kernel_rfl) (by kernel_rfl) (by kernel_rfl) (fun _ _ _ h => h) (Or.inl ⟨by rfl, ?_⟩) (by assumption) ?_
  rotate_left
  · (intro w hSw; obtain ⟨s0, s1, s2, s3, s4, s5, s6, s7, s8, s9, s10, s11⟩ := hSw; (go_simp <;> with_reducible rfl))
  try simp only [Act.put, List.setIfInBounds_toArray, List.set_cons_zero, List.set_cons_succ]
  refine wpAnyH_take (i := 2) (oi := ⟨_, _, _, _, _, _⟩) (v := ?_) rfl (by kernel_rfl) (by kernel_rfl) (by kernel_rfl) (fun _ _ _ h => h) (Or.inl ⟨by rfl, ?_⟩) (by assumption) ?_
  rotate_left
  · (intro w hSw; obtain ⟨s0, s1, s2, s3, s4, s5, s6, s7, s8, s9, s10, s11⟩ := hSw; (go_simp <;> with_reducible rfl))
  try simp only [Act.put, List.setIfInBounds_toArray, List.set_cons_zero, List.set_cons_succ]
  refine wpAnyH_take (i := 4) (oi := ⟨_, _, _, _, _, _⟩) (v := ?_) rfl (by kernel_rfl) (by kernel_rfl) (by kernel_rfl) (fun _ _ _ h => h) (Or.inl ⟨by rfl, ?_⟩) (by assumption) ?_
  rotate_left
  · (intro w hSw; obtain ⟨s0, s1, s2, s3, s4, s5, s6, s7, s8, s9, s10, s11⟩ := hSw; (go_simp <;> with_reducible rfl))
  try simp only [Act.put, List.setIfInBounds_toArray, List.set_cons_zero, List.set_cons_succ]
  refine wpAnyH_take (i := 6) (oi := ⟨_, _, _, _, _, _⟩) (v := ?_) rfl (by kernel_rfl) (by kernel_rfl) (by kernel_rfl) (fun _ _ _ h => h) (Or.inl ⟨by rfl, ?_⟩) (by assumption) ?_
  rotate_left
  · (intro w hSw; obtain ⟨s0, s1, s2, s3, s4, s5, s6, s7, s8, s9, s10, s11⟩ := hSw; (go_simp <;> with_reducible rfl))
  try simp only [Act.put, List.setIfInBounds_toArray, List.set_cons_zero, List.set_cons_succ]
  refine wpAnyH_ready (rs := [1]) (by kernel_rfl) (by simp) ?_
  refine (AllReadyH.cons (o := ⟨_, _, _, _, _, _⟩) rfl (fun K hK => ?_) AllReadyH.nil)
  go_simp
  refine (CDF.out _).mono ?_
  rintro e wa ⟨rfl, hh⟩
  replace hY := Rd.quiet hY hh
  replace hN := hN.quiet hh
  replace hP := hP.quiet hh
  replace hR := Rd.quiet hR hh
  replace hU := Rd.quiet hU hh
  replace hG := hG.trans hh
  clear hh
  refine hK.out _ _ ?_ (fun hHeld => ?_)
  · exact ⟨hN.cell 0, hN.cell 1, hN.cell 2, hN.cell 3, hN.cell 4, hN.cell 5, hN.cell 6, hP.cell 0, hP.cell 1, hP.cell 2, hP.cell 3, hP.cell 4⟩
  clear hK K
  try simp only [Act.put, List.setIfInBounds_toArray, List.set_cons_zero, List.set_cons_succ]
  refine wpAnyH_ready (rs := [3]) (by kernel_rfl) (by simp) ?_
  refine (AllReadyH.cons (o := ⟨_, _, _, _, _, _⟩) rfl (fun K hK => ?_) AllReadyH.nil)
  go_simp
  refine (CHF.out _ hR).mono ?_
  rintro e wb ⟨rfl, hh⟩
  replace hY := Rd.quiet hY hh
  replace hN := hN.quiet hh
  replace hP := hP.quiet hh
  replace hR := Rd.quiet hR hh
  replace hU := Rd.quiet hU hh
  replace hG := hG.trans hh
  clear hh
  refine hK.out _ _ ?_ (fun hHeld => ?_)
  · exact ⟨hN.cell 0, hN.cell 1, hN.cell 2, hN.cell 3, hN.cell 4, hN.cell 5, hN.cell 6, hP.cell 0, hP.cell 1, hP.cell 2, hP.cell 3, hP.cell 4⟩
  clear hK K
  try simp only [Act.put, List.setIfInBounds_toArray, List.set_cons_zero, List.set_cons_succ]
  refine wpAnyH_ready (rs := [5]) (by kernel_rfl) (by simp) ?_
  refine (AllReadyH.cons (o := ⟨_, _, _, _, _, _⟩) rfl (fun K hK => ?_) AllReadyH.nil)
  go_simp
  refine (CLF.out _ hU).mono ?_
  rintro e wc ⟨rfl, hh⟩
  replace hY := Rd.quiet hY hh
  replace hN := hN.quiet hh
  replace hP := hP.quiet hh
  replace hR := Rd.quiet hR hh
  replace hU := Rd.quiet hU hh
  replace hG := hG.trans hh
  clear hh
  refine hK.out _ _ ?_ (fun hHeld => ?_)
  · exact ⟨hN.cell 0, hN.cell 1, hN.cell 2, hN.cell 3, hN.cell 4, hN.cell 5, hN.cell 6, hP.cell 0, hP.cell 1, hP.cell 2, hP.cell 3, hP.cell 4⟩
  clear hK K
  try simp only [Act.put, List.setIfInBounds_toArray, List.set_cons_zero, List.set_cons_succ]
  refine wpAnyH_ready (rs := [7]) (by kernel_rfl) (by simp) ?_
  refine (AllReadyH.cons (o := ⟨_, _, _, _, _, _⟩) rfl (fun K hK => ?_) AllReadyH.nil)
  go_simp
  refine (CIO.out _ hR).mono ?_
  rintro e wd ⟨rfl, hh⟩
  replace hY := Rd.quiet hY hh
  replace hN := hN.quiet hh
  replace hP := hP.quiet hh
  replace hR := Rd.quiet hR hh
  replace hU := Rd.quiet hU hh
  replace hG := hG.trans hh
  clear hh
  refine hK.out _ _ ?_ (fun hHeld => ?_)
  · exact ⟨hN.cell 0, hN.cell 1, hN.cell 2, hN.cell 3, hN.cell 4, hN.cell 5, hN.cell 6, hP.cell 0, hP.cell 1, hP.cell 2, hP.cell 3, hP.cell 4⟩
  clear hK K
  try simp only [Act.put, List.setIfInBounds_toArray, List.set_cons_zero, List.set_cons_succ]
  refine wpAnyH_ready (rs := [8]) (by kernel_rfl) (by simp) ?_
  refine (AllReadyH.cons (o := ⟨_, _, _, _, _, _⟩) rfl (fun K hK => ?_) AllReadyH.nil)
  go_simp
  refine (when_c IO 11 _).mono ?_
  rintro e w' ⟨rfl, rfl⟩
  generalize (if IO = true then (11 : Int) else 0) = OP at HCB ⊢
  refine hK.out _ _ ?_ (fun hHeld => ?_)
  · exact ⟨hN.cell 0, hN.cell 1, hN.cell 2, hN.cell 3, hN.cell 4, hN.cell 5, hN.cell 6, hP.cell 0, hP.cell 1, hP.cell 2, hP.cell 3, hP.cell 4⟩
  clear hK K
  try simp only [Act.put, List.setIfInBounds_toArray, List.set_cons_zero, List.set_cons_succ]
  refine wpAnyH_ready (rs := [9]) (by kernel_rfl) (by simp) ?_
  refine (AllReadyH.cons (o := ⟨_, _, _, _, _, _⟩) rfl (fun K hK => ?_) AllReadyH.nil)
  go_simp
  have hh := (G.refl wd none).alloc (.cells #[.int .i64 DE, .int .i64 HE, .int .i64 LE, .int .i64 OP] 40)
  replace hY := Rd.quiet hY hh
  replace hN := hN.quiet hh
  replace hP := hP.quiet hh
  replace hR := Rd.quiet hR hh
  replace hU := Rd.quiet hU hh
  replace hG := hG.trans hh
  clear hh
  refine hK.out _ _ ?_ (fun hHeld => ?_)
  · exact ⟨hN.cell 0, hN.cell 1, hN.cell 2, hN.cell 3, hN.cell 4, hN.cell 5, hN.cell 6, hP.cell 0, hP.cell 1, hP.cell 2, hP.cell 3, hP.cell 4⟩
  clear hK K
  try simp only [Act.put, List.setIfInBounds_toArray, List.set_cons_zero, List.set_cons_succ]
  refine wpAnyH_ready (rs := [10]) (by kernel_rfl) (by simp) ?_
  refine (AllReadyH.cons (o := ⟨_, _, _, _, _, _⟩) rfl (fun K hK => ?_) AllReadyH.nil)
  go_simp
  refine (errs_c [DE, HE, LE, OP] _ _ (Rd.new #[.int .i64 DE, .int .i64 HE, .int .i64 LE, .int .i64 OP] rfl (by show 4 ≤ maxLen; decide)) (by simp)).mono ?_
  rintro e w' ⟨rfl, rfl⟩
  rw [HCB.out]
  refine hK.out _ _ ?_ (fun hHeld => ?_)
  · exact ⟨hN.cell 0, hN.cell 1, hN.cell 2, hN.cell 3, hN.cell 4, hN.cell 5, hN.cell 6, hP.cell 0, hP.cell 1, hP.cell 2, hP.cell 3, hP.cell 4⟩
  clear hK K
  try simp only [Act.put, List.setIfInBounds_toArray, List.set_cons_zero, List.set_cons_succ]
  refine wpAnyH_take (i := 11) (oi := ⟨_, _, _, _, _, _⟩) (v := ?_) rfl (by kernel_rfl) (by kernel_rfl) (by kernel_rfl) (fun _ _ _ h => h) (Or.inl ⟨by rfl, ?_⟩) (by assumption) ?_
  rotate_left
  · (intro w hSw; obtain ⟨s0, s1, s2, s3, s4, s5, s6, s7, s8, s9, s10, s11⟩ := hSw; (go_simp <;> with_reducible rfl))
  try simp only [Act.put, List.setIfInBounds_toArray, List.set_cons_zero, List.set_cons_succ]
  refine wpAnyH_done (by kernel_rfl) ?_ _
  generalize (wd.alloc (.cells #[.int .i64 DE, .int .i64 HE, .int .i64 LE, .int .i64 OP] 40)) = wf at hN hP hR hU hG hY ⊢
  go_wp2_with (refine wpList_load_row rfl 27 _ rfl g rfl 27 #[.int .i64 a0, .int .i64 a1, .int .i64 a2, .int .i64 a3, .int .i64 a4, .int .i64 a5, .int .i64 a6] (0, 0) _ hN Tryd.underlying27 rfl (de_info ⟨a0, a1, a2, a3, a4, a5, a6⟩) ?_)
  refine (CDF.out _).mono ?_; rintro e wg ⟨rfl, hh⟩
  replace hY := Rd.quiet hY hh
  replace hN := hN.quiet hh
  replace hP := hP.quiet hh
  replace hR := Rd.quiet hR hh
  replace hU := Rd.quiet hU hh
  replace hG := hG.trans hh
  clear hh
  go_wp2_with fail
  refine (CLF.out _ hU).mono ?_; rintro e wh ⟨rfl, hh⟩
  replace hY := Rd.quiet hY hh
  replace hN := hN.quiet hh
  replace hP := hP.quiet hh
  replace hR := Rd.quiet hR hh
  replace hU := Rd.quiet hU hh
  replace hG := hG.trans hh
  clear hh
  obtain ⟨IB, hIB⟩ : ∃ b, inB p 0 1000000000 = b := ⟨_, rfl⟩
  have hlss : (p < 0 ∨ 1000000000 < p) = (IB = false) := by rw [← hIB]; simp [inB]; omega
  rw [hIB] at HSE HS1
  rcases (show p < 0 ∨ (0 ≤ p ∧ p ≤ 1000000000) by omega) with hp0 | hp0
  · have hIBt : IB = false := by rw [← hIB]; simp [inB]; omega
    subst hIBt
    have hO2 := HSE.out true rfl
    rw [if_pos rfl] at hO2
    have HO2 := Lib.hid hO2
    clear hO2 hlss hIB HSE
    go_wp2_with fail
    refine (when_t _ _).mono ?_; rintro e w' ⟨rfl, rfl⟩
    go_wp2_with fail
    refine (errs_c [DE, LE, 1] _ _ (Rd.new #[.int .i64 DE, .int .i64 LE, .int .i64 1] rfl (by show 3 ≤ maxLen; decide)) (by simp)).mono ?_; rintro e w' ⟨rfl, rfl⟩
    rw [HO2.out]
    have hh := (G.refl wh none).alloc (.cells #[.int .i64 DE, .int .i64 LE, .int .i64 1] 40)
    replace hY := Rd.quiet hY hh
    replace hN := hN.quiet hh
    replace hP := hP.quiet hh
    replace hR := Rd.quiet hR hh
    replace hU := Rd.quiet hU hh
    replace hG := hG.trans hh
    clear hh
    clear CB CS CIO CHF CDF CLF HCB HO2
    by_cases k1 : CE = 0
    · obtain ⟨e1, e2⟩ := HB1.out k1
      have CB1 := Lib.hid (CBO.out k1)
      subst e1
      subst e2
      subst k1
      clear HB1 HB0 CBO
      generalize (wh.alloc (.cells #[.int .i64 DE, .int .i64 LE, .int .i64 1] 40)) = wi at hN hP hR hU hG hY ⊢
      go_wp2_with (first | (refine wpList_load_row rfl 27 _ rfl g rfl 27 #[.int .i64 a0, .int .i64 a1, .int .i64 a2, .int .i64 a3, .int .i64 a4, .int .i64 a5, .int .i64 a6] (0, 0) _ hN Tryd.underlying27 rfl (de_info ⟨a0, a1, a2, a3, a4, a5, a6⟩) ?_) | (refine wpList_load_row rfl 33 _ rfl (g + 1) rfl 33 #[.string H.1, .string H.2.1, .int .i64 H.2.2.1, .int .i64 H.2.2.2, .slice b1 l.length c1] (0, 0) _ hP Tryd.underlying33 rfl (hi_info H _) ?_))
      refine (CB1.out _ hR hU).mono ?_; rintro e wj ⟨y2, rfl, hV, hh⟩
      replace hY := Rd.quiet hY hh
      replace hN := hN.quiet hh
      replace hP := hP.quiet hh
      replace hR := Rd.quiet hR hh
      replace hU := Rd.quiet hU hh
      replace hG := hG.trans hh
      clear hh
      go_upto_region 11 with fail
      by_cases k2 : SE = 0
      · obtain ⟨e1, e2, e3, e4⟩ := HS1.out k2
        have CS1 := Lib.hid (CSU.out e3)
        have hbn := HBN.out e3
        have hdp := HDP.out e2
        have hw1 : IntKind.i64.wrap (p + a6) = p + a6 := by rw [IntKind.wrap_i64]; omega
        have hw2 : IntKind.i64.wrap (p + a6 - LS) = SL := by rw [e1, IntKind.wrap_i64]; omega
        have hw3 : IntKind.i64.wrap (-SL) = -SL := by rw [e1, IntKind.wrap_i64]; omega
        subst k2
        clear HS1 HS0 CSU e1 e2 e3 e4 hbn hdp
        go_upto_region 12 with fail
        have hh := (G.refl wj none).drew
        replace hN := hN.quiet hh
        replace hU := Rd.quiet hU hh
        replace hY := Rd.quiet hY hh
        replace hV := Rd.quiet hV hh
        replace hG := hG.trans hh
        clear hh
        refine wp_region_held_drew (S := (fun w' => w'.cell? ⟨g, 6, none⟩ = some (.int .i64 a6))) (by kernel_rfl) ?_ (fun hHeld => ?_)
        · exact hN.cell 6
        refine wpAnyH_take (i := 0) (oi := ⟨_, _, _, _, _, _⟩) (v := ?_) rfl (by kernel_rfl) (by kernel_rfl) (by kernel_rfl) (fun _ _ _ h => h) (Or.inl ⟨by rfl, ?_⟩) (by assumption) ?_
        rotate_left
        · (intro w hSw; (go_simp <;> with_reducible rfl))
        try simp only [Act.put, List.setIfInBounds_toArray, List.set_cons_zero, List.set_cons_succ]
        refine wpAnyH_take (i := 1) (oi := ⟨_, _, _, _, _, _⟩) (v := ?_) rfl (by kernel_rfl) (by kernel_rfl) (by kernel_rfl) (fun _ _ _ h => h) (Or.inl ⟨by rfl, ?_⟩) (by assumption) ?_
        rotate_left
        · (intro w hSw; (go_simp <;> with_reducible rfl))
        try simp only [Act.put, List.setIfInBounds_toArray, List.set_cons_zero, List.set_cons_succ]
        refine wpAnyH_take (i := 2) (oi := ⟨_, _, _, _, _, _⟩) (v := ?_) rfl (by kernel_rfl) (by kernel_rfl) (by kernel_rfl) (fun _ _ _ h => h) (Or.inl ⟨by rfl, ?_⟩) (by assumption) ?_
        rotate_left
        · (intro w hSw; (go_simp <;> with_reducible rfl))
        try simp only [Act.put, List.setIfInBounds_toArray, List.set_cons_zero, List.set_cons_succ]
        refine wpAnyH_take (i := 3) (oi := ⟨_, _, _, _, _, _⟩) (v := ?_) rfl (by kernel_rfl) (by kernel_rfl) (by kernel_rfl) (fun _ _ _ h => h) (Or.inl ⟨by rfl, ?_⟩) (by assumption) ?_
        rotate_left
        · (intro w hSw; (go_simp <;> with_reducible rfl))
        try simp only [Act.put, List.setIfInBounds_toArray, List.set_cons_zero, List.set_cons_succ]
        refine wpAnyH_take (i := 4) (oi := ⟨_, _, _, _, _, _⟩) (v := ?_) rfl (by kernel_rfl) (by kernel_rfl) (by kernel_rfl) (fun _ _ _ h => h) (Or.inl ⟨by rfl, ?_⟩) (by assumption) ?_
        rotate_left
        · (intro w hSw; (go_simp <;> with_reducible rfl))
        try simp only [Act.put, List.setIfInBounds_toArray, List.set_cons_zero, List.set_cons_succ]
        refine wpAnyH_ready (rs := [5]) (by kernel_rfl) (by simp) ?_
        refine (AllReadyH.cons (o := ⟨_, _, _, _, _, _⟩) rfl (fun K hK => ?_) AllReadyH.nil)
        go_simp
        refine (CS1.out _ hU).mono ?_
        rintro e ws ⟨rfl, hh⟩
        replace hN := hN.quiet hh
        replace hY := Rd.quiet hY hh
        replace hV := Rd.quiet hV hh
        replace hG := hG.trans hh
        clear hh
        refine hK.out _ _ ?_ (fun hHeld => ?_)
        · exact hN.cell 6
        clear hK K
        try simp only [Act.put, List.setIfInBounds_toArray, List.set_cons_zero, List.set_cons_succ]
        refine wpAnyH_take (i := 6) (oi := ⟨_, _, _, _, _, _⟩) (v := ?_) rfl (by kernel_rfl) (by kernel_rfl) (by kernel_rfl) (fun _ _ _ h => h) (Or.inl ⟨by rfl, ?_⟩) (by assumption) ?_
        rotate_left
        · (intro w hSw; (go_simp <;> with_reducible rfl))
        try simp only [Act.put, List.setIfInBounds_toArray, List.set_cons_zero, List.set_cons_succ]
        refine wpAnyH_take (i := 7) (oi := ⟨_, _, _, _, _, _⟩) (v := ?_) rfl (by kernel_rfl) (by kernel_rfl) (by kernel_rfl) (fun _ _ _ h => h) (Or.inl ⟨by rfl, ?_⟩) (by assumption) ?_
        rotate_left
        · (intro w hSw; (go_simp <;> with_reducible rfl))
        try simp only [Act.put, List.setIfInBounds_toArray, List.set_cons_zero, List.set_cons_succ]
        refine wpAnyH_done (by kernel_rfl) ?_ _
        go_wp2_with fail
        refine (liEqual_c _ _ _ _ hY hV HLN.out).mono ?_; rintro e wt ⟨rfl, hh⟩
        go_wp2_with fail
        refine (hired_c _).mono ?_; rintro e wz ⟨rfl, hGz⟩
        go_wp2_with fail
        go_ret
        exact ⟨rfl, (hG.trans hh).trans hGz⟩
      · obtain rfl : SL = 0 := HS0.out k2
        have k2' : (SE == 0) = false := by simpa using k2
        clear k2 HS1 HS0 CSU
        go_wp2_with fail
        refine (liEqual_c _ _ _ _ hY hV HLN.out).mono ?_; rintro e wt ⟨rfl, hh⟩
        go_wp2_with fail
        refine (hired_c _).mono ?_; rintro e wz ⟨rfl, hGz⟩
        go_wp2_with fail
        go_ret
        exact ⟨rfl, (hG.trans hh).trans hGz⟩
    · obtain ⟨e1, e2⟩ := HB0.out k1
      subst e1
      subst e2
      have k1' : (YE == 0) = false := by simpa using k1
      clear k1 HB1 HB0 CBO
      generalize (wh.alloc (.cells #[.int .i64 DE, .int .i64 LE, .int .i64 1] 40)) = wj at hN hP hR hU hG hY ⊢
      have hV : RdR wj 3 liC (.slice none 0 0) [] := RdR.nil _ _ _
      go_upto_region 11 with fail
      by_cases k2 : SE = 0
      · obtain ⟨e1, e2, e3, e4⟩ := HS1.out k2
        have CS1 := Lib.hid (CSU.out e3)
        have hbn := HBN.out e3
        have hdp := HDP.out e2
        have hw1 : IntKind.i64.wrap (p + a6) = p + a6 := by rw [IntKind.wrap_i64]; omega
        have hw2 : IntKind.i64.wrap (p + a6 - LS) = SL := by rw [e1, IntKind.wrap_i64]; omega
        have hw3 : IntKind.i64.wrap (-SL) = -SL := by rw [e1, IntKind.wrap_i64]; omega
        subst k2
        clear HS1 HS0 CSU e1 e2 e3 e4 hbn hdp
        go_upto_region 12 with fail
        have hh := (G.refl wj none).drew
        replace hN := hN.quiet hh
        replace hU := Rd.quiet hU hh
        replace hY := Rd.quiet hY hh
        replace hV := Rd.quiet hV hh
        replace hG := hG.trans hh
        clear hh
        refine wp_region_held_drew (S := (fun w' => w'.cell? ⟨g, 6, none⟩ = some (.int .i64 a6))) (by kernel_rfl) ?_ (fun hHeld => ?_)
        · exact hN.cell 6
        refine wpAnyH_take (i := 0) (oi := ⟨_, _, _, _, _, _⟩) (v := ?_) rfl (by kernel_rfl) (by kernel_rfl) (by kernel_rfl) (fun _ _ _ h => h) (Or.inl ⟨by rfl, ?_⟩) (by assumption) ?_
        rotate_left
        · (intro w hSw; (go_simp <;> with_reducible rfl))
        try simp only [Act.put, List.setIfInBounds_toArray, List.set_cons_zero, List.set_cons_succ]
        refine wpAnyH_take (i := 1) (oi := ⟨_, _, _, _, _, _⟩) (v := ?_) rfl (by kernel_rfl) (by kernel_rfl) (by kernel_rfl) (fun _ _ _ h => h) (Or.inl ⟨by rfl, ?_⟩) (by assumption) ?_
        rotate_left
        · (intro w hSw; (go_simp <;> with_reducible rfl))
        try simp only [Act.put, List.setIfInBounds_toArray, List.set_cons_zero, List.set_cons_succ]
        refine wpAnyH_take (i := 2) (oi := ⟨_, _, _, _, _, _⟩) (v := ?_) rfl (by kernel_rfl) (by kernel_rfl) (by kernel_rfl) (fun _ _ _ h => h) (Or.inl ⟨by rfl, ?_⟩) (by assumption) ?_
        rotate_left
        · (intro w hSw; (go_simp <;> with_reducible rfl))
        try simp only [Act.put, List.setIfInBounds_toArray, List.set_cons_zero, List.set_cons_succ]
        refine wpAnyH_take (i := 3) (oi := ⟨_, _, _, _, _, _⟩) (v := ?_) rfl (by kernel_rfl) (by kernel_rfl) (by kernel_rfl) (fun _ _ _ h => h) (Or.inl ⟨by rfl, ?_⟩) (by assumption) ?_
        rotate_left
        · (intro w hSw; (go_simp <;> with_reducible rfl))
        try simp only [Act.put, List.setIfInBounds_toArray, List.set_cons_zero, List.set_cons_succ]
        refine wpAnyH_take (i := 4) (oi := ⟨_, _, _, _, _, _⟩) (v := ?_) rfl (by kernel_rfl) (by kernel_rfl) (by kernel_rfl) (fun _ _ _ h => h) (Or.inl ⟨by rfl, ?_⟩) (by assumption) ?_
        rotate_left
        · (intro w hSw; (go_simp <;> with_reducible rfl))
        try simp only [Act.put, List.setIfInBounds_toArray, List.set_cons_zero, List.set_cons_succ]
        refine wpAnyH_ready (rs := [5]) (by kernel_rfl) (by simp) ?_
        refine (AllReadyH.cons (o := ⟨_, _, _, _, _, _⟩) rfl (fun K hK => ?_) AllReadyH.nil)
        go_simp
        refine (CS1.out _ hU).mono ?_
        rintro e ws ⟨rfl, hh⟩
        replace hN := hN.quiet hh
        replace hY := Rd.quiet hY hh
        replace hV := Rd.quiet hV hh
        replace hG := hG.trans hh
        clear hh
        refine hK.out _ _ ?_ (fun hHeld => ?_)
        · exact hN.cell 6
        clear hK K
        try simp only [Act.put, List.setIfInBounds_toArray, List.set_cons_zero, List.set_cons_succ]
        refine wpAnyH_take (i := 6) (oi := ⟨_, _, _, _, _, _⟩) (v := ?_) rfl (by kernel_rfl) (by kernel_rfl) (by kernel_rfl) (fun _ _ _ h => h) (Or.inl ⟨by rfl, ?_⟩) (by assumption) ?_
        rotate_left
        · (intro w hSw; (go_simp <;> with_reducible rfl))
        try simp only [Act.put, List.setIfInBounds_toArray, List.set_cons_zero, List.set_cons_succ]
        refine wpAnyH_take (i := 7) (oi := ⟨_, _, _, _, _, _⟩) (v := ?_) rfl (by kernel_rfl) (by kernel_rfl) (by kernel_rfl) (fun _ _ _ h => h) (Or.inl ⟨by rfl, ?_⟩) (by assumption) ?_
        rotate_left
        · (intro w hSw; (go_simp <;> with_reducible rfl))
        try simp only [Act.put, List.setIfInBounds_toArray, List.set_cons_zero, List.set_cons_succ]
        refine wpAnyH_done (by kernel_rfl) ?_ _
        go_wp2_with fail
        refine (liEqual_c _ _ _ _ hY hV HLN.out).mono ?_; rintro e wt ⟨rfl, hh⟩
        go_wp2_with fail
        refine (hired_c _).mono ?_; rintro e wz ⟨rfl, hGz⟩
        go_wp2_with fail
        go_ret
        exact ⟨rfl, (hG.trans hh).trans hGz⟩
      · obtain rfl : SL = 0 := HS0.out k2
        have k2' : (SE == 0) = false := by simpa using k2
        clear k2 HS1 HS0 CSU
        go_wp2_with fail
        refine (liEqual_c _ _ _ _ hY hV HLN.out).mono ?_; rintro e wt ⟨rfl, hh⟩
        go_wp2_with fail
        refine (hired_c _).mono ?_; rintro e wz ⟨rfl, hGz⟩
        go_wp2_with fail
        go_ret
        exact ⟨rfl, (hG.trans hh).trans hGz⟩
  · have hIBt : IB = true := by rw [← hIB]; simp [inB]; omega
    subst hIBt
    have hO2 := HSE.out false rfl
    rw [if_neg (by simp)] at hO2
    have HO2 := Lib.hid hO2
    clear hO2 hlss hIB HSE
    have HDD : Hid ((decide (p < 0) || decide ((1000000000 : Int) < p)) = false) := Lib.hid (by simp; omega)
    go_wp2_with fail
    refine (when_c _ _ _).mono ?_; rintro e w' ⟨rfl, rfl⟩
    rw [HDD.out, if_neg (by simp)]
    go_wp2_with fail
    refine (errs_c [DE, LE, 0] _ _ (Rd.new #[.int .i64 DE, .int .i64 LE, .int .i64 0] rfl (by show 3 ≤ maxLen; decide)) (by simp)).mono ?_; rintro e w' ⟨rfl, rfl⟩
    rw [HO2.out]
    have hh := (G.refl wh none).alloc (.cells #[.int .i64 DE, .int .i64 LE, .int .i64 0] 40)
    replace hY := Rd.quiet hY hh
    replace hN := hN.quiet hh
    replace hP := hP.quiet hh
    replace hR := Rd.quiet hR hh
    replace hU := Rd.quiet hU hh
    replace hG := hG.trans hh
    clear hh
    clear CB CS CIO CHF CDF CLF HCB HO2
    by_cases k1 : CE = 0
    · obtain ⟨e1, e2⟩ := HB1.out k1
      have CB1 := Lib.hid (CBO.out k1)
      subst e1
      subst e2
      subst k1
      clear HB1 HB0 CBO
      generalize (wh.alloc (.cells #[.int .i64 DE, .int .i64 LE, .int .i64 0] 40)) = wi at hN hP hR hU hG hY ⊢
      go_wp2_with (first | (refine wpList_load_row rfl 27 _ rfl g rfl 27 #[.int .i64 a0, .int .i64 a1, .int .i64 a2, .int .i64 a3, .int .i64 a4, .int .i64 a5, .int .i64 a6] (0, 0) _ hN Tryd.underlying27 rfl (de_info ⟨a0, a1, a2, a3, a4, a5, a6⟩) ?_) | (refine wpList_load_row rfl 33 _ rfl (g + 1) rfl 33 #[.string H.1, .string H.2.1, .int .i64 H.2.2.1, .int .i64 H.2.2.2, .slice b1 l.length c1] (0, 0) _ hP Tryd.underlying33 rfl (hi_info H _) ?_))
      refine (CB1.out _ hR hU).mono ?_; rintro e wj ⟨y2, rfl, hV, hh⟩
      replace hY := Rd.quiet hY hh
      replace hN := hN.quiet hh
      replace hP := hP.quiet hh
      replace hR := Rd.quiet hR hh
      replace hU := Rd.quiet hU hh
      replace hG := hG.trans hh
      clear hh
      go_upto_region 11 with fail
      by_cases k2 : SE = 0
      · obtain ⟨e1, e2, e3, e4⟩ := HS1.out k2
        have CS1 := Lib.hid (CSU.out e3)
        have hbn := HBN.out e3
        have hdp := HDP.out e2
        have hw1 : IntKind.i64.wrap (p + a6) = p + a6 := by rw [IntKind.wrap_i64]; omega
        have hw2 : IntKind.i64.wrap (p + a6 - LS) = SL := by rw [e1, IntKind.wrap_i64]; omega
        have hw3 : IntKind.i64.wrap (-SL) = -SL := by rw [e1, IntKind.wrap_i64]; omega
        subst k2
        clear HS1 HS0 CSU e1 e2 e3 e4 hbn hdp
        go_upto_region 12 with fail
        have hh := (G.refl wj none).drew
        replace hN := hN.quiet hh
        replace hU := Rd.quiet hU hh
        replace hY := Rd.quiet hY hh
        replace hV := Rd.quiet hV hh
        replace hG := hG.trans hh
        clear hh
        refine wp_region_held_drew (S := (fun w' => w'.cell? ⟨g, 6, none⟩ = some (.int .i64 a6))) (by kernel_rfl) ?_ (fun hHeld => ?_)
        · exact hN.cell 6
        refine wpAnyH_take (i := 0) (oi := ⟨_, _, _, _, _, _⟩) (v := ?_) rfl (by kernel_rfl) (by kernel_rfl) (by kernel_rfl) (fun _ _ _ h => h) (Or.inl ⟨by rfl, ?_⟩) (by assumption) ?_
        rotate_left
        · (intro w hSw; (go_simp <;> with_reducible rfl))
        try simp only [Act.put, List.setIfInBounds_toArray, List.set_cons_zero, List.set_cons_succ]
        refine wpAnyH_take (i := 1) (oi := ⟨_, _, _, _, _, _⟩) (v := ?_) rfl (by kernel_rfl) (by kernel_rfl) (by kernel_rfl) (fun _ _ _ h => h) (Or.inl ⟨by rfl, ?_⟩) (by assumption) ?_
        rotate_left
        · (intro w hSw; (go_simp <;> with_reducible rfl))
        try simp only [Act.put, List.setIfInBounds_toArray, List.set_cons_zero, List.set_cons_succ]
        refine wpAnyH_take (i := 2) (oi := ⟨_, _, _, _, _, _⟩) (v := ?_) rfl (by kernel_rfl) (by kernel_rfl) (by kernel_rfl) (fun _ _ _ h => h) (Or.inl ⟨by rfl, ?_⟩) (by assumption) ?_
        rotate_left
        · (intro w hSw; (go_simp <;> with_reducible rfl))
        try simp only [Act.put, List.setIfInBounds_toArray, List.set_cons_zero, List.set_cons_succ]
        refine wpAnyH_take (i := 3) (oi := ⟨_, _, _, _, _, _⟩) (v := ?_) rfl (by kernel_rfl) (by kernel_rfl) (by kernel_rfl) (fun _ _ _ h => h) (Or.inl ⟨by rfl, ?_⟩) (by assumption) ?_
        rotate_left
        · (intro w hSw; (go_simp <;> with_reducible rfl))
        try simp only [Act.put, List.setIfInBounds_toArray, List.set_cons_zero, List.set_cons_succ]
        refine wpAnyH_take (i := 4) (oi := ⟨_, _, _, _, _, _⟩) (v := ?_) rfl (by kernel_rfl) (by kernel_rfl) (by kernel_rfl) (fun _ _ _ h => h) (Or.inl ⟨by rfl, ?_⟩) (by assumption) ?_
        rotate_left
        · (intro w hSw; (go_simp <;> with_reducible rfl))
        try simp only [Act.put, List.setIfInBounds_toArray, List.set_cons_zero, List.set_cons_succ]
        refine wpAnyH_ready (rs := [5]) (by kernel_rfl) (by simp) ?_
        refine (AllReadyH.cons (o := ⟨_, _, _, _, _, _⟩) rfl (fun K hK => ?_) AllReadyH.nil)
        go_simp
        refine (CS1.out _ hU).mono ?_
        rintro e ws ⟨rfl, hh⟩
        replace hN := hN.quiet hh
        replace hY := Rd.quiet hY hh
        replace hV := Rd.quiet hV hh
        replace hG := hG.trans hh
        clear hh
        refine hK.out _ _ ?_ (fun hHeld => ?_)
        · exact hN.cell 6
        clear hK K
        try simp only [Act.put, List.setIfInBounds_toArray, List.set_cons_zero, List.set_cons_succ]
        refine wpAnyH_take (i := 6) (oi := ⟨_, _, _, _, _, _⟩) (v := ?_) rfl (by kernel_rfl) (by kernel_rfl) (by kernel_rfl) (fun _ _ _ h => h) (Or.inl ⟨by rfl, ?_⟩) (by assumption) ?_
        rotate_left
        · (intro w hSw; (go_simp <;> with_reducible rfl))
        try simp only [Act.put, List.setIfInBounds_toArray, List.set_cons_zero, List.set_cons_succ]
        refine wpAnyH_take (i := 7) (oi := ⟨_, _, _, _, _, _⟩) (v := ?_) rfl (by kernel_rfl) (by kernel_rfl) (by kernel_rfl) (fun _ _ _ h => h) (Or.inl ⟨by rfl, ?_⟩) (by assumption) ?_
        rotate_left
        · (intro w hSw; (go_simp <;> with_reducible rfl))
        try simp only [Act.put, List.setIfInBounds_toArray, List.set_cons_zero, List.set_cons_succ]
        refine wpAnyH_done (by kernel_rfl) ?_ _
        go_wp2_with fail
        refine (liEqual_c _ _ _ _ hY hV HLN.out).mono ?_; rintro e wt ⟨rfl, hh⟩
        go_wp2_with fail
        refine (hired_c _).mono ?_; rintro e wz ⟨rfl, hGz⟩
        go_wp2_with fail
        go_ret
        exact ⟨rfl, (hG.trans hh).trans hGz⟩
      · obtain rfl : SL = 0 := HS0.out k2
        have k2' : (SE == 0) = false := by simpa using k2
        clear k2 HS1 HS0 CSU
        go_wp2_with fail
        refine (liEqual_c _ _ _ _ hY hV HLN.out).mono ?_; rintro e wt ⟨rfl, hh⟩
        go_wp2_with fail
        refine (hired_c _).mono ?_; rintro e wz ⟨rfl, hGz⟩
        go_wp2_with fail
        go_ret
        exact ⟨rfl, (hG.trans hh).trans hGz⟩
    · obtain ⟨e1, e2⟩ := HB0.out k1
      subst e1
      subst e2
      have k1' : (YE == 0) = false := by simpa using k1
      clear k1 HB1 HB0 CBO
      generalize (wh.alloc (.cells #[.int .i64 DE, .int .i64 LE, .int .i64 0] 40)) = wj at hN hP hR hU hG hY ⊢
      have hV : RdR wj 3 liC (.slice none 0 0) [] := RdR.nil _ _ _
      go_upto_region 11 with fail
      by_cases k2 : SE = 0
      · obtain ⟨e1, e2, e3, e4⟩ := HS1.out k2
        have CS1 := Lib.hid (CSU.out e3)
        have hbn := HBN.out e3
        have hdp := HDP.out e2
        have hw1 : IntKind.i64.wrap (p + a6) = p + a6 := by rw [IntKind.wrap_i64]; omega
        have hw2 : IntKind.i64.wrap (p + a6 - LS) = SL := by rw [e1, IntKind.wrap_i64]; omega
        have hw3 : IntKind.i64.wrap (-SL) = -SL := by rw [e1, IntKind.wrap_i64]; omega
        subst k2
        clear HS1 HS0 CSU e1 e2 e3 e4 hbn hdp
        go_upto_region 12 with fail
        have hh := (G.refl wj none).drew
        replace hN := hN.quiet hh
        replace hU := Rd.quiet hU hh
        replace hY := Rd.quiet hY hh
        replace hV := Rd.quiet hV hh
        replace hG := hG.trans hh
        clear hh
        refine wp_region_held_drew (S := (fun w' => w'.cell? ⟨g, 6, none⟩ = some (.int .i64 a6))) (by kernel_rfl) ?_ (fun hHeld => ?_)
        · exact hN.cell 6
        refine wpAnyH_take (i := 0) (oi := ⟨_, _, _, _, _, _⟩) (v := ?_) rfl (by kernel_rfl) (by kernel_rfl) (by kernel_rfl) (fun _ _ _ h => h) (Or.inl ⟨by rfl, ?_⟩) (by assumption) ?_
        rotate_left
        · (intro w hSw; (go_simp <;> with_reducible rfl))
        try simp only [Act.put, List.setIfInBounds_toArray, List.set_cons_zero, List.set_cons_succ]
        refine wpAnyH_take (i := 1) (oi := ⟨_, _, _, _, _, _⟩) (v := ?_) rfl (by kernel_rfl) (by kernel_rfl) (by kernel_rfl) (fun _ _ _ h => h) (Or.inl ⟨by rfl, ?_⟩) (by assumption) ?_
        rotate_left
        · (intro w hSw; (go_simp <;> with_reducible rfl))
        try simp only [Act.put, List.setIfInBounds_toArray, List.set_cons_zero, List.set_cons_succ]
        refine wpAnyH_take (i := 2) (oi := ⟨_, _, _, _, _, _⟩) (v := ?_) rfl (by kernel_rfl) (by kernel_rfl) (by kernel_rfl) (fun _ _ _ h => h) (Or.inl ⟨by rfl, ?_⟩) (by assumption) ?_
        rotate_left
        · (intro w hSw; (go_simp <;> with_reducible rfl))
        try simp only [Act.put, List.setIfInBounds_toArray, List.set_cons_zero, List.set_cons_succ]
        refine wpAnyH_take (i := 3) (oi := ⟨_, _, _, _, _, _⟩) (v := ?_) rfl (by kernel_rfl) (by kernel_rfl) (by kernel_rfl) (fun _ _ _ h => h) (Or.inl ⟨by rfl, ?_⟩) (by assumption) ?_
        rotate_left
        · (intro w hSw; (go_simp <;> with_reducible rfl))
        try simp only [Act.put, List.setIfInBounds_toArray, List.set_cons_zero, List.set_cons_succ]
        refine wpAnyH_take (i := 4) (oi := ⟨_, _, _, _, _, _⟩) (v := ?_) rfl (by kernel_rfl) (by kernel_rfl) (by kernel_rfl) (fun _ _ _ h => h) (Or.inl ⟨by rfl, ?_⟩) (by assumption) ?_
        rotate_left
        · (intro w hSw; (go_simp <;> with_reducible rfl))
        try simp only [Act.put, List.setIfInBounds_toArray, List.set_cons_zero, List.set_cons_succ]
        refine wpAnyH_ready (rs := [5]) (by kernel_rfl) (by simp) ?_
        refine (AllReadyH.cons (o := ⟨_, _, _, _, _, _⟩) rfl (fun K hK => ?_) AllReadyH.nil)
        go_simp
        refine (CS1.out _ hU).mono ?_
        rintro e ws ⟨rfl, hh⟩
        replace hN := hN.quiet hh
        replace hY := Rd.quiet hY hh
        replace hV := Rd.quiet hV hh
        replace hG := hG.trans hh
        clear hh
        refine hK.out _ _ ?_ (fun hHeld => ?_)
        · exact hN.cell 6
        clear hK K
        try simp only [Act.put, List.setIfInBounds_toArray, List.set_cons_zero, List.set_cons_succ]
        refine wpAnyH_take (i := 6) (oi := ⟨_, _, _, _, _, _⟩) (v := ?_) rfl (by kernel_rfl) (by kernel_rfl) (by kernel_rfl) (fun _ _ _ h => h) (Or.inl ⟨by rfl, ?_⟩) (by assumption) ?_
        rotate_left
        · (intro w hSw; (go_simp <;> with_reducible rfl))
        try simp only [Act.put, List.setIfInBounds_toArray, List.set_cons_zero, List.set_cons_succ]
        refine wpAnyH_take (i := 7) (oi := ⟨_, _, _, _, _, _⟩) (v := ?_) rfl (by kernel_rfl) (by kernel_rfl) (by kernel_rfl) (fun _ _ _ h => h) (Or.inl ⟨by rfl, ?_⟩) (by assumption) ?_
        rotate_left
        · (intro w hSw; (go_simp <;> with_reducible rfl))
        try simp only [Act.put, List.setIfInBounds_toArray, List.set_cons_zero, List.set_cons_succ]
        refine wpAnyH_done (by kernel_rfl) ?_ _
        go_wp2_with fail
        refine (liEqual_c _ _ _ _ hY hV HLN.out).mono ?_; rintro e wt ⟨rfl, hh⟩
        go_wp2_with fail
        refine (hired_c _).mono ?_; rintro e wz ⟨rfl, hGz⟩
        go_wp2_with fail
        go_ret
        exact ⟨rfl, (hG.trans hh).trans hGz⟩
      · obtain rfl : SL = 0 := HS0.out k2
        have k2' : (SE == 0) = false := by simpa using k2
        clear k2 HS1 HS0 CSU
        go_wp2_with fail
        refine (liEqual_c _ _ _ _ hY hV HLN.out).mono ?_; rintro e wt ⟨rfl, hh⟩
        go_wp2_with fail
        refine (hired_c _).mono ?_; rintro e wz ⟨rfl, hGz⟩
        go_wp2_with fail
        go_ret
        exact ⟨rfl, (hG.trans hh).trans hGz⟩
end Go.Proofs.YtpgamfoancomiaaDoor

/- What the row's list of variables gives; a start that meets it. -/
namespace Go.Proofs.YtpgamfoancomiaaDoor
open Go.ChangeShapes Go.WideShapes Go.ChangeAt Go.RowKit

theorem own : ownKnob Tryd.prog.godebug = none := by kernel_rfl
theorem c1 : Tryd.prog.cellsOf 3 = 1 := by kernel_rfl
def laidL : List (String × DataW Unit) := [("unicode/utf8.acceptRanges", Rows.laid_unicode_utf8_acceptRanges), ("unicode/utf8.first", Rows.laid_unicode_utf8_first)]
/-- A start that meets the list: what the door's run leaves, Go's own table laid by hand. -/
noncomputable def laidWorld (os : Os) : World :=
  { World.doorLaid Tryd.prog 200 os with heap := (World.doorLaid Tryd.prog 200 os).heap.modify 0 fun
      | .cells _ t fr => .cells (Lib.firstTab.map (Value.int .u8)).toArray t fr
      | o => o }
set_option maxRecDepth 100000 in
theorem laid_met (os : Os) : laidMetH Tryd.prog laidL ((laidWorld os).forCall (fun _ _ => 0) ⟨#[], #[.slice none 0 0], []⟩).memory :=
  laidMetH_of_parts3 (fuel := 8) (laidMet_of_run' 8 (by kernel_rfl) (by kernel_rfl)) (by kernel_rfl) (by kernel_rfl)

/-! ### The row's last step -/
section
variable {H : Type} {enc : TypeId × Value → H} {P : Program}
theorem post_quiet {f : Func} {s : ChangeSpec} {apart fresh handsOn again : Bool} {W W' : World} {args : Array Value} {v : Value} {ds gs : List (DataW H)} {before pa pv : List MemPlace}
    (hW : DataW.Whole enc P f.params.toList s.vars apart W args.toList ds gs before) (hg : G W W' none)
    (hres : ∀ (b : Nat) (sp : Nat → Bool) (hd : Bool), DataW.TrodAll enc P W' b sp hd f.resultTypes.toList (v.resultList f.resultTypes.size) (s.fn H (ds ++ gs)).results [])
    (hargs : ∀ sp : Nat → Bool, (∀ p ∈ before, sp p.block = true) → DataW.TrodAll enc P W' 0 sp true f.params.toList args.toList (s.fn H (ds ++ gs)).args pa)
    (hvars : ∀ sp : Nat → Bool, (∀ p ∈ before, sp p.block = true) → DataW.TrodVars enc P W' sp s.vars (s.fn H (ds ++ gs)).vars pv)
    (hps : before = pa ++ pv)
    (hok : ∀ (j : Nat) (t : TypeId) (r : Value), f.resultTypes[j]? = some t → (v.resultList f.resultTypes.size)[j]? = some r → Value.okWide P W' .any 0 t r) :
    s.post enc P f apart fresh handsOn again W args v W' := by
  have hb := hg.below
  have lt : ∀ p ∈ before, p.block < W.heap.size := fun p hp => hW.lt p hp
  have old : ∀ p ∈ before, (fun b => decide (b < W.heap.size)) p.block = true := fun p hp => decide_eq_true (lt p hp)
  have sub : ∀ p, p ∈ ([] ++ pa) ++ pv → p ∈ before := fun p hp => by rw [hps]; simpa using hp
  refine ⟨ds, gs, before, [], pa, pv, hW, hres _ _ _, hargs _ old, hvars _ old, World.keptBut_mono (fun p hp => ⟨hp, .inr (by rw [← List.mem_append, ← hps]; exact hp)⟩) (hb.frame (· ∈ before)), fun _ => ⟨hok, ?_⟩⟩
  obtain ⟨_, _, _, _, _, hz, hn⟩ := hW
  refine ⟨_, _, ([] ++ pa) ++ pv, ⟨[] ++ pa, pv, trodAll_append (hargs _ fun _ _ => rfl) (hres _ _ _), hvars _ fun _ _ => rfl, rfl, fun b off hp => ?_, fun ha => ?_⟩, fun p hp _ => sub p hp⟩
  · rw [hb.frozen (lt _ (sub _ hp))]
    exact hz b off (sub _ hp)
  · have h := hn ha
    rw [hps] at h
    simpa using h
end
theorem laidOut : laidOutB Tryd.prog = true := by kernel_rfl
theorem wf64 {n : Int} (h : (Lit.int .i64 n).wf = true) : -9223372036854775808 ≤ n ∧ n ≤ 9223372036854775807 := by
  have h1 : IntKind.i64.min = -9223372036854775808 := rfl
  have h2 : IntKind.i64.max = 9223372036854775807 := rfl
  simp only [Lit.wf, Bool.and_eq_true, decide_eq_true_eq] at h
  omega
set_option maxRecDepth 100000 in
theorem has_of_ok {W : World} {base : Nat} {a : Addr} {n c : Nat} (hok : Value.okWide Tryd.prog W .any base 22 (.slice (some a) n c)) : a.spot = none ∧ a.block < W.heap.size := by
  simp only [Value.okWide, Tryd.underlying22, Cell.okWide, Cell.ok] at hok
  obtain ⟨_, _, _, h2, row, cells, h3, _⟩ := hok
  refine ⟨h2, ?_⟩
  unfold World.shape? at h3
  cases hh : W.heap[a.block]? with
  | none => simp [hh] at h3
  | some o => exact (Array.getElem?_eq_some_iff.1 hh).1
set_option maxRecDepth 100000 in
/-- The list of numbers that came in, as the walk wants it. -/
theorem rd_of_trod {H : Type} {enc : TypeId × Value → H} {W : World} {base : Nat} {v : Value} {d : DataW H} {p : List MemPlace} (hok : Value.okWide Tryd.prog W .any base 22 v) (h : DataW.Trod enc Tryd.prog W 0 (fun _ => true) true 22 v d p) :
    ∃ (a : Option Addr) (n c : Nat) (zs : List Int), v = .slice a n c ∧ Rd W 1 (.slice a n c) n (zs.map (Value.int .i64)) ∧ ∀ z ∈ zs, -9223372036854775808 ≤ z ∧ z ≤ 9223372036854775807 := by
  obtain ⟨a0, len, cap, rfl⟩ := okWide_slice Tryd.underlying22 hok
  obtain ⟨fuel, hf⟩ := h
  rcases open_ints Tryd.underlying22 Tryd.underlying3 c1 hf with ⟨hcs, _⟩ | ⟨a, len', cap', zs, hcs, _, hl, hm, hz, _, hcell, hw⟩
  · have hcs' : [Value.slice a0 len cap] = [Value.slice none 0 0] := hcs
    injection hcs' with e _
    injection e with e1 e2 e3
    subst e1; subst e2; subst e3
    exact ⟨none, 0, 0, [], rfl, ⟨none, 0, rfl, Nat.le_refl _, Nat.zero_le _, rfl, fun _ => ⟨rfl, rfl⟩, fun b hb => by cases hb⟩, fun z hz => by cases hz⟩
  · have hcs' : [Value.slice a0 len cap] = [Value.slice (some a) len' cap'] := hcs
    injection hcs' with e _
    injection e with e1 e2 e3
    subst e1; subst e2; subst e3
    simp only [if_true] at hz
    obtain ⟨s1, s2⟩ := has_of_ok hok
    refine ⟨some a, len, cap, zs.take len, rfl, ⟨some a, cap, rfl, hl, hm, by simp; omega, (fun e => by cases e), fun b hb => ?_⟩, fun z hz' => wf64 (hw z (List.mem_of_mem_take hz'))⟩
    obtain rfl := Option.some.inj hb
    refine ⟨s1, s2, fun j u hj => ?_⟩
    rw [List.getElem?_map] at hj
    obtain ⟨z, hz1, rfl⟩ := Option.map_eq_some_iff.1 hj
    have hjl := (List.getElem?_eq_some_iff.1 hz1).1
    simp at hjl
    have hc := hcell j (by omega)
    have hz2 : zs[j]? = some z := by rw [← hz1, List.getElem?_take, if_pos (by omega)]
    rw [List.getD, hz2] at hc
    have ha : a.add j = ⟨a.block, a.off + j, none⟩ := by
      obtain ⟨ab, ao, asp⟩ := a
      dsimp only at s1
      subst s1
      exact add_at ab ao j
    rw [ha] at hc
    exact hc
end Go.Proofs.YtpgamfoancomiaaDoor
