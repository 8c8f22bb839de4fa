/- Gtl, Er2, Pdl, Lay. -/
import Derived.Test.YtamoefnpfkcigaaDoorZc4
import Derived.Test.YtamoefnpfkcigaaDoorZc1
import Derived.Laws.ResultCell
import Derived.Deep.MidRow
import Derived.Test.YtamoefnpfkcigaaDoorZc5
import Derived.Test.YtamoefnpfkcigaaDoorRows
import Derived.Test.YtamoefnpfkcigaaDoorTie
import Derived.Test.YtamoefnpfkcigaaDoorCards
import Derived.LaidMore
import Derived.ChangeSame
import Derived.ProofKit
import Derived.OpenShut
import Derived.PinnedBridge
import Derived.Deep.DeepHandedRow
import Derived.Deep.DeepWitnessRowRef
/- Generators: TollRules, Charges. Written by gengtl.py. -/
namespace Go.Proofs.YtamoefnpfkcigaaDoor
open Go.RowKit

def TrPost (s K : Nat) (w : World) (e : Ending) (w' : World) : Prop :=
  ∃ x : Tr, e = .returned (.agg (trC x)) ∧ SB w' s (K + 16) ∧ G w w' (some s)
theorem tollRulesG_c_one (x : Tr) : (trC x).all (·.oneCell') = true := by simp [trC, Value.oneCell']
theorem tollRulesG_c_fin {w w3 : World} {s K : Nat} {x : Tr} (hs : s < w.heap.size) (hSB : SB w3 s (K + 16)) (hG : G w w3 (some s)) :
    TrPost s K w (.returned (.agg (trC x))) (w3.setRow w.heap.size (trC x)) :=
  ⟨x, rfl, hSB.setRow hs _, hG.setRow (.inl (Nat.le_refl _)) _⟩
set_option maxRecDepth 100000 in
set_option maxHeartbeats 4000000 in
theorem tollRulesG_c (w : World) (s : Nat) (K : Nat) (hs : SB w s K) (hk : K ≤ 900000000000) :
    Calls Tryd.prog 19 #[.pointer (some ⟨s, 0, none⟩)] w (TrPost s K w) := by
  have hslt := hs.lt
  go_enter Tryd.func19, Tryd.ntmps19
  go_wp2_with fail
  refine (pick_c _ _ _ [0, 1, 6, 10, 60] _ _ K ((hs.alloc _).alloc _) (by omega) (by decide) (by decide) (Rd.newAt _ (by simp) rfl (by decide)) (hs.newAt _ _ _ (by omega))).mono ?_
  rintro e w1 ⟨a0, rfl, hp, hSB1, hG1⟩
  have hz1 : w.heap.size + 2 ≤ w1.heap.size := by have := hG1.size; simp at this; omega
  have hB1 := ((Bk.new w 51 #[.int .i64 0, .int .i64 0, .int .i64 0]).alloc (.cells _ 3)).grown hG1 (by simp; omega)
  have hG01 : G w w1 (some s) := (((G.refl w (some s)).alloc _).alloc _).trans hG1
  clear hG1 hp hz1
  go_wp2_with fail
  refine (pick_c _ _ _ [-1, 0, 50, 100, 1000] _ _ _ (hSB1.alloc _) (by omega) (by decide) (by decide) (Rd.newAt _ rfl rfl (by decide)) (hSB1.newAt _ _ _ (Nat.le_refl _))).mono ?_
  rintro e w2 ⟨a1, rfl, hp, hSB2, hG2⟩
  have hB2 := (hB1.alloc (.cells _ 3)).grown hG2 (fun e => by have := Option.some.inj e; omega)
  have hG02 := (hG01.alloc _).trans hG2
  clear hG2 hp hB1 hG01 hSB1
  go_wp2_with fail
  refine (pick_c _ _ _ [0, 9] _ _ _ (hSB2.alloc _) (by omega) (by decide) (by decide) (Rd.newAt _ rfl rfl (by decide)) (hSB2.newAt _ _ _ (Nat.le_refl _))).mono ?_
  rintro e w3 ⟨a2, rfl, hp, hSB3, hG3⟩
  have hB3 := (hB2.alloc (.cells _ 3)).grown hG3 (fun e => by have := Option.some.inj e; omega)
  have hG03 := (hG02.alloc _).trans hG3
  clear hG3 hp hB2 hG02 hSB2
  have hN4 := Bk.new w3 51 #[.int .i64 a0, .int .i64 a1, .int .i64 a2]
  have hSB4 := hSB3.alloc (.cells #[.int .i64 a0, .int .i64 a1, .int .i64 a2] 51)
  have hB4 := hB3.alloc (.cells #[.int .i64 a0, .int .i64 a1, .int .i64 a2] 51)
  have hG04 := hG03.alloc (.cells #[.int .i64 a0, .int .i64 a1, .int .i64 a2] 51)
  have hs7 := hSB3.lt
  have hl7 := hB3.lt
  have hgw : w.heap.size ≤ w3.heap.size := hG03.size
  clear hB3 hG03 hSB3
  go_wp2_with fail
  generalize w3.alloc (.cells #[.int .i64 a0, .int .i64 a1, .int .i64 a2] 51) = w4 at hN4 hSB4 hB4 hG04 ⊢
  generalize w3.heap.size = g at hN4 hs7 hl7 hgw ⊢
  refine (flip_c _ _ _ _ hSB4 (by omega) (by omega)).mono ?_; rintro e w9 ⟨q, rfl, hSB9, hG9⟩
  have hN9 := hN4.grown hG9 (fun e => by have := Option.some.inj e; omega)
  have hB9 := hB4.grown hG9 (fun e => by have := Option.some.inj e; omega)
  have hG09 := hG04.trans hG9
  clear hN4 hB4 hG04 hG9 hSB4
  cases q with
  | false =>
    go_wp2_with (first | (refine wpList_load_row rfl 51 _ rfl g rfl 51 #[.int .i64 a0, .int .i64 a1, .int .i64 a2] (0, 0) _ hN9 Tryd.underlying51 rfl (tr_info ⟨a0, a1, a2⟩) ?_) | (refine wpList_store_row rfl 51 _ _ rfl w.heap.size #[.int .i64 a0, .int .i64 a1, .int .i64 a2] rfl rfl 51 _ hB9 (tr_info ⟨a0, a1, a2⟩) rfl (tollRulesG_c_one ⟨a0, a1, a2⟩) ?_) | (refine wpList_load_row rfl 51 _ rfl w.heap.size rfl 51 #[.int .i64 a0, .int .i64 a1, .int .i64 a2] (0, 0) _ (hB9.setRow _) Tryd.underlying51 rfl (tr_info ⟨a0, a1, a2⟩) ?_))
    refine bodyPost_ret (results_cell_row rfl _ _ w.heap.size 51 #[.int .i64 a0, .int .i64 a1, .int .i64 a2] (0, 0) _ rfl (hB9.setRow _) Tryd.underlying51 rfl (tr_info ⟨a0, a1, a2⟩)) rfl ?_
    exact tollRulesG_c_fin (x := ⟨a0, a1, a2⟩) hslt (hSB9.le (by omega)) hG09
  | true =>
    go_wp2_with fail
    refine (odd_c _ _ _ _ _ hSB9 (by omega) (by omega) (by omega) (by omega) (by omega)).mono ?_; rintro e wb ⟨b0, rfl, y0, y1, hSBb, hGb⟩
    have hNb := hN9.grown hGb (fun e => by have := Option.some.inj e; omega)
    have hBb := hB9.grown hGb (fun e => by have := Option.some.inj e; omega)
    have hG0b := hG09.trans hGb
    clear hN9 hB9 hG09 hGb hSB9 y0 y1
    go_wp2_with fail
    refine (odd_c _ _ _ _ _ hSBb (by omega) (by omega) (by omega) (by omega) (by omega)).mono ?_; rintro e wc ⟨b1, rfl, y0, y1, hSBc, hGc⟩
    have hNc := hNb.grown hGc (fun e => by have := Option.some.inj e; omega)
    have hBc := hBb.grown hGc (fun e => by have := Option.some.inj e; omega)
    have hG0c := hG0b.trans hGc
    clear hNb hBb hG0b hGc hSBb y0 y1
    go_wp2_with fail
    refine (odd_c _ _ _ _ _ hSBc (by omega) (by omega) (by omega) (by omega) (by omega)).mono ?_; rintro e wd ⟨b2, rfl, y0, y1, hSBd, hGd⟩
    have hNd := hNc.grown hGd (fun e => by have := Option.some.inj e; omega)
    have hBd := hBc.grown hGd (fun e => by have := Option.some.inj e; omega)
    have hG0d := hG0c.trans hGd
    clear hNc hBc hG0c hGd hSBc y0 y1
    have n0 : wd.cell? ⟨g, 0, none⟩ = some (.int .i64 a0) := hNd.cell 0
    have n1 : wd.cell? ⟨g, 1, none⟩ = some (.int .i64 a1) := hNd.cell 1
    have n2 : wd.cell? ⟨g, 2, none⟩ = some (.int .i64 a2) := hNd.cell 2
    have x0 := hNd.free 0
    have x1 := hNd.free 1
    have x2 := hNd.free 2
    go_upto_region 4 with fail
    have hNe : Bk (((wd.setCell ⟨g, 0, none⟩ (.int .i64 b0)).setCell ⟨g, 1, none⟩ (.int .i64 b1)).setCell ⟨g, 2, none⟩ (.int .i64 b2)) g 51 #[.int .i64 b0, .int .i64 b1, .int .i64 b2] := (((hNd.set 0 _).set 1 _).set 2 _)
    have hBe := (((hBd.far (p := ⟨g, 0, none⟩) (show w.heap.size ≠ g by omega) (.int .i64 b0)).far (p := ⟨g, 1, none⟩) (show w.heap.size ≠ g by omega) (.int .i64 b1)).far (p := ⟨g, 2, none⟩) (show w.heap.size ≠ g by omega) (.int .i64 b2))
    have hSBe := (((hSBd.setCell (p := ⟨g, 0, none⟩) hs7 (.int .i64 b0)).setCell (p := ⟨g, 1, none⟩) hs7 (.int .i64 b1)).setCell (p := ⟨g, 2, none⟩) hs7 (.int .i64 b2))
    have hG0e := (((hG0d.setCell (p := ⟨g, 0, none⟩) (.inl hgw) (.int .i64 b0)).setCell (p := ⟨g, 1, none⟩) (.inl hgw) (.int .i64 b1)).setCell (p := ⟨g, 2, none⟩) (.inl hgw) (.int .i64 b2))
    generalize (((wd.setCell ⟨g, 0, none⟩ (.int .i64 b0)).setCell ⟨g, 1, none⟩ (.int .i64 b1)).setCell ⟨g, 2, none⟩ (.int .i64 b2)) = we at hNe hBe hSBe hG0e ⊢
    clear hNd hBd hSBd hG0d n0 n1 n2 x0 x1 x2
    go_wp2_with (first | (refine wpList_load_row rfl 51 _ rfl g rfl 51 #[.int .i64 b0, .int .i64 b1, .int .i64 b2] (0, 0) _ hNe Tryd.underlying51 rfl (tr_info ⟨b0, b1, b2⟩) ?_) | (refine wpList_store_row rfl 51 _ _ rfl w.heap.size #[.int .i64 b0, .int .i64 b1, .int .i64 b2] rfl rfl 51 _ hBe (tr_info ⟨b0, b1, b2⟩) rfl (tollRulesG_c_one ⟨b0, b1, b2⟩) ?_) | (refine wpList_load_row rfl 51 _ rfl w.heap.size rfl 51 #[.int .i64 b0, .int .i64 b1, .int .i64 b2] (0, 0) _ (hBe.setRow _) Tryd.underlying51 rfl (tr_info ⟨b0, b1, b2⟩) ?_))
    refine bodyPost_ret (results_cell_row rfl _ _ w.heap.size 51 #[.int .i64 b0, .int .i64 b1, .int .i64 b2] (0, 0) _ rfl (hBe.setRow _) Tryd.underlying51 rfl (tr_info ⟨b0, b1, b2⟩)) rfl ?_
    exact tollRulesG_c_fin (x := ⟨b0, b1, b2⟩) hslt (hSBe.le (by omega)) hG0e
theorem cg_oneL (r : Cg) : ∀ u ∈ (cgC r).toList, u.oneCell' = true := by
  intro u hu
  simp [cgC] at hu
  rcases hu with rfl | rfl | rfl | rfl <;> rfl
theorem cg_one (x : Cg) : (cgC x).all (·.oneCell') = true := by simp [cgC, Value.oneCell']
theorem cg_rowOk : RowOk Tryd.prog 108 61 4 48 (.agg #[.string ⟨#[]⟩, .string ⟨#[]⟩, .int .i64 0, .int .i64 0]) cgC := ⟨by kernel_rfl, Tryd.underlying61, cg_oneL, cgC_sz, rfl, by omega, by omega⟩
abbrev OwnCg (w : World) (base : Nat) (v : Value) (l : List Cg) : Prop := OwnX 108 4 cgC w base v l
theorem CgOk.snoc {l : List Cg} {r : Cg} (h : CgOk l) (hr : Small r.1 ∧ Small r.2.1) : CgOk (l ++ [r]) := fun p hp => by
  rcases List.mem_append.1 hp with hp | hp
  · exact h p hp
  · obtain rfl := List.mem_singleton.1 hp
    exact hr
theorem CgOk.set {l : List Cg} (h : CgOk l) {r : Cg} (hr : Small r.1 ∧ Small r.2.1) (k : Nat) : CgOk (l.set k r) := fun p hp => by
  rcases List.mem_or_eq_of_mem_set hp with hp | rfl
  · exact h p hp
  · exact hr
def ChgPost (s K : Nat) (w : World) (e : Ending) (w' : World) : Prop :=
  ∃ (v : Value) (l : List Cg), e = .returned v ∧ OwnCg w' w.heap.size v l ∧ CgOk l ∧ l.length ≤ 6 ∧ SB w' s (K + 30) ∧ G w w' (some s)
def ChgRel (w : World) (s K n : Nat) (s3 s7 : Value) (wr : World) : Prop :=
  ∃ (k : Nat) (l : List Cg), k ≤ n ∧ l.length = k ∧ s7 = .int .i64 k ∧ OwnCg wr w.heap.size s3 l ∧ CgOk l ∧ SB wr s (K + 1 + 3 * k) ∧ G w wr (some s)
theorem cg_there {w : World} {base g cap : Nat} {l : List Cg} {j : Nat} {a b : ByteArray} {y z : Int} (h : OwnCg w base (.slice (some ⟨g, 0, none⟩) l.length cap) l) (hj : j < l.length) : w.there g (j * 4) (#[.string a, .string b, .int .i64 y, .int .i64 z] : Array Value).size := fun i hi => by
  have hi4 : i < 4 := hi
  have h1 := World.ownsRow.cellAt h (j * 4 + i) (by omega)
  have hl : (rowL cgC l).length = l.length * 4 := h.1
  rw [List.getElem?_eq_getElem (by rw [hl]; omega)] at h1
  refine ⟨?_, World.ownsRow.frozenAt h _⟩
  first | exact ⟨_, h1⟩ | (rw [h1]; rfl) | (rw [h1]; simp)
set_option maxRecDepth 100000 in
set_option maxHeartbeats 4000000 in
theorem charges_c (w : World) (s : Nat) (K : Nat) (hs : SB w s K) (hk : K ≤ 600000000000) :
    Calls Tryd.prog 29 #[.pointer (some ⟨s, 0, none⟩)] w (ChgPost s K w) := by
  have hsw := hs.lt
  go_enter Tryd.func29, Tryd.ntmps29
  go_wp2_with fail
  refine (range_c 0 6 _ s K hs (by omega) (by omega) (by omega) (by omega)).mono ?_; rintro e w2 ⟨n, rfl, hn1, hn2, hSB2, hG2⟩
  obtain ⟨n, rfl⟩ : ∃ m : Nat, n = m := ⟨n.toNat, by omega⟩
  have HN := Lib.hid (show n ≤ 6 by omega)
  clear hn1 hn2 hs
  go_wp2_with fail
  go_loopw [3, 7] (ChgRel w s K n) (fun _ i _ => n - (intOf i).toNat)
  case atStart => exact ⟨0, [], by omega, rfl, rfl, World.ownsRow_nil _ _ _ _, fun x hx => (by cases hx), hSB2, hG2⟩
  case round =>
    clear hSB2 hG2
    obtain ⟨k, l, hkn, hlk, rfl, hown, hok, hSB, hG⟩ := hrel
    by_cases hlt : k < n
    · have HOK := Lib.hid hok
      have HLK := Lib.hid hlk
      have HKN := Lib.hid hlt
      have hk6 : k < 6 := by have := HN.out; omega
      have hwk : IntKind.i64.wrap ((k : Int) + 1) = (k : Int) + 1 := by rw [IntKind.wrap_i64]; omega
      have hwk2 : IntKind.i64.wrap (2 * (k : Int)) = 2 * (k : Int) := by rw [IntKind.wrap_i64]; omega
      clear hok hlk
      go_wp2_with fail
      refine (some_c _ _ _ [⟨#[]⟩, ⟨#[104, 49]⟩, ⟨#[104, 49]⟩, ⟨#[104, 50]⟩] _ _ _ (hSB.alloc _) (by have := HN.out; omega) (by decide) (by decide) (Rd.newAt _ rfl rfl (by decide)) (hSB.newAt _ _ _ (Nat.le_refl _))).mono ?_; rintro e w4 ⟨h1, rfl, hp, hSB4, hg⟩
      have HH1 := Lib.hid (small_pick hp (by decide))
      have hh := ((G.refl wr (some s)).alloc (.cells _ 9)).trans hg
      have hown4 := OwnX.kept hown hh hsw
      have hG4 := hG.trans hh
      clear hown hG hSB hg hh hp
      go_wp2_with fail
      refine (some_c _ _ _ [⟨#[]⟩, ⟨#[118, 49]⟩] _ _ _ (hSB4.alloc _) (by have := HN.out; omega) (by decide) (by decide) (Rd.newAt _ rfl rfl (by decide)) (hSB4.newAt _ _ _ (Nat.le_refl _))).mono ?_; rintro e w5 ⟨h2, rfl, hp, hSB5, hg⟩
      have HH2 := Lib.hid (small_pick hp (by decide))
      have hh := ((G.refl w4 (some s)).alloc (.cells _ 9)).trans hg
      have hown5 := OwnX.kept hown4 hh hsw
      have hG5 := hG4.trans hh
      clear hown4 hG4 hSB4 hg hh hp
      go_wp2_with fail
      refine (pick_c _ _ _ [0, 0, 30, 100] _ _ _ (hSB5.alloc _) (by have := HN.out; omega) (by decide) (by decide) (Rd.newAt _ rfl rfl (by decide)) (hSB5.newAt _ _ _ (Nat.le_refl _))).mono ?_; rintro e w6 ⟨f, rfl, hp, hSB6, hg⟩
      have hh := ((G.refl w5 (some s)).alloc (.cells _ 3)).trans hg
      have hown6 := OwnX.kept hown5 hh hsw
      have hG6 := hG5.trans hh
      have hob := OwnX.low hown6
      have hsz := hG6.size
      have hownA := OwnX.alloc hown6 (.cells #[.string h1, .string h2, .int .i64 (2 * (k : Int)), .int .i64 f] 108)
      clear hown5 hG5 hSB5 hg hh hp
      go_wp2_with (at_builtin; refine wpList_plain rfl fun K' hK' => wp_append_x cg_rowOk _ _ rfl w.heap.size u3 l rfl hownA w6.heap.size (h1, h2, 2 * (k : Int), f) rfl (Bk.new w6 _ _) (by have := HLK.out; omega) (by simp; omega) ?_; intro v8 w8 hown8 hgrow; refine hK' _ _ ?_)
      go_roundw
      case rel => exact ⟨k + 1, l ++ [(h1, h2, 2 * (k : Int), f)], (by have := HKN.out; omega), (by have := HLK.out; simp; omega), by go_num, hown8, HOK.out.snoc ⟨HH1.out, HH2.out⟩, ((hSB6.alloc _).own hgrow (fun r e => Nat.lt_of_lt_of_le hsw (hob r e))).le (by omega), (hG6.alloc _).other hgrow (fun r e => .inl (hob r e))⟩
      case measure => have := HKN.out; simp [intOf]; omega
    · obtain rfl : k = n := by omega
      have hn1 := HN.out
      by_cases h0 : l.length = 0
      · obtain rfl : l = [] := List.eq_nil_of_length_eq_zero h0
        obtain rfl : k = 0 := hlk.symm
        obtain ⟨aa, cc, hv, -, -⟩ := RdR.form (c := cgC) (Rd.of_owns hown)
        have hv' : u3 = .slice aa 0 cc := hv
        clear hv h0
        subst hv'
        go_wp2_with fail
        go_ret
        exact ⟨_, [], rfl, hown, hok, by simp, hSB.le (by omega), hG⟩
      · obtain ⟨g, cap, cur, e, -⟩ := OwnX.form0 hown (by omega)
        subst e
        subst hlk
        have hgs := OwnX.low hown g rfl
        have h0i : ((0 : Int) < (l.length : Int)) := by omega
        have HOK := Lib.hid hok
        clear h0 hok
        go_wp2_with fail
        refine (flip_c _ _ _ _ hSB (by omega) (by omega)).mono ?_; rintro e w3 ⟨q, rfl, hSB3, hg⟩
        have hown3 := OwnX.kept hown hg hsw
        have hG3 := hG.trans hg
        clear hown hG hSB hg
        cases q with
        | false =>
          go_wp2_with fail
          go_ret
          exact ⟨_, l, rfl, hown3, HOK.out, by omega, hSB3.le (by omega), hG3⟩
        | true =>
          go_wp2_with fail
          refine (next_c _ _ _ _ hSB3 (by omega) (by omega)).mono ?_; rintro e w4 ⟨j, rfl, hj, hSB4, hg⟩
          obtain ⟨j0, j1⟩ := hj
          obtain ⟨j, rfl⟩ := Int.eq_ofNat_of_zero_le j0
          have jl : j < l.length := by omega
          have jli : (j : Int) < (l.length : Int) := by omega
          clear j1
          have hown4 := OwnX.kept hown3 hg hsw
          have hG4 := hG3.trans hg
          clear hown3 hG3 hg hSB3
          go_wp2_with fail
          refine (some_c _ _ _ [⟨#[65]⟩, ⟨#[104, 49]⟩] _ _ _ (hSB4.alloc _) (by omega) (by decide) (by decide) (Rd.newAt _ rfl rfl (by decide)) (hSB4.newAt _ _ _ (Nat.le_refl _))).mono ?_; rintro e w5 ⟨r1, rfl, hp, hSB5, hg⟩
          have HR1 := Lib.hid (small_pick hp (by decide))
          have hown5 := OwnX.kept (OwnX.alloc hown4 (.cells _ 9)) hg hsw
          have hG5 := (hG4.alloc (.cells _ 9)).trans hg
          clear hown4 hG4 hg hSB4 hp
          go_wp2_with fail
          refine (odd_c _ _ _ _ _ hSB5 (by omega) (by omega) (by omega) (by omega) (by omega)).mono ?_; rintro e w6 ⟨y1, rfl, y10, y11, hSB6, hg⟩
          have hown6 := OwnX.kept hown5 hg hsw
          have hG6 := hG5.trans hg
          clear hown5 hG5 hg hSB5 y10 y11
          go_wp2_with fail
          refine (odd_c _ _ _ _ _ hSB6 (by omega) (by omega) (by omega) (by omega) (by omega)).mono ?_; rintro e w7 ⟨y2, rfl, y20, y21, hSB7, hg⟩
          have hown7 := OwnX.kept hown6 hg hsw
          have hG7 := hG6.trans hg
          clear hown6 hG6 hg hSB6 y20 y21
          obtain ⟨p, hp⟩ : ∃ p, l[j]? = some p := ⟨_, List.getElem?_eq_getElem jl⟩
          have HT : Hid (w7.there g (j * 4) (#[.string r1, .string ⟨#[]⟩, .int .i64 y1, .int .i64 y2] : Array Value).size) := Lib.hid (cg_there hown7 jl)
          have o1 := OwnX.set cgC_sz hown7 hp (q := (r1, p.2)) 0 (.string r1) (by omega) rfl
          have o2 := OwnX.set cgC_sz o1 (show (l.set j (r1, p.2))[j]? = some (r1, p.2) by rw [List.getElem?_set_self jl]) (q := (r1, ⟨#[]⟩, p.2.2)) 1 (.string ⟨#[]⟩) (by omega) rfl
          rw [List.set_set] at o2
          have o3 := OwnX.set cgC_sz o2 (show (l.set j (r1, ⟨#[]⟩, p.2.2))[j]? = some (r1, ⟨#[]⟩, p.2.2) by rw [List.getElem?_set_self jl]) (q := (r1, ⟨#[]⟩, y1, p.2.2.2)) 2 (.int .i64 y1) (by omega) rfl
          rw [List.set_set] at o3
          have o4 := OwnX.set cgC_sz o3 (show (l.set j (r1, ⟨#[]⟩, y1, p.2.2.2))[j]? = some (r1, ⟨#[]⟩, y1, p.2.2.2) by rw [List.getElem?_set_self jl]) (q := (r1, ⟨#[]⟩, y1, y2)) 3 (.int .i64 y2) (by omega) rfl
          rw [List.set_set] at o4
          have hSB8 := (((hSB7.setCell (p := ⟨g, j * 4, none⟩) (Nat.lt_of_lt_of_le hsw hgs) (.string r1)).setCell (p := ⟨g, j * 4 + 1, none⟩) (Nat.lt_of_lt_of_le hsw hgs) (.string ⟨#[]⟩)).setCell (p := ⟨g, j * 4 + 2, none⟩) (Nat.lt_of_lt_of_le hsw hgs) (.int .i64 y1)).setCell (p := ⟨g, j * 4 + 3, none⟩) (Nat.lt_of_lt_of_le hsw hgs) (.int .i64 y2)
          have hG8 := (((hG7.setCell (p := ⟨g, j * 4, none⟩) (.inl hgs) (.string r1)).setCell (p := ⟨g, j * 4 + 1, none⟩) (.inl hgs) (.string ⟨#[]⟩)).setCell (p := ⟨g, j * 4 + 2, none⟩) (.inl hgs) (.int .i64 y1)).setCell (p := ⟨g, j * 4 + 3, none⟩) (.inl hgs) (.int .i64 y2)
          have HWS : Hid (w7.setCells g (j * 4) [.string r1, .string ⟨#[]⟩, .int .i64 y1, .int .i64 y2] = (((w7.setCell ⟨g, j * 4, none⟩ (.string r1)).setCell ⟨g, j * 4 + 1, none⟩ (.string ⟨#[]⟩)).setCell ⟨g, j * 4 + 2, none⟩ (.int .i64 y1)).setCell ⟨g, j * 4 + 3, none⟩ (.int .i64 y2)) := Lib.hid rfl
          simp only [Nat.add_zero] at o4
          generalize (((w7.setCell ⟨g, j * 4, none⟩ (.string r1)).setCell ⟨g, j * 4 + 1, none⟩ (.string ⟨#[]⟩)).setCell ⟨g, j * 4 + 2, none⟩ (.int .i64 y1)).setCell ⟨g, j * 4 + 3, none⟩ (.int .i64 y2) = w8 at o4 hSB8 hG8 HWS
          clear o1 o2 o3 hown7 hG7 hSB7 hp
          go_wp2_with (refine wpList_store_mid rfl 108 _ _ rfl g (j * 4) #[.string r1, .string ⟨#[]⟩, .int .i64 y1, .int .i64 y2] rfl rfl HT.out (cg_info (r1, ⟨#[]⟩, y1, y2)) (cg_one (r1, ⟨#[]⟩, y1, y2)) ?_; rw [HWS.out])
          go_ret
          exact ⟨_, l.set j (r1, ⟨#[]⟩, y1, y2), rfl, by unfold OwnCg OwnX; rw [List.length_set]; exact o4, HOK.out.set ⟨HR1.out, small_of (s := ⟨#[]⟩) (by decide)⟩ j, by rw [List.length_set]; exact hn1, hSB8.le (by omega), hG8⟩
end Go.Proofs.YtamoefnpfkcigaaDoor

/- rentlaw2's own errs, when. -/
namespace Go.Proofs.YtamoefnpfkcigaaDoor
open Go.RowKit

def Errs2Rel (es : List Int) (i : Value) : Prop := ∃ k : Nat, k ≤ es.length ∧ i = .int .i64 k ∧ errsOf es = errsOf (es.drop k)
set_option maxRecDepth 100000 in
set_option maxHeartbeats 1000000 in
theorem errs2_c (es : List Int) (v : Value) (w : World) (hr : Rd w 1 v es.length (es.map (Value.int .i64))) (hn : es.length ≤ 1000) :
    Calls Tryd.prog 25 #[v] w fun e w' => e = .returned (.int .i64 (errsOf es)) ∧ w = w' := by
  obtain ⟨a, cap, rfl, hcap, hm, hlen, hnil, hcell⟩ := hr
  go_enter Tryd.func25, Tryd.ntmps25
  go_wp2_with fail
  go_loop [7] (Errs2Rel es) (fun i => es.length - (intOf i).toNat)
  case atStart => exact ⟨0, by omega, rfl, rfl⟩
  case round =>
    obtain ⟨k, hk, rfl, heq⟩ := hrel
    have HE := Lib.hid heq
    clear heq
    by_cases hlt : k < es.length
    · obtain ⟨x, hx⟩ : ∃ x, es[k]? = some x := ⟨_, List.getElem?_eq_getElem hlt⟩
      have HD : Hid (errsOf es = if x = 0 then errsOf (es.drop (k + 1)) else x) := Lib.hid (by
        rw [HE.out, List.drop_eq_getElem_cons hlt, (List.getElem?_eq_some_iff.1 hx).2]; rfl)
      cases a with
      | none => have := (hnil rfl).1; omega
      | some ad =>
        obtain ⟨bb, bo, bs⟩ := ad
        obtain ⟨e1, e2, e3⟩ := hcell _ rfl
        dsimp only at e1 e2 e3
        subst e1
        have hc := e3 k (.int .i64 x) (by rw [List.getElem?_map, hx]; rfl)
        clear hcell e3 hnil hx
        by_cases h0 : x = 0
        · subst h0
          have HF : Hid (errsOf es = errsOf (es.drop (k + 1))) := Lib.hid (by rw [HD.out, if_pos rfl])
          go_wp2_with fail
          go_round
          case rel => exact ⟨k + 1, by omega, by go_num, HF.out⟩
          case measure => simp [intOf]; omega
        · have HF : Hid (errsOf es = x) := Lib.hid (by rw [HD.out, if_neg h0])
          have h1 : (x != 0) = true := by rw [bne_iff_ne]; exact h0
          clear h0
          go_wp2_with fail
          go_ret
          exact ⟨ret_int HF.out.symm, rfl⟩
    · obtain rfl : k = es.length := by omega
      have HF : Hid (errsOf es = 0) := Lib.hid (by rw [HE.out, List.drop_length]; rfl)
      go_wp2_with fail
      go_ret
      exact ⟨ret_int HF.out.symm, rfl⟩
theorem when2_c (b : Bool) (n : Int) (w : World) : Calls Tryd.prog 33 #[.bool b, .int .i64 n] w fun e w' => e = .returned (.int .i64 (if b = true then n else 0)) ∧ w = w' := by
  cases b
  all_goals
    go_enter Tryd.func33, Tryd.ntmps33
    go_wp2_with fail
    go_ret
    exact ⟨rfl, rfl⟩
end Go.Proofs.YtamoefnpfkcigaaDoor

/- The law PassagesDouble. -/
namespace Go.Proofs.YtamoefnpfkcigaaDoor
open Go.RowKit

theorem rd_errs (x : Tr) (gs : List Ga) (l : List Pa) : errsOf [trE x, tcE gs l] = rdE x gs l := by
  unfold rdE
  by_cases e1 : trE x = 0
  · rw [if_pos e1, errsOf, if_pos e1]
    by_cases e2 : tcE gs l = 0
    · rw [errsOf, if_pos e2, e2]; rfl
    · rw [errsOf, if_neg e2]
  · rw [if_neg e1, errsOf, if_neg e1]
set_option maxRecDepth 100000 in
set_option maxHeartbeats 4000000 in
theorem passagesDouble_c (a : Option Addr) (n c : Nat) (zs : List Int) (W : World) (hr : Rd W 1 (.slice a n c) n (zs.map (Value.int .i64))) (hz : ∀ z ∈ zs, -9223372036854775808 ≤ z ∧ z ≤ 9223372036854775807) :
    Calls Tryd.prog 4 #[.slice a n c] W fun e W' => e = .returned (.bool true) ∧ G W W' none := by
  have hSB : SB (W.alloc (.cells #[.slice a n c, .int .i64 0] 25)) W.heap.size 0 := by
    have hB := Bk.new W 25 #[.slice a n c, .int .i64 0]
    refine ⟨0, a, n, c, zs, Nat.le_refl _, hr.quiet ((G.refl _ _).alloc _), fun b e => ?_, hz, hB.cell 0, hB.cell 1, hB.free 1, hB.lt⟩
    obtain ⟨a', c', e', r1, r2, r3, r4, r5⟩ := hr
    cases e'
    exact (r5 b e).2.1
  have hG0 : G W (W.alloc (.cells #[.slice a n c, .int .i64 0] 25)) (some W.heap.size) := (G.refl _ _).alloc _
  clear hr hz
  go_enter Tryd.func4, Tryd.ntmps4
  go_upto_region 2 with fail
  generalize W.alloc (.cells #[.slice a n c, .int .i64 0] 25) = w0 at hSB hG0 ⊢
  have hs0 : W.heap.size < w0.heap.size := hSB.lt
  go_wp2_with fail
  refine (gatesG_c _ _ _ hSB (by omega)).mono ?_; rintro e w1 ⟨v1, gs, rfl, hown1, hgok, hg3, hSB1, hh⟩
  have hgl : gs.length ≤ 1000 := by omega
  clear hg3
  have hG1 := hG0.trans hh
  clear hSB hG0 hh
  go_wp2_with fail
  refine (tollRulesG_c _ _ _ hSB1 (by omega)).mono ?_; rintro e w2 ⟨x, rfl, hSB2, hh⟩
  have hown2 := OwnX.kept hown1 hh hs0
  have hG2 := hG1.trans hh
  obtain ⟨d, q, f⟩ := x
  rw [show trC (d, q, f) = #[.int .i64 d, .int .i64 q, .int .i64 f] from rfl]
  clear hSB1 hG1 hh hown1
  go_wp2_with fail
  refine (range_c 0 12 _ W.heap.size _ hSB2 (by omega) (by omega) (by omega) (by omega)).mono ?_; rintro e w3 ⟨nn, rfl, r0, r1, hSB3, hh⟩
  obtain ⟨m, rfl⟩ := Int.eq_ofNat_of_zero_le r0
  have hm12 : m ≤ 12 := by omega
  have hown3 := OwnX.kept hown2 hh hs0
  have hG3 := hG2.trans hh
  have hs3 : W.heap.size < w3.heap.size := hSB3.lt
  clear hSB2 hG2 hh hown2 r0 r1
  go_wp2_with fail
  refine (passagesG_c m hm12 _ _ _ hSB3 (by omega)).mono ?_; rintro e w4 ⟨v2, l, rfl, hownP, hpok, hl12, hSB4, hh⟩
  have hRG := Rd.of_owns (OwnX.kept hown3 hh hs0)
  have hRP := Rd.of_owns hownP
  have hG4 := (hG3.trans hh).own (Nat.le_refl _)
  clear hSB3 hG3 hh hown3 hownP hSB4
  obtain ⟨a1, c1, rfl, -, -⟩ := RdR.form (c := gaC) hRG
  obtain ⟨a2, c2, rfl, -, -⟩ := RdR.form (c := paC) hRP
  have CD := Lib.hid (fun w' (p : RdR w' 3 gaC (.slice a1 gs.length c1) gs) (p2 : RdR w' 4 paC (.slice a2 l.length c2) l) => doubles_c (d, q, f) _ _ gs l w' p p2 hgok hpok.1 (by omega) (by omega))
  have CT := Lib.hid (fun w' => tollFault_c (d, q, f) w')
  have CK := Lib.hid (fun w' => tollRules_c (d, q, f) w')
  have CP := Lib.hid (fun w' (p : RdR w' 3 gaC (.slice a1 gs.length c1) gs) (p2 : RdR w' 4 paC (.slice a2 l.length c2) l) => passagesFault_c _ _ gs l w' p p2 hgok hpok.1 (by omega) (by omega) hpok.2)
  have CR := Lib.hid (fun (e : rdE (d, q, f) gs l = 0) w' (p2 : RdR w' 4 paC (.slice a2 l.length c2) l) => doublesOf_c (d, q, f) _ l w' p2 hpok.1 (paE_ok (rdE_pa e)).1 (paE_ok (rdE_pa e)).2)
  have HE := Lib.hid (rd_errs (d, q, f) gs l)
  have HL1 : Hid (rdE (d, q, f) gs l = 0 → dnR (d, q, f) gs l = numL 0 (dbB d l)) := Lib.hid (fun e => if_pos e)
  have HL0 : Hid (rdE (d, q, f) gs l ≠ 0 → dnR (d, q, f) gs l = []) := Lib.hid (fun e => if_neg e)
  have hlen : (numL 0 (dbB d l)).length ≤ 12 := by have := numL_len 0 (dbB d l); have h2 : (dbB d l).length = l.length := st_len d l; omega
  dsimp only at CR
  generalize dnR (d, q, f) gs l = LL at CD HL1 HL0
  generalize rdE (d, q, f) gs l = E at CD CR HE HL1 HL0
  generalize trE (d, q, f) = E1 at CT CK HE
  generalize tcE gs l = E2 at CP HE
  generalize numL 0 (dbB d l) = TL at CR HL1 hlen
  have hB4 : Bk (w4.alloc (.cells #[.int .i64 d, .int .i64 q, .int .i64 f] 51)) w4.heap.size 51 #[.int .i64 d, .int .i64 q, .int .i64 f] := Bk.new _ _ _
  have hX := (G.refl w4 none).alloc (.cells #[.int .i64 d, .int .i64 q, .int .i64 f] 51)
  replace hRG := hRG.quiet hX
  replace hRP := hRP.quiet hX
  replace hG4 := hG4.trans hX
  clear hX
  go_upto_region 3 with fail
  generalize w4.alloc (.cells #[.int .i64 d, .int .i64 q, .int .i64 f] 51) = w5 at hB4 hRG hRP hG4 ⊢
  generalize w4.heap.size = g at hB4 ⊢
  go_wp2_with (refine wpList_load_row rfl 51 _ rfl g rfl 51 #[.int .i64 d, .int .i64 q, .int .i64 f] (0, 0) _ hB4 Tryd.underlying51 rfl (tr_info (d, q, f)) ?_)
  refine (CD.out _ hRG hRP).mono ?_; rintro e w6 ⟨v6, rfl, hD, hh⟩
  replace hRG := hRG.quiet hh
  replace hRP := hRP.quiet hh
  replace hB4 := hB4.quiet hh
  replace hG4 := hG4.trans hh
  clear hh CD
  go_wp2_with (refine wpList_load_row rfl 51 _ rfl g rfl 51 #[.int .i64 d, .int .i64 q, .int .i64 f] (0, 0) _ hB4 Tryd.underlying51 rfl (tr_info (d, q, f)) ?_)
  refine (CT.out _).mono ?_; rintro e w7 ⟨rfl, hh⟩
  replace hRG := hRG.quiet hh
  replace hRP := hRP.quiet hh
  replace hB4 := hB4.quiet hh
  replace hD := Rd.quiet hD hh
  replace hG4 := hG4.trans hh
  clear hh CT
  go_wp2_with (refine wpList_load_row rfl 51 _ rfl g rfl 51 #[.int .i64 d, .int .i64 q, .int .i64 f] (0, 0) _ hB4 Tryd.underlying51 rfl (tr_info (d, q, f)) ?_)
  refine (CK.out _).mono ?_; rintro e w8 ⟨rfl, hh⟩
  replace hRG := hRG.quiet hh
  replace hRP := hRP.quiet hh
  replace hB4 := hB4.quiet hh
  replace hD := Rd.quiet hD hh
  replace hG4 := hG4.trans hh
  clear hh CK
  have hne : (E1 != E1) = false := by simp
  go_wp2_with fail
  refine (CP.out _ hRG hRP).mono ?_; rintro e w9 ⟨rfl, hh⟩
  replace hRP := hRP.quiet hh
  replace hB4 := hB4.quiet hh
  replace hD := Rd.quiet hD hh
  replace hG4 := hG4.trans hh
  clear hh CP hRG
  go_wp2_with fail
  refine (errs2_c [E1, E2] _ _ (Rd.new #[.int .i64 E1, .int .i64 E2] rfl (by show 2 ≤ maxLen; decide)) (by simp)).mono ?_; rintro e w' ⟨rfl, rfl⟩
  rw [HE.out]
  have hh := (G.refl w9 none).alloc (.cells #[.int .i64 E1, .int .i64 E2] 28)
  replace hRP := hRP.quiet hh
  replace hB4 := hB4.quiet hh
  replace hD := Rd.quiet hD hh
  replace hG4 := hG4.trans hh
  clear hh HE
  go_upto_region 8 with fail
  generalize w9.alloc (.cells #[.int .i64 E1, .int .i64 E2] 28) = wa at hRP hB4 hD hG4 ⊢
  have hee : (E == E) = true := by simp
  by_cases hE : E = 0
  · subst hE
    obtain rfl : LL = TL := HL1.out rfl
    clear HL1 HL0
    obtain ⟨a5, c5, rfl, -, -⟩ := RdR.form (c := inC) hD
    have q0 : wa.cell? ⟨g, 0, none⟩ = some (.int .i64 d) := hB4.cell 0
    have q1 : wa.cell? ⟨g, 1, none⟩ = some (.int .i64 q) := hB4.cell 1
    have q2 : wa.cell? ⟨g, 2, none⟩ = some (.int .i64 f) := hB4.cell 2
    go_wp2_with fail
    refine (CR.out trivial _ hRP).mono ?_; rintro e wb ⟨vb, rfl, hY, hh⟩
    replace hD := Rd.quiet hD hh
    have hGb := hG4.trans hh
    clear hh hRP hB4 hG4 CR q0 q1 q2
    go_wp2_with fail
    refine (inEqual_c _ _ LL _ hD hY (by omega)).mono ?_; rintro e wc ⟨rfl, hh⟩
    have hGc := hGb.trans hh
    go_wp2_with fail
    refine (tolled_c _).mono ?_; rintro e wd ⟨rfl, hh⟩
    have hGd := hGc.trans hh
    go_wp2_with fail
    go_ret
    exact ⟨rfl, hGd⟩
  · obtain rfl : LL = [] := HL0.out hE
    have he0 : (E != 0) = true := bne_iff_ne.2 hE
    clear HL1 HL0 CR
    obtain ⟨a5, c5, hv, -, -⟩ := RdR.form (c := inC) hD
    have hv' : v6 = .slice a5 0 c5 := hv
    clear hv
    subst hv'
    go_wp2_with fail
    refine (tolled_c _).mono ?_; rintro e wd ⟨rfl, hh⟩
    have hGd := hG4.trans hh
    go_wp2_with fail
    go_ret
    exact ⟨rfl, hGd⟩
end Go.Proofs.YtamoefnpfkcigaaDoor

/- What the row's list of variables gives; a start that meets it. -/
namespace Go.Proofs.YtamoefnpfkcigaaDoor
open Go.ChangeShapes Go.WideShapes Go.ChangeAt Go.RowKit

theorem own : ownKnob Tryd.prog.godebug = none := by kernel_rfl
theorem c1 : Tryd.prog.cellsOf 3 = 1 := by kernel_rfl
def laidL : List (String × DataW Unit) := [("unicode/utf8.acceptRanges", Rows.laid_unicode_utf8_acceptRanges), ("unicode/utf8.first", Rows.laid_unicode_utf8_first)]
/-- A start that meets the list: what the door's run leaves, Go's own table laid by hand. -/
noncomputable def laidWorld (os : Os) : World :=
  { World.doorLaid Tryd.prog 200 os with heap := (World.doorLaid Tryd.prog 200 os).heap.modify 0 fun
      | .cells _ t fr => .cells (Lib.firstTab.map (Value.int .u8)).toArray t fr
      | o => o }
set_option maxRecDepth 100000 in
theorem laid_met (os : Os) : laidMetH Tryd.prog laidL ((laidWorld os).forCall (fun _ _ => 0) ⟨#[], #[.slice none 0 0], []⟩).memory :=
  laidMetH_of_parts3 (fuel := 8) (laidMet_of_run' 8 (by kernel_rfl) (by kernel_rfl)) (by kernel_rfl) (by kernel_rfl)

/-! ### The row's last step -/
section
variable {H : Type} {enc : TypeId × Value → H} {P : Program}
theorem post_quiet {f : Func} {s : ChangeSpec} {apart fresh handsOn again : Bool} {W W' : World} {args : Array Value} {v : Value} {ds gs : List (DataW H)} {before pa pv : List MemPlace}
    (hW : DataW.Whole enc P f.params.toList s.vars apart W args.toList ds gs before) (hg : G W W' none)
    (hres : ∀ (b : Nat) (sp : Nat → Bool) (hd : Bool), DataW.TrodAll enc P W' b sp hd f.resultTypes.toList (v.resultList f.resultTypes.size) (s.fn H (ds ++ gs)).results [])
    (hargs : ∀ sp : Nat → Bool, (∀ p ∈ before, sp p.block = true) → DataW.TrodAll enc P W' 0 sp true f.params.toList args.toList (s.fn H (ds ++ gs)).args pa)
    (hvars : ∀ sp : Nat → Bool, (∀ p ∈ before, sp p.block = true) → DataW.TrodVars enc P W' sp s.vars (s.fn H (ds ++ gs)).vars pv)
    (hps : before = pa ++ pv)
    (hok : ∀ (j : Nat) (t : TypeId) (r : Value), f.resultTypes[j]? = some t → (v.resultList f.resultTypes.size)[j]? = some r → Value.okWide P W' .any 0 t r) :
    s.post enc P f apart fresh handsOn again W args v W' := by
  have hb := hg.below
  have lt : ∀ p ∈ before, p.block < W.heap.size := fun p hp => hW.lt p hp
  have old : ∀ p ∈ before, (fun b => decide (b < W.heap.size)) p.block = true := fun p hp => decide_eq_true (lt p hp)
  have sub : ∀ p, p ∈ ([] ++ pa) ++ pv → p ∈ before := fun p hp => by rw [hps]; simpa using hp
  refine ⟨ds, gs, before, [], pa, pv, hW, hres _ _ _, hargs _ old, hvars _ old, World.keptBut_mono (fun p hp => ⟨hp, .inr (by rw [← List.mem_append, ← hps]; exact hp)⟩) (hb.frame (· ∈ before)), fun _ => ⟨hok, ?_⟩⟩
  obtain ⟨_, _, _, _, _, hz, hn⟩ := hW
  refine ⟨_, _, ([] ++ pa) ++ pv, ⟨[] ++ pa, pv, trodAll_append (hargs _ fun _ _ => rfl) (hres _ _ _), hvars _ fun _ _ => rfl, rfl, fun b off hp => ?_, fun ha => ?_⟩, fun p hp _ => sub p hp⟩
  · rw [hb.frozen (lt _ (sub _ hp))]
    exact hz b off (sub _ hp)
  · have h := hn ha
    rw [hps] at h
    simpa using h
end
theorem laidOut : laidOutB Tryd.prog = true := by kernel_rfl
theorem wf64 {n : Int} (h : (Lit.int .i64 n).wf = true) : -9223372036854775808 ≤ n ∧ n ≤ 9223372036854775807 := by
  have h1 : IntKind.i64.min = -9223372036854775808 := rfl
  have h2 : IntKind.i64.max = 9223372036854775807 := rfl
  simp only [Lit.wf, Bool.and_eq_true, decide_eq_true_eq] at h
  omega
set_option maxRecDepth 100000 in
theorem has_of_ok {W : World} {base : Nat} {a : Addr} {n c : Nat} (hok : Value.okWide Tryd.prog W .any base 22 (.slice (some a) n c)) : a.spot = none ∧ a.block < W.heap.size := by
  simp only [Value.okWide, Tryd.underlying22, Cell.okWide, Cell.ok] at hok
  obtain ⟨_, _, _, h2, row, cells, h3, _⟩ := hok
  refine ⟨h2, ?_⟩
  unfold World.shape? at h3
  cases hh : W.heap[a.block]? with
  | none => simp [hh] at h3
  | some o => exact (Array.getElem?_eq_some_iff.1 hh).1
set_option maxRecDepth 100000 in
/-- The list of numbers that came in, as the walk wants it. -/
theorem rd_of_trod {H : Type} {enc : TypeId × Value → H} {W : World} {base : Nat} {v : Value} {d : DataW H} {p : List MemPlace} (hok : Value.okWide Tryd.prog W .any base 22 v) (h : DataW.Trod enc Tryd.prog W 0 (fun _ => true) true 22 v d p) :
    ∃ (a : Option Addr) (n c : Nat) (zs : List Int), v = .slice a n c ∧ Rd W 1 (.slice a n c) n (zs.map (Value.int .i64)) ∧ ∀ z ∈ zs, -9223372036854775808 ≤ z ∧ z ≤ 9223372036854775807 := by
  obtain ⟨a0, len, cap, rfl⟩ := okWide_slice Tryd.underlying22 hok
  obtain ⟨fuel, hf⟩ := h
  rcases open_ints Tryd.underlying22 Tryd.underlying3 c1 hf with ⟨hcs, _⟩ | ⟨a, len', cap', zs, hcs, _, hl, hm, hz, _, hcell, hw⟩
  · have hcs' : [Value.slice a0 len cap] = [Value.slice none 0 0] := hcs
    injection hcs' with e _
    injection e with e1 e2 e3
    subst e1; subst e2; subst e3
    exact ⟨none, 0, 0, [], rfl, ⟨none, 0, rfl, Nat.le_refl _, Nat.zero_le _, rfl, fun _ => ⟨rfl, rfl⟩, fun b hb => by cases hb⟩, fun z hz => by cases hz⟩
  · have hcs' : [Value.slice a0 len cap] = [Value.slice (some a) len' cap'] := hcs
    injection hcs' with e _
    injection e with e1 e2 e3
    subst e1; subst e2; subst e3
    simp only [if_true] at hz
    obtain ⟨s1, s2⟩ := has_of_ok hok
    refine ⟨some a, len, cap, zs.take len, rfl, ⟨some a, cap, rfl, hl, hm, by simp; omega, (fun e => by cases e), fun b hb => ?_⟩, fun z hz' => wf64 (hw z (List.mem_of_mem_take hz'))⟩
    obtain rfl := Option.some.inj hb
    refine ⟨s1, s2, fun j u hj => ?_⟩
    rw [List.getElem?_map] at hj
    obtain ⟨z, hz1, rfl⟩ := Option.map_eq_some_iff.1 hj
    have hjl := (List.getElem?_eq_some_iff.1 hz1).1
    simp at hjl
    have hc := hcell j (by omega)
    have hz2 : zs[j]? = some z := by rw [← hz1, List.getElem?_take, if_pos (by omega)]
    rw [List.getD, hz2] at hc
    have ha : a.add j = ⟨a.block, a.off + j, none⟩ := by
      obtain ⟨ab, ao, asp⟩ := a
      dsimp only at s1
      subst s1
      exact add_at ab ao j
    rw [ha] at hc
    exact hc
end Go.Proofs.YtamoefnpfkcigaaDoor
