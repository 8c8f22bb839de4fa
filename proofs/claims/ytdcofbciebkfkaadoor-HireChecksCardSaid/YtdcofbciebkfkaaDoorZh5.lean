/- GenW, Hxs, Ghi, Dea, GenP, Hiu, Gld. -/
import Derived.Test.YtdcofbciebkfkaaDoorZh1
import Derived.Test.YtdcofbciebkfkaaDoorZh2
import Derived.Laws.ResultCell
import Derived.Outline
import Derived.Test.YtdcofbciebkfkaaDoorZh4
import Derived.Test.YtdcofbciebkfkaaDoorZh3
import Derived.BigQuiet
/- Generator: the time of a hire. -/
namespace Go.Proofs.YtdcofbciebkfkaaDoor
open Go.RowKit

def TimePost (s K : Nat) (w : World) (e : Ending) (w' : World) : Prop :=
  ∃ a z : Int, e = .returned (.agg #[.int .i64 a, .int .i64 z]) ∧ bnd a ∧ bnd z ∧ SB w' s (K + 8) ∧ G w w' (some s)
theorem time_fin {w w3 : World} {s K : Nat} {a z : Int} (hs : s < w.heap.size) (ha : bnd a) (hz : bnd z) (hSB : SB w3 s (K + 8)) (hG : G w w3 (some s)) :
    TimePost s K w (.returned (.agg #[.int .i64 a, .int .i64 z])) (w3.setRow w.heap.size #[.int .i64 a, .int .i64 z]) :=
  ⟨a, z, rfl, ha, hz, hSB.setRow hs _, hG.setRow (.inl (Nat.le_refl _)) _⟩
set_option maxRecDepth 100000 in
set_option maxHeartbeats 2000000 in
theorem time_c (w : World) (s : Nat) (K : Nat) (hs : SB w s K) (hk : K ≤ 900000000000) :
    Calls Tryd.prog 20 #[.pointer (some ⟨s, 0, none⟩)] w (TimePost s K w) := by
  have hslt := hs.lt
  go_enter Tryd.func20, Tryd.ntmps20
  go_wp2_with fail
  refine (pick_c _ _ _ [0, 0, 700, 5040, 5700, 6480, 6500, 8000, 10079, 20000] _ _ K ((hs.alloc _).alloc _) (by omega) (by decide) (by decide) (Rd.newAt _ (by simp) rfl (by decide)) (hs.newAt _ _ _ (by omega))).mono ?_
  rintro e w2 ⟨a, rfl, ha, hSB2, hG2⟩
  have ha0 : 0 ≤ a ∧ a ≤ 20000 := by simp only [List.mem_cons, List.mem_nil_iff, or_false] at ha; omega
  obtain ⟨a0, a1⟩ := ha0
  have hz2 : w.heap.size + 2 ≤ w2.heap.size := by have := hG2.size; simp at this; omega
  have hB2 := ((Bk.new w 30 #[.int .i64 0, .int .i64 0]).alloc (.cells _ 3)).grown hG2 (by simp; omega)
  have hG02 : G w w2 (some s) := (((G.refl w (some s)).alloc _).alloc _).trans hG2
  clear hG2 ha
  go_wp2_with fail
  refine (pick_c _ _ _ [1, 59, 60, 61, 300, 1440, 1441, 1500, 2880, 4320, 5850, 7200, 8641, 10080, 11520, 14800, 21600] _ _ _ (hSB2.alloc _) (by omega) (by decide) (by decide) (Rd.newAt _ rfl rfl (by decide)) (hSB2.newAt _ _ _ (Nat.le_refl _))).mono ?_
  rintro e w3 ⟨d, rfl, hd, hSB3, hG3⟩
  have hd0 : 1 ≤ d ∧ d ≤ 21600 := by simp only [List.mem_cons, List.mem_nil_iff, or_false] at hd; omega
  obtain ⟨d0, d1⟩ := hd0
  have hz3 := hG3.size
  have hB3 := (hB2.alloc (.cells _ 3)).grown hG3 (by simp; omega)
  have hG03 := (hG02.alloc _).trans hG3
  simp at hz3
  clear hG3 hd hB2 hG02 hSB2
  obtain ⟨z, hz⟩ : ∃ z, a + d = z := ⟨_, rfl⟩
  have hzb : 1 ≤ z ∧ z ≤ 41600 := by omega
  obtain ⟨z0, z1⟩ := hzb
  have hN4 := Bk.new w3 30 #[.int .i64 a, .int .i64 z]
  have hSB4 := hSB3.alloc (.cells #[.int .i64 a, .int .i64 z] 30)
  have hB4 := hB3.alloc (.cells #[.int .i64 a, .int .i64 z] 30)
  have hG04 := hG03.alloc (.cells #[.int .i64 a, .int .i64 z] 30)
  have hs3 := hSB3.lt
  have hl3 := hB3.lt
  have hgw : w.heap.size ≤ w3.heap.size := hG03.size
  clear hB3 hG03 hSB3 hz3
  have HZ : Hid (bnd a ∧ bnd z) := Lib.hid (by unfold bnd; omega)
  go_wp2_with fail
  generalize w3.alloc (.cells #[.int .i64 a, .int .i64 z] 30) = w4 at hN4 hSB4 hB4 hG04 ⊢
  generalize w3.heap.size = g at hN4 hs3 hl3 hgw ⊢
  clear hz z0 z1 a0 a1 d0 d1
  refine (flip_c _ _ _ _ hSB4 (by omega) (by omega)).mono ?_; rintro e w5 ⟨q, rfl, hSB5, hG5⟩
  have hN5 := hN4.grown hG5 (fun e => by have := Option.some.inj e; omega)
  have hB5 := hB4.grown hG5 (fun e => by have := Option.some.inj e; omega)
  have hG05 := hG04.trans hG5
  clear hN4 hB4 hG04 hG5 hSB4
  cases q with
  | false =>
    go_wp2_with (first | (refine wpList_load_row rfl 30 _ rfl g rfl 30 #[.int .i64 a, .int .i64 z] (0, 0) _ hN5 Tryd.underlying30 rfl (wi_info a z) ?_) | (refine wpList_store_row rfl 30 _ _ rfl w.heap.size #[.int .i64 a, .int .i64 z] rfl rfl 30 _ hB5 (wi_info a z) rfl (wi_one a z) ?_))
    refine bodyPost_ret (results_cell_row rfl _ _ w.heap.size 30 #[.int .i64 a, .int .i64 z] (0, 0) _ rfl (hB5.setRow _) Tryd.underlying30 rfl (wi_info a z)) rfl ?_
    exact time_fin hslt HZ.out.1 HZ.out.2 (hSB5.le (by omega)) hG05
  | true =>
    go_wp2_with fail
    refine (odd_c _ _ _ _ _ hSB5 (by omega) (by omega) (by omega) (by omega) (by omega)).mono ?_; rintro e w6 ⟨y1, rfl, y10, y11, hSB6, hG6⟩
    have hN6 := hN5.grown hG6 (fun e => by have := Option.some.inj e; omega)
    have hB6 := hB5.grown hG6 (fun e => by have := Option.some.inj e; omega)
    have hG06 := hG05.trans hG6
    clear hN5 hB5 hG05 hG6 hSB5
    go_wp2_with fail
    refine (pick_c _ _ _ [0, 1000, 5761439, 5761440, 172800, 173801] _ _ _ (hSB6.alloc _) (by omega) (by decide) (by decide) (Rd.newAt _ rfl rfl (by decide)) (hSB6.newAt _ _ _ (Nat.le_refl _))).mono ?_; rintro e w7 ⟨y2, rfl, hy2, hSB7, hG7⟩
    have b2 := bnd_pick hy2 (by decide)
    have hN7 := (hN6.alloc _).grown hG7 (fun e => by have := Option.some.inj e; omega)
    have hB7 := (hB6.alloc _).grown hG7 (fun e => by have := Option.some.inj e; omega)
    have hG07 := (hG06.alloc _).trans hG7
    clear hN6 hB6 hG06 hG7 hSB6 hy2
    have hN8 := hN7.setRow #[.int .i64 y1, .int .i64 y2]
    have hB8 := hB7.farRow (show w.heap.size ≠ g by omega) #[.int .i64 y1, .int .i64 y2]
    go_wp2_with (first | (refine wpList_store_row rfl 30 _ _ rfl g #[.int .i64 y1, .int .i64 y2] rfl rfl 30 _ hN7 (wi_info y1 y2) rfl (wi_one y1 y2) ?_) | (refine wpList_load_row rfl 30 _ rfl g rfl 30 #[.int .i64 y1, .int .i64 y2] (0, 0) _ hN8 Tryd.underlying30 rfl (wi_info y1 y2) ?_) | (refine wpList_store_row rfl 30 _ _ rfl w.heap.size #[.int .i64 y1, .int .i64 y2] rfl rfl 30 _ hB8 (wi_info y1 y2) rfl (wi_one y1 y2) ?_))
    refine bodyPost_ret (results_cell_row rfl _ _ w.heap.size 30 #[.int .i64 y1, .int .i64 y2] (0, 0) _ rfl (hB8.setRow _) Tryd.underlying30 rfl (wi_info y1 y2)) rfl ?_
    exact time_fin hslt ⟨y10, y11⟩ b2 ((hSB7.setRow hs3 _).le (by omega)) (hG07.setRow (.inl hgw) _)
end Go.Proofs.YtdcofbciebkfkaaDoor

/- Lists of hires: CheckAll, HiresFault. Written by genhxs.py. -/
namespace Go.Proofs.YtdcofbciebkfkaaDoor
open Go.RowKit

/-- A hire and its legs are small. -/
def HSm (H : Hh) (l : List Lg) : Prop := LgOk l ∧ Small H.1 ∧ Small H.2.1 ∧ bnd H.2.2.1 ∧ bnd H.2.2.2 ∧ l.length ≤ 20
/-- A hire of a list: its fields, where its legs lie, its legs. -/
abbrev Hx := Hh × (Option Addr × Nat) × List Lg
def hxV (x : Hx) : Value := .slice x.2.1.1 x.2.2.length x.2.1.2
def hxC (x : Hx) : Array Value := hiC x.1 (hxV x)
theorem hxC_sz (x : Hx) : (hxC x).size = 5 := rfl
def hxE (x : Hx) : Int := hiE x.1 x.2.2
/-- The legs of all hires can be read. -/
def HxL (w : World) (L : List Hx) : Prop := ∀ x ∈ L, RdR w 9 lgC (hxV x) x.2.2
def HxR (w : World) (v : Value) (L : List Hx) : Prop := RdR w 5 hxC v L ∧ HxL w L
def HxOk (L : List Hx) : Prop := ∀ x ∈ L, HSm x.1 x.2.2
theorem HxL.quiet {w w' : World} {L : List Hx} (h : HxL w L) (hG : G w w' none) : HxL w' L := fun x hx => Rd.quiet (h x hx) hG
theorem HxR.quiet {w w' : World} {v : Value} {L : List Hx} (h : HxR w v L) (hG : G w w' none) : HxR w' v L := ⟨Rd.quiet h.1 hG, h.2.quiet hG⟩
/-- All that is read was made since. -/
def HxNew (N : Nat) (v : Value) (L : List Hx) : Prop := (∀ k, v.ownBlock = some k → N ≤ k) ∧ ∀ x ∈ L, ∀ k, (hxV x).ownBlock = some k → N ≤ k
theorem HxR.grown {w w' : World} {v : Value} {L : List Hx} {s N : Nat} (h : HxR w v L) (hn : HxNew N v L) (hs : s < N) (hG : G w w' (some s)) : HxR w' v L :=
  ⟨Rd.grown h.1 hG (fun k e hk => by cases e; have := hn.1 _ hk; omega), fun x hx => Rd.grown (h.2 x hx) hG (fun k e hk => by cases e; have := hn.2 x hx _ hk; omega)⟩
def hsE (b : ByteArray) : List Hx → Int
  | [] => 0
  | x :: r => if hxE x = 0 then (if leB x.1.1 b = true then 7 else hsE x.1.1 r) else hxE x
def haE (L : List Hx) : Int := if 500 < L.length then 2 else hsE ⟨#[]⟩ L
def HaRel (w : World) (L : List Hx) (v i : Value) (wr : World) : Prop :=
  ∃ (k : Nat) (b : ByteArray), k ≤ L.length ∧ i = .int .i64 k ∧ v = .string b ∧ hsE ⟨#[]⟩ L = hsE b (L.drop k) ∧ G w wr none
theorem hxRow {W w : World} {bb bo n cap : Nat} {l : List Hx} (h : RdR W 5 hxC (.slice (some ⟨bb, bo, none⟩) n cap) l) (hG : G W w none) {k : Nat} {p : Hx} (hp : l[k]? = some p) :
    ∀ j v, (hxC p).toList[j]? = some v → w.cell? ((⟨bb, bo + k * 5, none⟩ : Addr).add j) = some v := fun j v hv => by
  rw [add_at]
  exact RdR.cell hxC_sz h hG hp j v hv
set_option maxRecDepth 100000 in
set_option maxHeartbeats 4000000 in
theorem checkAll_c (v : Value) (l : List Hx) (w : World) (hr : HxR w v l) (hl : HxOk l) (hn : l.length ≤ 1000) :
    Calls Tryd.prog 43 #[v] w fun e w' => e = .returned (.int .i64 (haE l)) ∧ G w w' none := by
  obtain ⟨hr, hx⟩ := hr
  have HR := Lib.hid hr
  have HX := Lib.hid hx
  obtain ⟨a, cap, rfl, hcap, hm⟩ := RdR.form hr
  clear hr hx
  by_cases h30 : 500 < l.length
  · have H := Lib.hid (show haE l = 2 by simp [haE, h30])
    go_enter Tryd.func43, Tryd.ntmps43
    go_wp2_with fail
    go_ret
    exact ⟨by rw [H.out]; rfl, G.refl _ _⟩
  · have H := Lib.hid (show haE l = hsE ⟨#[]⟩ l by simp [haE, h30])
    go_enter Tryd.func43, Tryd.ntmps43
    go_wp2_with fail
    go_loopw [3, 12] (HaRel w l) (fun _ i _ => l.length - (intOf i).toNat)
    case atStart => exact ⟨0, ⟨#[]⟩, by omega, rfl, rfl, rfl, G.refl _ _⟩
    case round =>
      obtain ⟨k, b, hkl, rfl, rfl, heq, hG⟩ := hrel
      have HE := Lib.hid heq
      clear heq
      by_cases hk : k < l.length
      · obtain ⟨p, hp⟩ : ∃ p, l[k]? = some p := ⟨_, List.getElem?_eq_getElem hk⟩
        have hdrop : l.drop k = p :: l.drop (k + 1) := by rw [List.drop_eq_getElem_cons hk, ← (List.getElem?_eq_some_iff.1 hp).2]
        obtain ⟨q1, q2, q3, q4, q5, q6⟩ := hl p (List.mem_of_getElem? hp)
        have hL := Rd.quiet (HX.out p (List.mem_of_getElem? hp)) hG
        obtain ⟨bb, bo, rfl, -, -⟩ := RdR.elem hxC_sz HR.out hG hp
        have HW := Lib.hid (hxRow HR.out hG hp)
        have HS : Hid (hsE b (l.drop k) = if hxE p = 0 then (if leB p.1.1 b = true then 7 else hsE p.1.1 (l.drop (k + 1))) else hxE p) := Lib.hid (by rw [hdrop]; rfl)
        have HK := Lib.hid hk
        have hB5 : Bk (wr.alloc (.cells #[.string p.1.1, .string p.1.2.1, .int .i64 p.1.2.2.1, .int .i64 p.1.2.2.2, .slice p.2.1.1 p.2.2.length p.2.1.2] 33)) wr.heap.size 33 #[.string p.1.1, .string p.1.2.1, .int .i64 p.1.2.2.1, .int .i64 p.1.2.2.2, .slice p.2.1.1 p.2.2.length p.2.1.2] := Bk.new _ _ _
        have hG5 := hG.alloc (.cells #[.string p.1.1, .string p.1.2.1, .int .i64 p.1.2.2.1, .int .i64 p.1.2.2.2, .slice p.2.1.1 p.2.2.length p.2.1.2] 33)
        have hL5 := Rd.quiet hL ((G.refl wr none).alloc (.cells #[.string p.1.1, .string p.1.2.1, .int .i64 p.1.2.2.1, .int .i64 p.1.2.2.2, .slice p.2.1.1 p.2.2.length p.2.1.2] 33))
        clear hdrop hp hG hL
        go_upto_region 7 with (refine wpList_load_at rfl 33 _ rfl ⟨bb, bo + k * 5, none⟩ rfl #[.string p.1.1, .string p.1.2.1, .int .i64 p.1.2.2.1, .int .i64 p.1.2.2.2, .slice p.2.1.1 p.2.2.length p.2.1.2] _ HW.out Tryd.underlying33 rfl (hi_info p.1 (hxV p)) ?_)
        generalize wr.alloc (.cells #[.string p.1.1, .string p.1.2.1, .int .i64 p.1.2.2.1, .int .i64 p.1.2.2.2, .slice p.2.1.1 p.2.2.length p.2.1.2] 33) = w5 at hB5 hG5 hL5 ⊢
        generalize wr.heap.size = g at hB5 ⊢
        go_wp2_with (refine wpList_load_row rfl 33 _ rfl g rfl 33 #[.string p.1.1, .string p.1.2.1, .int .i64 p.1.2.2.1, .int .i64 p.1.2.2.2, .slice p.2.1.1 p.2.2.length p.2.1.2] (0, 0) _ hB5 Tryd.underlying33 rfl (hi_info p.1 (hxV p)) ?_)
        refine (check_c p.1 (hxV p) p.2.2 _ hL5 q1 q2 q3 q4 q5 (by omega)).mono ?_; rintro e w6 ⟨rfl, hGk⟩
        rw [show hiE p.1 p.2.2 = hxE p from rfl]
        have hB6 := hB5.quiet hGk
        have hG6 := hG5.trans hGk
        have c0 : w6.cell? ⟨g, 0, none⟩ = some (.string p.1.1) := hB6.cell 0
        clear hGk hB5 hG5 hL5 hB6
        generalize hxE p = E at HS ⊢
        by_cases hE : E = 0
        · have HS2 : Hid (hsE b (l.drop k) = if leB p.1.1 b = true then 7 else hsE p.1.1 (l.drop (k + 1))) := Lib.hid (by rw [HS.out, if_pos hE])
          subst hE
          clear HS
          cases hle : leB p.1.1 b with
          | true =>
            have HF : Hid (haE l = 7) := Lib.hid (by rw [H.out, HE.out, HS2.out, if_pos hle])
            unfold leB at hle
            go_wp2_with fail
            go_ret
            exact ⟨by rw [HF.out]; rfl, hG6⟩
          | false =>
            have HF : Hid (hsE ⟨#[]⟩ l = hsE p.1.1 (l.drop (k + 1))) := Lib.hid (by rw [HE.out, HS2.out, if_neg (by simp [hle])])
            unfold leB at hle
            go_wp2_with fail
            go_roundw
            case rel => exact ⟨k + 1, p.1.1, by omega, by go_num, rfl, HF.out, hG6⟩
            case measure => have := HK.out; simp [intOf]; omega
        · have HF : Hid (haE l = E) := Lib.hid (by rw [H.out, HE.out, HS.out, if_neg hE])
          have hE' : (E != 0) = true := by simpa using hE
          clear hE HS
          go_wp2_with fail
          go_ret
          exact ⟨by rw [HF.out]; rfl, hG6⟩
      · obtain rfl : k = l.length := by omega
        have HE2 : Hid (haE l = 0) := Lib.hid (by rw [H.out, HE.out, List.drop_length]; rfl)
        go_wp2_with fail
        go_ret
        exact ⟨by rw [HE2.out]; rfl, hG⟩
set_option maxRecDepth 100000 in
set_option maxHeartbeats 4000000 in
theorem hiresFault_c (v : Value) (l : List Hx) (w : World) (hr : HxR w v l) (hl : HxOk l) (hn : l.length ≤ 1000) :
    Calls Tryd.prog 36 #[v] w fun e w' => e = .returned (.int .i64 (haE l)) ∧ G w w' none := by
  obtain ⟨hr, hx⟩ := hr
  have HR := Lib.hid hr
  have HX := Lib.hid hx
  obtain ⟨a, cap, rfl, hcap, hm⟩ := RdR.form hr
  clear hr hx
  by_cases h30 : 500 < l.length
  · have H := Lib.hid (show haE l = 2 by simp [haE, h30])
    go_enter Tryd.func36, Tryd.ntmps36
    go_wp2_with fail
    go_ret
    exact ⟨by rw [H.out]; rfl, G.refl _ _⟩
  · have H := Lib.hid (show haE l = hsE ⟨#[]⟩ l by simp [haE, h30])
    go_enter Tryd.func36, Tryd.ntmps36
    go_wp2_with fail
    go_loopw [3, 12] (HaRel w l) (fun _ i _ => l.length - (intOf i).toNat)
    case atStart => exact ⟨0, ⟨#[]⟩, by omega, rfl, rfl, rfl, G.refl _ _⟩
    case round =>
      obtain ⟨k, b, hkl, rfl, rfl, heq, hG⟩ := hrel
      have HE := Lib.hid heq
      clear heq
      by_cases hk : k < l.length
      · obtain ⟨p, hp⟩ : ∃ p, l[k]? = some p := ⟨_, List.getElem?_eq_getElem hk⟩
        have hdrop : l.drop k = p :: l.drop (k + 1) := by rw [List.drop_eq_getElem_cons hk, ← (List.getElem?_eq_some_iff.1 hp).2]
        obtain ⟨q1, q2, q3, q4, q5, q6⟩ := hl p (List.mem_of_getElem? hp)
        have hL := Rd.quiet (HX.out p (List.mem_of_getElem? hp)) hG
        obtain ⟨bb, bo, rfl, -, -⟩ := RdR.elem hxC_sz HR.out hG hp
        have HW := Lib.hid (hxRow HR.out hG hp)
        have HS : Hid (hsE b (l.drop k) = if hxE p = 0 then (if leB p.1.1 b = true then 7 else hsE p.1.1 (l.drop (k + 1))) else hxE p) := Lib.hid (by rw [hdrop]; rfl)
        have HK := Lib.hid hk
        have hB5 : Bk (wr.alloc (.cells #[.string p.1.1, .string p.1.2.1, .int .i64 p.1.2.2.1, .int .i64 p.1.2.2.2, .slice p.2.1.1 p.2.2.length p.2.1.2] 33)) wr.heap.size 33 #[.string p.1.1, .string p.1.2.1, .int .i64 p.1.2.2.1, .int .i64 p.1.2.2.2, .slice p.2.1.1 p.2.2.length p.2.1.2] := Bk.new _ _ _
        have hG5 := hG.alloc (.cells #[.string p.1.1, .string p.1.2.1, .int .i64 p.1.2.2.1, .int .i64 p.1.2.2.2, .slice p.2.1.1 p.2.2.length p.2.1.2] 33)
        have hL5 := Rd.quiet hL ((G.refl wr none).alloc (.cells #[.string p.1.1, .string p.1.2.1, .int .i64 p.1.2.2.1, .int .i64 p.1.2.2.2, .slice p.2.1.1 p.2.2.length p.2.1.2] 33))
        clear hdrop hp hG hL
        go_upto_region 7 with (refine wpList_load_at rfl 33 _ rfl ⟨bb, bo + k * 5, none⟩ rfl #[.string p.1.1, .string p.1.2.1, .int .i64 p.1.2.2.1, .int .i64 p.1.2.2.2, .slice p.2.1.1 p.2.2.length p.2.1.2] _ HW.out Tryd.underlying33 rfl (hi_info p.1 (hxV p)) ?_)
        generalize wr.alloc (.cells #[.string p.1.1, .string p.1.2.1, .int .i64 p.1.2.2.1, .int .i64 p.1.2.2.2, .slice p.2.1.1 p.2.2.length p.2.1.2] 33) = w5 at hB5 hG5 hL5 ⊢
        generalize wr.heap.size = g at hB5 ⊢
        go_wp2_with (refine wpList_load_row rfl 33 _ rfl g rfl 33 #[.string p.1.1, .string p.1.2.1, .int .i64 p.1.2.2.1, .int .i64 p.1.2.2.2, .slice p.2.1.1 p.2.2.length p.2.1.2] (0, 0) _ hB5 Tryd.underlying33 rfl (hi_info p.1 (hxV p)) ?_)
        refine (hireFault_c p.1 (hxV p) p.2.2 _ hL5 q1 q2 q3 q4 q5 (by omega)).mono ?_; rintro e w6 ⟨rfl, hGk⟩
        rw [show hiE p.1 p.2.2 = hxE p from rfl]
        have hB6 := hB5.quiet hGk
        have hG6 := hG5.trans hGk
        have c0 : w6.cell? ⟨g, 0, none⟩ = some (.string p.1.1) := hB6.cell 0
        clear hGk hB5 hG5 hL5 hB6
        generalize hxE p = E at HS ⊢
        by_cases hE : E = 0
        · have HS2 : Hid (hsE b (l.drop k) = if leB p.1.1 b = true then 7 else hsE p.1.1 (l.drop (k + 1))) := Lib.hid (by rw [HS.out, if_pos hE])
          subst hE
          clear HS
          cases hle : leB p.1.1 b with
          | true =>
            have HF : Hid (haE l = 7) := Lib.hid (by rw [H.out, HE.out, HS2.out, if_pos hle])
            unfold leB at hle
            go_wp2_with fail
            go_ret
            exact ⟨by rw [HF.out]; rfl, hG6⟩
          | false =>
            have HF : Hid (hsE ⟨#[]⟩ l = hsE p.1.1 (l.drop (k + 1))) := Lib.hid (by rw [HE.out, HS2.out, if_neg (by simp [hle])])
            unfold leB at hle
            go_wp2_with fail
            go_roundw
            case rel => exact ⟨k + 1, p.1.1, by omega, by go_num, rfl, HF.out, hG6⟩
            case measure => have := HK.out; simp [intOf]; omega
        · have HF : Hid (haE l = E) := Lib.hid (by rw [H.out, HE.out, HS.out, if_neg hE])
          have hE' : (E != 0) = true := by simpa using hE
          clear hE HS
          go_wp2_with fail
          go_ret
          exact ⟨by rw [HF.out]; rfl, hG6⟩
      · obtain rfl : k = l.length := by omega
        have HE2 : Hid (haE l = 0) := Lib.hid (by rw [H.out, HE.out, List.drop_length]; rfl)
        go_wp2_with fail
        go_ret
        exact ⟨by rw [HE2.out]; rfl, hG⟩
end Go.Proofs.YtdcofbciebkfkaaDoor

/- Generator: Hire. Written by genghi.py. -/
namespace Go.Proofs.YtdcofbciebkfkaaDoor
open Go.RowKit

def HirePost (s K : Nat) (w : World) (e : Ending) (w' : World) : Prop :=
  ∃ (H : Hh) (l : List Lg) (a : Option Addr) (c : Nat), e = .returned (.agg (hiC H (.slice a l.length c))) ∧ HSm H l ∧ RdR w' 9 lgC (.slice a l.length c) l ∧ (∀ k, (Value.slice a l.length c).ownBlock = some k → w.heap.size ≤ k) ∧ SB w' s (K + 740) ∧ G w w' (some s)
theorem hi_fin_len {w w3 : World} {s K K' n : Nat} {H : Hh} {l : List Lg} {a : Option Addr} {c : Nat} (hn : l.length = n) (hok : HSm H l) (hR : RdR w3 9 lgC (.slice a n c) l) (hb : ∀ k, (Value.slice a n c).ownBlock = some k → w.heap.size + 1 ≤ k) (hSB : SB w3 s K') (hK : K' ≤ K + 740) (hG : G w w3 (some s)) (hs : s < w.heap.size) :
    HirePost s K w (.returned (.agg (hiC H (.slice a n c)))) (w3.setRow w.heap.size (hiC H (.slice a n c))) := by
  subst hn
  exact ⟨H, l, a, c, rfl, hok, Rd.grown hR ((G.refl w3 (some w.heap.size)).setRow (.inr rfl) _) (fun k e hk => by cases e; have := hb _ hk; omega), fun k e => by have := hb k e; omega, (hSB.setRow hs _).le hK, hG.setRow (.inl (Nat.le_refl _)) _⟩
theorem hi_fin {w w3 : World} {s K K' : Nat} {H : Hh} {l : List Lg} {a : Option Addr} {c : Nat} (hok : HSm H l) (hR : RdR w3 9 lgC (.slice a l.length c) l) (hb : ∀ k, (Value.slice a l.length c).ownBlock = some k → w.heap.size + 1 ≤ k) (hSB : SB w3 s K') (hK : K' ≤ K + 740) (hG : G w w3 (some s)) (hs : s < w.heap.size) :
    HirePost s K w (.returned (.agg (hiC H (.slice a l.length c)))) (w3.setRow w.heap.size (hiC H (.slice a l.length c))) := hi_fin_len rfl hok hR hb hSB hK hG hs
theorem inR_pos {n r : Int} (h : InR n r) (hn : 0 < n) : 0 ≤ r ∧ r < n := by
  unfold InR at h
  omega
theorem LgOk.set {l : List Lg} (h : LgOk l) {x : Lg} (hx : lgB x) (k : Nat) : LgOk (l.set k x) := fun y hy => by
  rcases List.mem_or_eq_of_mem_set hy with hy | rfl
  · exact h y hy
  · exact hx
theorem there_any {α : Type} {T : TypeId} {z : Nat} {c : α → Array Value} (hz : ∀ p, (c p).size = z) {w : World} {base g1 cap k : Nat} {l : List α} {p : α} (h : OwnX T z c w base (.slice (some ⟨g1, 0, none⟩) l.length cap) l) (hp : l[k]? = some p) :
    ∀ j, j < z → (w.cell? ⟨g1, 0 + k * z + j, none⟩).isSome = true ∧ w.frozen? ⟨g1, 0 + k * z + j, none⟩ = false := by
  intro j hj
  obtain ⟨g, cap', cur, e, hB, -⟩ := OwnX.form h (by have := (List.getElem?_eq_some_iff.1 hp).1; omega)
  cases e
  refine ⟨?_, hB.free _⟩
  obtain ⟨u, hu⟩ : ∃ u, (c p).toList[j]? = some u := ⟨_, List.getElem?_eq_getElem (by rw [Array.length_toList, hz]; exact hj)⟩
  rw [RdR.cell hz (Rd.of_owns h) (G.refl w none) hp j u hu]
  rfl
theorem own_setIn {w : World} {base g1 cap k : Nat} {l : List Lg} {p : Lg} (h : OwnLg w base (.slice (some ⟨g1, 0, none⟩) l.length cap) l) (hp : l[k]? = some p) (r : Rg) :
    w.setCells g1 (k * 9 + 5) (#[.int .i64 r.1, .string r.2.1, .int .i64 r.2.2.1, .int .i64 r.2.2.2] : Array Value).toList |>.ownsRow base 79 9 (.slice (some ⟨g1, 0, none⟩) l.length cap) (l.set k (p.1, p.2.1, r)).length (rowL lgC (l.set k (p.1, p.2.1, r))) := by
  have hk := (List.getElem?_eq_some_iff.1 hp).1
  rw [List.length_set]
  have hs : ∀ q : Lg, (l.set k q)[k]? = some q := fun q => by rw [List.getElem?_set_self hk]
  have h1 := OwnX.set lgC_sz h hp 5 (.int .i64 r.1) (by omega) (q := (p.1, p.2.1, (r.1, p.2.2.2))) rfl
  have h2 := OwnX.set lgC_sz h1 (hs _) 6 (.string r.2.1) (by omega) (q := (p.1, p.2.1, (r.1, r.2.1, p.2.2.2.2))) rfl
  rw [List.set_set] at h2
  have h3 := OwnX.set lgC_sz h2 (hs _) 7 (.int .i64 r.2.2.1) (by omega) (q := (p.1, p.2.1, (r.1, r.2.1, r.2.2.1, p.2.2.2.2.2))) rfl
  rw [List.set_set] at h3
  have h4 := OwnX.set lgC_sz h3 (hs _) 8 (.int .i64 r.2.2.2) (by omega) (q := (p.1, p.2.1, r)) rfl
  rw [List.set_set] at h4
  exact h4
set_option maxRecDepth 100000 in
set_option maxHeartbeats 20000000 in
theorem hire_c (w : World) (s K : Nat) (hs : SB w s K) (hk : K ≤ 700000000000) :
    Calls Tryd.prog 11 #[.pointer (some ⟨s, 0, none⟩)] w (HirePost s K w) := by
  have hslt := hs.lt
  go_enter Tryd.func11, Tryd.ntmps11
  go_wp2_with fail
  refine (pick_c _ _ _ [0, 100, 1440] _ _ K ((hs.alloc _).alloc _) (by omega) (by decide) (by decide) (Rd.newAt _ (by simp) rfl (by decide)) (hs.newAt _ _ _ (by simp))).mono ?_; rintro e w1 ⟨f, rfl, hp, hSB1, hG1⟩
  have hfb : 0 ≤ f ∧ f ≤ 1440 := by simp only [List.mem_cons, List.mem_nil_iff, or_false] at hp; omega
  have hB1 := ((Bk.new w 33 HIZ).alloc (.cells _ 3)).grown hG1 (by simp; omega)
  have hG01 : G w w1 (some s) := (((G.refl w (some s)).alloc _).alloc _).trans hG1
  clear hG1 hp hs
  go_wp2_with fail
  refine (rightHire_c ⟨#[104, 49]⟩ f _ s _ (by decide +kernel) (small_of (by decide)) hfb.1 (by omega) hSB1 (by omega)).mono ?_; rintro e w2 ⟨H, l, a8, c8, rfl, hok, hR2, hb2, hSB2, hG2⟩
  have HOK := Lib.hid hok
  have hs2 := hSB2.lt
  have hw1 := hB1.lt
  have hB2 := hB1.grown hG2 (fun e => by have := Option.some.inj e; omega)
  have hw2 := hB2.lt
  have hG02 := hG01.trans hG2
  have HB2 := Lib.hid hb2
  rw [show hiC H (.slice a8 l.length c8) = #[.string H.1, .string H.2.1, .int .i64 H.2.2.1, .int .i64 H.2.2.2, .slice a8 l.length c8] from rfl]
  have hq := (G.refl w2 none).alloc (.cells #[.string H.1, .string H.2.1, .int .i64 H.2.2.1, .int .i64 H.2.2.2, .slice a8 l.length c8] 33)
  have hP := Bk.new w2 33 #[.string H.1, .string H.2.1, .int .i64 H.2.2.1, .int .i64 H.2.2.2, .slice a8 l.length c8]
  have hSB3 := hSB2.quiet hq
  have hB := hB2.quiet hq
  have hG := hG02.trans0 hq
  have hR := Rd.quiet hR2 hq
  clear hb2 hB1 hG01 hSB1 hG2 hSB2 hB2 hG02 hR2 hok hq
  go_upto_region 2 with fail
  generalize w2.alloc (.cells #[.string H.1, .string H.2.1, .int .i64 H.2.2.1, .int .i64 H.2.2.2, .slice a8 l.length c8] 33) = w3 at hP hSB3 hB hG hR ⊢
  have hs3 : s < w2.heap.size := hs2
  have hg3 : w.heap.size < w2.heap.size := hw2
  generalize w2.heap.size = g3 at hP hs3 hg3 ⊢
  clear hs2 hw2
  go_wp2_with fail
  refine (flip_c _ _ _ _ hSB3 (by omega) (by omega)).mono ?_; rintro e w4 ⟨q, rfl, hSB4, hh⟩
  replace hP := hP.grown hh (fun e => by have := Option.some.inj e; omega)
  replace hB := hB.grown hh (fun e => by have := Option.some.inj e; omega)
  replace hR := Rd.grown hR hh (fun k e hk => by cases e; have := HB2.out _ hk; omega)
  replace hG := hG.trans hh
  clear hh hSB3
  cases q with
  | false =>
    have hSB := hSB4
    go_wp2_with (first | (refine wpList_load_row rfl 33 _ rfl (g3) rfl 33 #[.string H.1, .string H.2.1, .int .i64 H.2.2.1, .int .i64 H.2.2.2, .slice a8 l.length c8] (0, 0) _ hP Tryd.underlying33 rfl (hi_info (H.1, H.2.1, H.2.2.1, H.2.2.2) _) ?_) | (refine wpList_store_row rfl 33 _ _ rfl (w.heap.size) #[.string H.1, .string H.2.1, .int .i64 H.2.2.1, .int .i64 H.2.2.2, .slice a8 l.length c8] rfl rfl 33 _ hB (hi_info (H.1, H.2.1, H.2.2.1, H.2.2.2) _) rfl (hi_one (H.1, H.2.1, H.2.2.1, H.2.2.2) _ _ _) ?_))
    refine bodyPost_ret (results_cell_row rfl _ _ w.heap.size 33 #[.string H.1, .string H.2.1, .int .i64 H.2.2.1, .int .i64 H.2.2.2, .slice a8 l.length c8] (0, 0) _ rfl (hB.setRow _) Tryd.underlying33 rfl (hi_info (H.1, H.2.1, H.2.2.1, H.2.2.2) _)) rfl ?_
    exact hi_fin (H := (H.1, H.2.1, H.2.2.1, H.2.2.2)) (l := l) ⟨HOK.out.2.1, HOK.out.2.2.1, HOK.out.2.2.2.1, HOK.out.2.2.2.2.1, HOK.out.2.2.2.2.2, HOK.out.len.2⟩ hR (fun k e => by have := HB2.out k e; omega) hSB (by omega) hG hslt
  | true =>
    have c4 : w4.cell? ⟨g3, 4, none⟩ = some (.slice a8 l.length c8) := hP.cell 4
    go_wp2_with fail
    refine (cloneLg_c _ l _ hR (by have := HOK.out.len.2; omega)).mono ?_; rintro e w5 ⟨v1, rfl, hO, hh⟩
    obtain ⟨g1, cap1, cur, rfl, -, hg1⟩ := OwnX.form hO HOK.out.len.1
    have hb3 := hP.lt
    have hsb := hSB4.lt
    have hwb := hB.lt
    replace hP := hP.quiet hh
    replace hB := hB.quiet hh
    replace hG := hG.trans0 hh
    have hSB5 := hSB4.quiet hh
    clear hh hR c4 hSB4
    generalize w4.heap.size = b3 at hO hg1 hb3 hsb hwb
    have f4 := hP.free 4
    have c4 : w5.cell? ⟨g3, 4, none⟩ = some (.slice a8 l.length c8) := hP.cell 4
    go_upto_region 5 with fail
    replace hP : Bk (w5.setCell ⟨g3, 4, none⟩ (.slice (some ⟨g1, 0, none⟩) l.length cap1)) g3 33 #[.string H.1, .string H.2.1, .int .i64 H.2.2.1, .int .i64 H.2.2.2, .slice (some ⟨g1, 0, none⟩) l.length cap1] := hP.set 4 _
    replace hO := OwnX.far hO (p := ⟨g3, 4, none⟩) (OwnX.ne hO (.inl (by show g3 < b3; omega))) (.slice (some ⟨g1, 0, none⟩) l.length cap1)
    replace hB := hB.far (p := ⟨g3, 4, none⟩) (show w.heap.size ≠ g3 by omega) (.slice (some ⟨g1, 0, none⟩) l.length cap1)
    have hSB6 := hSB5.setCell (p := ⟨g3, 4, none⟩) hs3 (.slice (some ⟨g1, 0, none⟩) l.length cap1)
    replace hG := hG.setCell (p := ⟨g3, 4, none⟩) (.inl (show w.heap.size ≤ g3 by omega)) (.slice (some ⟨g1, 0, none⟩) l.length cap1)
    clear f4 c4 hSB5
    generalize w5.setCell ⟨g3, 4, none⟩ (.slice (some ⟨g1, 0, none⟩) l.length cap1) = w6 at hP hO hB hSB6 hG ⊢
    go_wp2_with fail
    refine (next_c 6 _ s _ hSB6 (by omega) (by omega)).mono ?_; rintro e w7 ⟨r, rfl, hr, hSB7, hh⟩
    replace hP := hP.grown hh (fun e => by have := Option.some.inj e; omega)
    replace hB := hB.grown hh (fun e => by have := Option.some.inj e; omega)
    replace hO := OwnX.kept hO hh (by omega)
    replace hG := hG.trans hh
    have hr2 := inR_pos hr (by omega)
    clear hh hSB6 hr
    rcases (show r = 0 ∨ r = 1 ∨ r = 2 ∨ r = 3 ∨ r = 4 ∨ r = 5 by omega) with rfl | rfl | rfl | rfl | rfl | rfl
    · clear hr2
      go_wp2_with fail
      refine (some_c _ _ _ [⟨#[104, 49]⟩, ⟨#[]⟩, ⟨#[65]⟩] _ _ _ (hSB7.alloc _) (by omega) (by decide) (by decide) (Rd.newAt _ rfl rfl (by decide)) (hSB7.newAt _ _ _ (Nat.le_refl _))).mono ?_; rintro e w8 ⟨x1, rfl, hp, hSB8, hh⟩
      have HX1 := Lib.hid (small_pick hp (by decide))
      clear hp
      have hq := ((G.refl w7 (some s)).alloc (.cells _ 9)).trans hh
      replace hP := hP.grown hq (fun e => by have := Option.some.inj e; omega)
      replace hB := hB.grown hq (fun e => by have := Option.some.inj e; omega)
      replace hO := OwnX.kept hO hq (by omega)
      replace hG := hG.trans hq
      clear hh hq
      go_wp2_with fail
      refine (some_c _ _ _ [⟨#[97, 110, 110]⟩, ⟨#[]⟩] _ _ _ (hSB8.alloc _) (by omega) (by decide) (by decide) (Rd.newAt _ rfl rfl (by decide)) (hSB8.newAt _ _ _ (Nat.le_refl _))).mono ?_; rintro e w9 ⟨x2, rfl, hp, hSB, hh⟩
      have HX2 := Lib.hid (small_pick hp (by decide))
      clear hp
      have hq := ((G.refl w8 (some s)).alloc (.cells _ 9)).trans hh
      replace hP := hP.grown hq (fun e => by have := Option.some.inj e; omega)
      replace hB := hB.grown hq (fun e => by have := Option.some.inj e; omega)
      replace hO := OwnX.kept hO hq (by omega)
      replace hG := hG.trans hq
      clear hh hq
      have hs9 := hSB.lt
      have f0 := hP.free 0
      have f1 := hP.free 1
      have y0 : w9.cell? ⟨g3, 0, none⟩ = some (.string H.1) := hP.cell 0
      have y1 : w9.cell? ⟨g3, 1, none⟩ = some (.string H.2.1) := hP.cell 1
      go_upto_region 20 with fail
      replace hP : Bk ((w9.setCell ⟨g3, 0, none⟩ (.string x1)).setCell ⟨g3, 1, none⟩ (.string x2)) g3 33 #[.string x1, .string x2, .int .i64 H.2.2.1, .int .i64 H.2.2.2, .slice (some ⟨g1, 0, none⟩) l.length cap1] := (hP.set 0 (.string x1)).set 1 (.string x2)
      replace hO := OwnX.far (OwnX.far hO (p := ⟨g3, 0, none⟩) (OwnX.ne hO (.inl (by show g3 < b3; omega))) (.string x1)) (p := ⟨g3, 1, none⟩) (OwnX.ne (OwnX.far hO (p := ⟨g3, 0, none⟩) (OwnX.ne hO (.inl (by show g3 < b3; omega))) (.string x1)) (.inl (by show g3 < b3; omega))) (.string x2)
      replace hB := (hB.far (p := ⟨g3, 0, none⟩) (show w.heap.size ≠ g3 by omega) (.string x1)).far (p := ⟨g3, 1, none⟩) (show w.heap.size ≠ g3 by omega) (.string x2)
      replace hSB := (hSB.setCell (p := ⟨g3, 0, none⟩) hs3 (.string x1)).setCell (p := ⟨g3, 1, none⟩) hs3 (.string x2)
      replace hG := (hG.setCell (p := ⟨g3, 0, none⟩) (.inl (show w.heap.size ≤ g3 by omega)) (.string x1)).setCell (p := ⟨g3, 1, none⟩) (.inl (show w.heap.size ≤ g3 by omega)) (.string x2)
      clear y0 y1 f0 f1
      generalize (w9.setCell ⟨g3, 0, none⟩ (.string x1)).setCell ⟨g3, 1, none⟩ (.string x2) = wz at hP hO hB hSB hG ⊢
      go_wp2_with (first | (refine wpList_load_row rfl 33 _ rfl (g3) rfl 33 #[.string x1, .string x2, .int .i64 H.2.2.1, .int .i64 H.2.2.2, .slice (some ⟨g1, 0, none⟩) l.length cap1] (0, 0) _ hP Tryd.underlying33 rfl (hi_info (x1, x2, H.2.2.1, H.2.2.2) _) ?_) | (refine wpList_store_row rfl 33 _ _ rfl (w.heap.size) #[.string x1, .string x2, .int .i64 H.2.2.1, .int .i64 H.2.2.2, .slice (some ⟨g1, 0, none⟩) l.length cap1] rfl rfl 33 _ hB (hi_info (x1, x2, H.2.2.1, H.2.2.2) _) rfl (hi_one (x1, x2, H.2.2.1, H.2.2.2) _ _ _) ?_))
      refine bodyPost_ret (results_cell_row rfl _ _ w.heap.size 33 #[.string x1, .string x2, .int .i64 H.2.2.1, .int .i64 H.2.2.2, .slice (some ⟨g1, 0, none⟩) l.length cap1] (0, 0) _ rfl (hB.setRow _) Tryd.underlying33 rfl (hi_info (x1, x2, H.2.2.1, H.2.2.2) _)) rfl ?_
      exact hi_fin (H := (x1, x2, H.2.2.1, H.2.2.2)) (l := l) ⟨HOK.out.2.1, HX1.out, HX2.out, HOK.out.2.2.2.2.1, HOK.out.2.2.2.2.2, HOK.out.len.2⟩ (Rd.of_owns hO) (fun k e => by have := OwnX.low hO k e; omega) hSB (by omega) hG hslt
    · clear hr2
      go_wp2_with fail
      refine (time_c _ s _ hSB7 (by omega)).mono ?_; rintro e w8 ⟨z1, z2, rfl, hz1, hz2, hSB, hh⟩
      have HZ := Lib.hid (And.intro hz1 hz2)
      clear hz1 hz2
      replace hP := hP.grown hh (fun e => by have := Option.some.inj e; omega)
      replace hB := hB.grown hh (fun e => by have := Option.some.inj e; omega)
      replace hO := OwnX.kept hO hh (by omega)
      replace hG := hG.trans hh
      clear hh
      have f2 := hP.free 2
      have f3 := hP.free 3
      have y2 : w8.cell? ⟨g3, 2, none⟩ = some (.int .i64 H.2.2.1) := hP.cell 2
      have y3 : w8.cell? ⟨g3, 3, none⟩ = some (.int .i64 H.2.2.2) := hP.cell 3
      go_upto_region 20 with fail
      have hq : G w8 ((w8.setCell ⟨g3, 2, none⟩ (.int .i64 z1)).setCell ⟨g3, 3, none⟩ (.int .i64 z2)) (some g3) := G.setCells g3 [.int .i64 z1, .int .i64 z2] 2 w8
      replace hP : Bk ((w8.setCell ⟨g3, 2, none⟩ (.int .i64 z1)).setCell ⟨g3, 3, none⟩ (.int .i64 z2)) g3 33 #[.string H.1, .string H.2.1, .int .i64 z1, .int .i64 z2, .slice (some ⟨g1, 0, none⟩) l.length cap1] := (hP.set 2 (.int .i64 z1)).set 3 (.int .i64 z2)
      replace hO := World.ownsRow.kept hO hq (.inr fun e => by have := (World.ownsRow.lt hO g3 e).1; omega)
      replace hB := hB.grown hq (fun e => by have := Option.some.inj e; omega)
      replace hSB := hSB.far hq (by omega)
      replace hG := hG.other hq (fun j e => by cases e; exact .inl (by omega))
      clear hq f2 f3 y2 y3
      generalize (w8.setCell ⟨g3, 2, none⟩ (.int .i64 z1)).setCell ⟨g3, 3, none⟩ (.int .i64 z2) = wz at hP hO hB hSB hG ⊢
      go_wp2_with (first | (refine wpList_load_row rfl 33 _ rfl (g3) rfl 33 #[.string H.1, .string H.2.1, .int .i64 z1, .int .i64 z2, .slice (some ⟨g1, 0, none⟩) l.length cap1] (0, 0) _ hP Tryd.underlying33 rfl (hi_info (H.1, H.2.1, z1, z2) _) ?_) | (refine wpList_store_row rfl 33 _ _ rfl (w.heap.size) #[.string H.1, .string H.2.1, .int .i64 z1, .int .i64 z2, .slice (some ⟨g1, 0, none⟩) l.length cap1] rfl rfl 33 _ hB (hi_info (H.1, H.2.1, z1, z2) _) rfl (hi_one (H.1, H.2.1, z1, z2) _ _ _) ?_))
      refine bodyPost_ret (results_cell_row rfl _ _ w.heap.size 33 #[.string H.1, .string H.2.1, .int .i64 z1, .int .i64 z2, .slice (some ⟨g1, 0, none⟩) l.length cap1] (0, 0) _ rfl (hB.setRow _) Tryd.underlying33 rfl (hi_info (H.1, H.2.1, z1, z2) _)) rfl ?_
      exact hi_fin (H := (H.1, H.2.1, z1, z2)) (l := l) ⟨HOK.out.2.1, HOK.out.2.2.1, HOK.out.2.2.2.1, HZ.out.1, HZ.out.2, HOK.out.len.2⟩ (Rd.of_owns hO) (fun k e => by have := OwnX.low hO k e; omega) hSB (by omega) hG hslt
    · clear hr2
      have hSB := hSB7
      have f4 := hP.free 4
      have y4 : w7.cell? ⟨g3, 4, none⟩ = some (.slice (some ⟨g1, 0, none⟩) l.length cap1) := hP.cell 4
      go_upto_region 20 with fail
      replace hP : Bk (w7.setCell ⟨g3, 4, none⟩ (.slice none 0 0)) g3 33 #[.string H.1, .string H.2.1, .int .i64 H.2.2.1, .int .i64 H.2.2.2, .slice none 0 0] := hP.set 4 (.slice none 0 0)
      replace hB := hB.far (p := ⟨g3, 4, none⟩) (show w.heap.size ≠ g3 by omega) (.slice none 0 0)
      replace hSB := hSB.setCell (p := ⟨g3, 4, none⟩) hs3 (.slice none 0 0)
      replace hG := hG.setCell (p := ⟨g3, 4, none⟩) (.inl (show w.heap.size ≤ g3 by omega)) (.slice none 0 0)
      clear y4 f4 hSB7 hO
      generalize w7.setCell ⟨g3, 4, none⟩ (.slice none 0 0) = wz at hP hB hSB hG ⊢
      go_wp2_with (first | (refine wpList_load_row rfl 33 _ rfl (g3) rfl 33 #[.string H.1, .string H.2.1, .int .i64 H.2.2.1, .int .i64 H.2.2.2, .slice none 0 0] (0, 0) _ hP Tryd.underlying33 rfl (hi_info (H.1, H.2.1, H.2.2.1, H.2.2.2) _) ?_) | (refine wpList_store_row rfl 33 _ _ rfl (w.heap.size) #[.string H.1, .string H.2.1, .int .i64 H.2.2.1, .int .i64 H.2.2.2, .slice none 0 0] rfl rfl 33 _ hB (hi_info (H.1, H.2.1, H.2.2.1, H.2.2.2) _) rfl (hi_one (H.1, H.2.1, H.2.2.1, H.2.2.2) _ _ _) ?_))
      refine bodyPost_ret (results_cell_row rfl _ _ w.heap.size 33 #[.string H.1, .string H.2.1, .int .i64 H.2.2.1, .int .i64 H.2.2.2, .slice none 0 0] (0, 0) _ rfl (hB.setRow _) Tryd.underlying33 rfl (hi_info (H.1, H.2.1, H.2.2.1, H.2.2.2) _)) rfl ?_
      exact hi_fin (H := (H.1, H.2.1, H.2.2.1, H.2.2.2)) (l := []) ⟨(fun x hx => by cases hx), HOK.out.2.2.1, HOK.out.2.2.2.1, HOK.out.2.2.2.2.1, HOK.out.2.2.2.2.2, by simp⟩ (RdR.nil _ _ _) (fun k e => by cases e) hSB (by omega) hG hslt
    · clear hr2
      go_upto_region 15 with fail
      have hq := (G.refl w7 none).drew
      have hSB8 := hSB7.quiet hq
      replace hP := hP.quiet hq
      replace hB := hB.quiet hq
      replace hO := OwnX.quiet hO hq
      replace hG := hG.trans0 hq
      clear hq hSB7
      refine wp_region_held_drew (S := (fun w' => w'.cell? ⟨g3, 4, none⟩ = some (.slice (some ⟨g1, 0, none⟩) l.length cap1))) (by kernel_rfl) ?_ (fun hHeld => ?_)
      · exact hP.cell 4
      refine wpAnyH_take (i := 0) (oi := { dst := some 57, op := Op.fieldAddr 33 (Operand.tmp 3) 3, type := 0, pos := _, after := #[], guard := none }) (v := ?_) rfl (by kernel_rfl) (by kernel_rfl) (by kernel_rfl) (fun _ _ _ h => h) (Or.inl ⟨by rfl, ?_⟩) (by assumption) ?_
      rotate_left
      · (intro w hSw; (go_simp <;> with_reducible rfl))
      try simp only [Act.put, List.setIfInBounds_toArray, List.set_cons_zero, List.set_cons_succ]
      refine wpAnyH_take (i := 1) (oi := { dst := some 58, op := Op.load 31 (Operand.tmp 57), type := 31, pos := _, after := #[{ on := 0, ground := Ground.data }], guard := none }) (v := ?_) rfl (by kernel_rfl) (by kernel_rfl) (by kernel_rfl) (fun _ _ _ h => h) (Or.inl ⟨by rfl, ?_⟩) (by assumption) ?_
      rotate_left
      · (intro w hSw; (go_simp <;> with_reducible rfl))
      try simp only [Act.put, List.setIfInBounds_toArray, List.set_cons_zero, List.set_cons_succ]
      refine wpAnyH_take (i := 2) (oi := { dst := some 59, op := Op.move (Operand.tmp 0), type := 23, pos := _, after := #[], guard := none }) (v := ?_) rfl (by kernel_rfl) (by kernel_rfl) (by kernel_rfl) (fun _ _ _ h => h) (Or.inl ⟨by rfl, ?_⟩) (by assumption) ?_
      rotate_left
      · (intro w hSw; (go_simp <;> with_reducible rfl))
      try simp only [Act.put, List.setIfInBounds_toArray, List.set_cons_zero, List.set_cons_succ]
      refine wpAnyH_take (i := 3) (oi := { dst := some 60, op := Op.fieldAddr 33 (Operand.tmp 3) 3, type := 0, pos := _, after := #[], guard := none }) (v := ?_) rfl (by kernel_rfl) (by kernel_rfl) (by kernel_rfl) (fun _ _ _ h => h) (Or.inl ⟨by rfl, ?_⟩) (by assumption) ?_
      rotate_left
      · (intro w hSw; (go_simp <;> with_reducible rfl))
      try simp only [Act.put, List.setIfInBounds_toArray, List.set_cons_zero, List.set_cons_succ]
      refine wpAnyH_take (i := 4) (oi := { dst := some 61, op := Op.load 31 (Operand.tmp 60), type := 31, pos := _, after := #[{ on := 3, ground := Ground.data }], guard := none }) (v := ?_) rfl (by kernel_rfl) (by kernel_rfl) (by kernel_rfl) (fun _ _ _ h => h) (Or.inl ⟨by rfl, ?_⟩) (by assumption) ?_
      rotate_left
      · (intro w hSw; (go_simp <;> with_reducible rfl))
      try simp only [Act.put, List.setIfInBounds_toArray, List.set_cons_zero, List.set_cons_succ]
      refine wpAnyH_take (i := 5) (oi := { dst := some 62, op := Op.call { callee := Callee.builtin Builtin.len, args := #[Operand.tmp 61], argTypes := #[31] }, type := 3, pos := _, after := #[{ on := 4, ground := Ground.data }], guard := none }) (v := ?_) rfl (by kernel_rfl) (by kernel_rfl) (by kernel_rfl) (fun _ _ _ h => h) (Or.inl ⟨by rfl, ?_⟩) (by assumption) ?_
      rotate_left
      · (intro w hSw; (go_simp <;> with_reducible rfl))
      try simp only [Act.put, List.setIfInBounds_toArray, List.set_cons_zero, List.set_cons_succ]
      refine wpAnyH_ready (rs := [6]) (by kernel_rfl) (by simp) ?_
      refine AllReadyH.cons (o := { dst := some 63, op := Op.call { callee := Callee.value (Operand.func 81), args := #[Operand.tmp 59, Operand.tmp 62], argTypes := #[23, 3] }, type := 3, pos := _, after := #[{ on := 2, ground := Ground.data }, { on := 5, ground := Ground.data }], guard := none }) rfl (fun K hK => ?_) AllReadyH.nil
      go_simp
      refine (next_c (l.length : Int) _ s _ hSB8 (by omega) (by have := HOK.out.len.2; omega)).mono ?_
      rintro e w9 ⟨k, rfl, hk, hSB9, hh⟩
      replace hP := hP.grown hh (fun e => by have := Option.some.inj e; omega)
      replace hB := hB.grown hh (fun e => by have := Option.some.inj e; omega)
      replace hO := OwnX.kept hO hh (by omega)
      replace hG := hG.trans hh
      have hk2 := inR_pos hk (by have := HOK.out.len.1; omega)
      obtain ⟨k, rfl⟩ := Int.eq_ofNat_of_zero_le hk2.1
      have hkl : k < l.length := by omega
      have hki : (k : Int) < (l.length : Int) := by omega
      clear hh hSB8 hk hk2
      refine hK.out _ _ ?_ (fun hHeld => ?_)
      · exact hP.cell 4
      clear hK K
      try simp only [Act.put, List.setIfInBounds_toArray, List.set_cons_zero, List.set_cons_succ]
      refine wpAnyH_take (i := 7) (oi := { dst := some 64, op := Op.indexAddr 31 (Operand.tmp 58) (Operand.tmp 63), type := 0, pos := _, after := #[{ on := 1, ground := Ground.data }, { on := 6, ground := Ground.data }], guard := none }) (v := ?_) rfl (by kernel_rfl) (by kernel_rfl) (by kernel_rfl) (fun _ _ _ h => h) (Or.inl ⟨by rfl, ?_⟩) (by assumption) ?_
      rotate_left
      · (intro w hSw; (go_simp <;> with_reducible rfl))
      try simp only [Act.put, List.setIfInBounds_toArray, List.set_cons_zero, List.set_cons_succ]
      refine wpAnyH_take (i := 8) (oi := { dst := some 4, op := Op.assign (Operand.tmp 64), type := 123, pos := _, after := #[{ on := 7, ground := Ground.data }, { on := 6, ground := Ground.chain }, { on := 0, ground := Ground.phase }, { on := 1, ground := Ground.phase }, { on := 2, ground := Ground.phase }, { on := 3, ground := Ground.phase }, { on := 4, ground := Ground.phase }, { on := 5, ground := Ground.phase }, { on := 6, ground := Ground.phase }, { on := 7, ground := Ground.phase }], guard := none }) (v := ?_) rfl (by kernel_rfl) (by kernel_rfl) (by kernel_rfl) (fun _ _ _ h => h) (Or.inl ⟨by rfl, ?_⟩) (by assumption) ?_
      rotate_left
      · (intro w hSw; (go_simp <;> with_reducible rfl))
      try simp only [Act.put, List.setIfInBounds_toArray, List.set_cons_zero, List.set_cons_succ]
      refine wpAnyH_done (by kernel_rfl) ?_ _
      obtain ⟨p, hp⟩ : ∃ p, l[k]? = some p := ⟨_, List.getElem?_eq_getElem hkl⟩
      have HP := Lib.hid hp
      have HKL := Lib.hid hkl
      clear hp hkl
      go_wp2_with fail
      refine (some_c _ _ _ [⟨#[118, 49]⟩, ⟨#[]⟩, ⟨#[65]⟩] _ _ _ (hSB9.alloc _) (by omega) (by decide) (by decide) (Rd.newAt _ rfl rfl (by decide)) (hSB9.newAt _ _ _ (Nat.le_refl _))).mono ?_; rintro e wa ⟨x1, rfl, hq1, hSBa, hh⟩
      have HX1 := Lib.hid (small_pick hq1 (by decide))
      clear hq1
      have hq := ((G.refl w9 (some s)).alloc (.cells _ 9)).trans hh
      replace hP := hP.grown hq (fun e => by have := Option.some.inj e; omega)
      replace hB := hB.grown hq (fun e => by have := Option.some.inj e; omega)
      replace hO := OwnX.kept hO hq (by omega)
      replace hG := hG.trans hq
      clear hh hq
      go_wp2_with fail
      refine (odd_c _ _ _ _ _ hSBa (by omega) (by omega) (by omega) (by omega) (by omega)).mono ?_; rintro e wb ⟨z, rfl, z0, z1, hSB, hh⟩
      clear z0 z1
      replace hP := hP.grown hh (fun e => by have := Option.some.inj e; omega)
      replace hB := hB.grown hh (fun e => by have := Option.some.inj e; omega)
      replace hO := OwnX.kept hO hh (by omega)
      replace hG := hG.trans hh
      clear hh
      have HT := Lib.hid (there_any (z := 9) lgC_sz hO HP.out)
      have f0 := (HT.out 0 (by omega)).2
      have f1 := (HT.out 1 (by omega)).2
      have y0 := RdR.cell lgC_sz (Rd.of_owns hO) (G.refl wb none) HP.out 0 (.string p.1) rfl
      have y1 := RdR.cell lgC_sz (Rd.of_owns hO) (G.refl wb none) HP.out 1 (.int .i64 p.2.1.1) rfl
      simp only [Nat.zero_add, Nat.add_zero] at f0 f1 y0 y1
      go_upto_region 20 with fail
      have hO1 := OwnX.set lgC_sz hO HP.out 0 (.string x1) (by omega) (q := (x1, p.2.1, p.2.2)) rfl
      have hO2 := OwnX.set lgC_sz hO1 (show (l.set k (x1, p.2.1, p.2.2))[k]? = some (x1, p.2.1, p.2.2) by rw [List.getElem?_set_self HKL.out]) 1 (.int .i64 z) (by omega) (q := (x1, (z, p.2.1.2), p.2.2)) rfl
      rw [List.set_set] at hO2
      simp only [Nat.add_zero] at hO1 hO2
      have hq : G wb ((wb.setCell ⟨g1, k * 9, none⟩ (.string x1)).setCell ⟨g1, k * 9 + 1, none⟩ (.int .i64 z)) (some g1) := ((G.refl wb (some g1)).setCell (p := ⟨g1, k * 9, none⟩) (.inr rfl) _).setCell (p := ⟨g1, k * 9 + 1, none⟩) (.inr rfl) _
      replace hP := hP.grown hq (fun e => by have := Option.some.inj e; omega)
      replace hB := hB.grown hq (fun e => by have := Option.some.inj e; omega)
      replace hSB := hSB.far hq (by omega)
      replace hG := hG.other hq (fun j e => by cases e; exact .inl (by omega))
      have hR : RdR ((wb.setCell ⟨g1, k * 9, none⟩ (.string x1)).setCell ⟨g1, k * 9 + 1, none⟩ (.int .i64 z)) 9 lgC (.slice (some ⟨g1, 0, none⟩) l.length cap1) (l.set k (x1, (z, p.2.1.2), p.2.2)) := by
        have := Rd.of_owns hO2
        unfold RdR
        rw [List.length_set]
        exact this
      clear y0 y1 f0 f1 HT hO hO1 hO2 hq
      generalize (wb.setCell ⟨g1, k * 9, none⟩ (.string x1)).setCell ⟨g1, k * 9 + 1, none⟩ (.int .i64 z) = wz at hP hR hB hSB hG ⊢
      go_wp2_with (first | (refine wpList_load_row rfl 33 _ rfl (g3) rfl 33 #[.string H.1, .string H.2.1, .int .i64 H.2.2.1, .int .i64 H.2.2.2, .slice (some ⟨g1, 0, none⟩) l.length cap1] (0, 0) _ hP Tryd.underlying33 rfl (hi_info (H.1, H.2.1, H.2.2.1, H.2.2.2) _) ?_) | (refine wpList_store_row rfl 33 _ _ rfl (w.heap.size) #[.string H.1, .string H.2.1, .int .i64 H.2.2.1, .int .i64 H.2.2.2, .slice (some ⟨g1, 0, none⟩) l.length cap1] rfl rfl 33 _ hB (hi_info (H.1, H.2.1, H.2.2.1, H.2.2.2) _) rfl (hi_one (H.1, H.2.1, H.2.2.1, H.2.2.2) _ _ _) ?_))
      refine bodyPost_ret (results_cell_row rfl _ _ w.heap.size 33 #[.string H.1, .string H.2.1, .int .i64 H.2.2.1, .int .i64 H.2.2.2, .slice (some ⟨g1, 0, none⟩) l.length cap1] (0, 0) _ rfl (hB.setRow _) Tryd.underlying33 rfl (hi_info (H.1, H.2.1, H.2.2.1, H.2.2.2) _)) rfl ?_
      refine hi_fin_len (H := (H.1, H.2.1, H.2.2.1, H.2.2.2)) (List.length_set ..) (l := l.set k (x1, (z, p.2.1.2), p.2.2)) ⟨LgOk.set HOK.out.2.1 (x := (x1, (z, p.2.1.2), p.2.2)) ⟨HX1.out, (HOK.out.2.1 p (List.mem_of_getElem? HP.out)).2.1, (HOK.out.2.1 p (List.mem_of_getElem? HP.out)).2.2⟩ k, HOK.out.2.2.1, HOK.out.2.2.2.1, HOK.out.2.2.2.2.1, HOK.out.2.2.2.2.2, by rw [List.length_set]; exact HOK.out.len.2⟩ hR (fun k e => by have e : g1 = k := Option.some.inj e; omega) hSB (by omega) hG hslt
    · clear hr2
      go_upto_region 18 with fail
      have hq := (G.refl w7 none).drew
      have hSB8 := hSB7.quiet hq
      replace hP := hP.quiet hq
      replace hB := hB.quiet hq
      replace hO := OwnX.quiet hO hq
      replace hG := hG.trans0 hq
      clear hq hSB7
      refine wp_region_held_drew (S := (fun w' => w'.cell? ⟨g3, 4, none⟩ = some (.slice (some ⟨g1, 0, none⟩) l.length cap1))) (by kernel_rfl) ?_ (fun hHeld => ?_)
      · exact hP.cell 4
      refine wpAnyH_take (i := 0) (oi := { dst := some 79, op := Op.fieldAddr 33 (Operand.tmp 3) 3, type := 0, pos := _, after := #[], guard := none }) (v := ?_) rfl (by kernel_rfl) (by kernel_rfl) (by kernel_rfl) (fun _ _ _ h => h) (Or.inl ⟨by rfl, ?_⟩) (by assumption) ?_
      rotate_left
      · (intro w hSw; (go_simp <;> with_reducible rfl))
      try simp only [Act.put, List.setIfInBounds_toArray, List.set_cons_zero, List.set_cons_succ]
      refine wpAnyH_take (i := 1) (oi := { dst := some 80, op := Op.load 31 (Operand.tmp 79), type := 31, pos := _, after := #[{ on := 0, ground := Ground.data }], guard := none }) (v := ?_) rfl (by kernel_rfl) (by kernel_rfl) (by kernel_rfl) (fun _ _ _ h => h) (Or.inl ⟨by rfl, ?_⟩) (by assumption) ?_
      rotate_left
      · (intro w hSw; (go_simp <;> with_reducible rfl))
      try simp only [Act.put, List.setIfInBounds_toArray, List.set_cons_zero, List.set_cons_succ]
      refine wpAnyH_take (i := 2) (oi := { dst := some 81, op := Op.move (Operand.tmp 0), type := 23, pos := _, after := #[], guard := none }) (v := ?_) rfl (by kernel_rfl) (by kernel_rfl) (by kernel_rfl) (fun _ _ _ h => h) (Or.inl ⟨by rfl, ?_⟩) (by assumption) ?_
      rotate_left
      · (intro w hSw; (go_simp <;> with_reducible rfl))
      try simp only [Act.put, List.setIfInBounds_toArray, List.set_cons_zero, List.set_cons_succ]
      refine wpAnyH_take (i := 3) (oi := { dst := some 82, op := Op.fieldAddr 33 (Operand.tmp 3) 3, type := 0, pos := _, after := #[], guard := none }) (v := ?_) rfl (by kernel_rfl) (by kernel_rfl) (by kernel_rfl) (fun _ _ _ h => h) (Or.inl ⟨by rfl, ?_⟩) (by assumption) ?_
      rotate_left
      · (intro w hSw; (go_simp <;> with_reducible rfl))
      try simp only [Act.put, List.setIfInBounds_toArray, List.set_cons_zero, List.set_cons_succ]
      refine wpAnyH_take (i := 4) (oi := { dst := some 83, op := Op.load 31 (Operand.tmp 82), type := 31, pos := _, after := #[{ on := 3, ground := Ground.data }], guard := none }) (v := ?_) rfl (by kernel_rfl) (by kernel_rfl) (by kernel_rfl) (fun _ _ _ h => h) (Or.inl ⟨by rfl, ?_⟩) (by assumption) ?_
      rotate_left
      · (intro w hSw; (go_simp <;> with_reducible rfl))
      try simp only [Act.put, List.setIfInBounds_toArray, List.set_cons_zero, List.set_cons_succ]
      refine wpAnyH_take (i := 5) (oi := { dst := some 84, op := Op.call { callee := Callee.builtin Builtin.len, args := #[Operand.tmp 83], argTypes := #[31] }, type := 3, pos := _, after := #[{ on := 4, ground := Ground.data }], guard := none }) (v := ?_) rfl (by kernel_rfl) (by kernel_rfl) (by kernel_rfl) (fun _ _ _ h => h) (Or.inl ⟨by rfl, ?_⟩) (by assumption) ?_
      rotate_left
      · (intro w hSw; (go_simp <;> with_reducible rfl))
      try simp only [Act.put, List.setIfInBounds_toArray, List.set_cons_zero, List.set_cons_succ]
      refine wpAnyH_ready (rs := [6]) (by kernel_rfl) (by simp) ?_
      refine AllReadyH.cons (o := { dst := some 85, op := Op.call { callee := Callee.value (Operand.func 81), args := #[Operand.tmp 81, Operand.tmp 84], argTypes := #[23, 3] }, type := 3, pos := _, after := #[{ on := 2, ground := Ground.data }, { on := 5, ground := Ground.data }], guard := none }) rfl (fun K hK => ?_) AllReadyH.nil
      go_simp
      refine (next_c (l.length : Int) _ s _ hSB8 (by omega) (by have := HOK.out.len.2; omega)).mono ?_
      rintro e w9 ⟨k, rfl, hk, hSB9, hh⟩
      replace hP := hP.grown hh (fun e => by have := Option.some.inj e; omega)
      replace hB := hB.grown hh (fun e => by have := Option.some.inj e; omega)
      replace hO := OwnX.kept hO hh (by omega)
      replace hG := hG.trans hh
      have hk2 := inR_pos hk (by have := HOK.out.len.1; omega)
      obtain ⟨k, rfl⟩ := Int.eq_ofNat_of_zero_le hk2.1
      have hkl : k < l.length := by omega
      have hki : (k : Int) < (l.length : Int) := by omega
      clear hh hSB8 hk hk2
      refine hK.out _ _ ?_ (fun hHeld => ?_)
      · exact hP.cell 4
      clear hK K
      try simp only [Act.put, List.setIfInBounds_toArray, List.set_cons_zero, List.set_cons_succ]
      refine wpAnyH_take (i := 7) (oi := { dst := some 86, op := Op.indexAddr 31 (Operand.tmp 80) (Operand.tmp 85), type := 0, pos := _, after := #[{ on := 1, ground := Ground.data }, { on := 6, ground := Ground.data }], guard := none }) (v := ?_) rfl (by kernel_rfl) (by kernel_rfl) (by kernel_rfl) (fun _ _ _ h => h) (Or.inl ⟨by rfl, ?_⟩) (by assumption) ?_
      rotate_left
      · (intro w hSw; (go_simp <;> with_reducible rfl))
      try simp only [Act.put, List.setIfInBounds_toArray, List.set_cons_zero, List.set_cons_succ]
      refine wpAnyH_take (i := 8) (oi := { dst := some 5, op := Op.assign (Operand.tmp 86), type := 123, pos := _, after := #[{ on := 7, ground := Ground.data }, { on := 6, ground := Ground.chain }, { on := 0, ground := Ground.phase }, { on := 1, ground := Ground.phase }, { on := 2, ground := Ground.phase }, { on := 3, ground := Ground.phase }, { on := 4, ground := Ground.phase }, { on := 5, ground := Ground.phase }, { on := 6, ground := Ground.phase }, { on := 7, ground := Ground.phase }], guard := none }) (v := ?_) rfl (by kernel_rfl) (by kernel_rfl) (by kernel_rfl) (fun _ _ _ h => h) (Or.inl ⟨by rfl, ?_⟩) (by assumption) ?_
      rotate_left
      · (intro w hSw; (go_simp <;> with_reducible rfl))
      try simp only [Act.put, List.setIfInBounds_toArray, List.set_cons_zero, List.set_cons_succ]
      refine wpAnyH_done (by kernel_rfl) ?_ _
      obtain ⟨p, hp⟩ : ∃ p, l[k]? = some p := ⟨_, List.getElem?_eq_getElem hkl⟩
      have HP := Lib.hid hp
      have HKL := Lib.hid hkl
      clear hp hkl
      go_wp2_with fail
      refine (pick_c _ _ _ [-1, 0, 100, 5000] _ _ _ (hSB9.alloc _) (by omega) (by decide) (by decide) (Rd.newAt _ rfl rfl (by decide)) (hSB9.newAt _ _ _ (Nat.le_refl _))).mono ?_; rintro e wa ⟨z, rfl, hq1, hSBa, hh⟩
      have HZ := Lib.hid (bnd_pick hq1 (by decide))
      clear hq1
      have hq := ((G.refl w9 (some s)).alloc (.cells _ 3)).trans hh
      replace hP := hP.grown hq (fun e => by have := Option.some.inj e; omega)
      replace hB := hB.grown hq (fun e => by have := Option.some.inj e; omega)
      replace hO := OwnX.kept hO hq (by omega)
      replace hG := hG.trans hq
      clear hh hq
      go_wp2_with fail
      refine (reading_c z _ s _ HZ.out hSBa (by omega)).mono ?_; rintro e wb ⟨⟨r1, r2, r3, r4⟩, rfl, hr, hSB, hh⟩
      have HR := Lib.hid hr
      clear hr
      rw [show rgC (r1, r2, r3, r4) = #[.int .i64 r1, .string r2, .int .i64 r3, .int .i64 r4] from rfl]
      replace hP := hP.grown hh (fun e => by have := Option.some.inj e; omega)
      replace hB := hB.grown hh (fun e => by have := Option.some.inj e; omega)
      replace hO := OwnX.kept hO hh (by omega)
      replace hG := hG.trans hh
      clear hh
      have HT := Lib.hid (there_any (z := 9) lgC_sz hO HP.out)
      have f5 := (HT.out 5 (by omega)).2
      have y5 := RdR.cell lgC_sz (Rd.of_owns hO) (G.refl wb none) HP.out 5 (.int .i64 p.2.2.1) rfl
      have f6 := (HT.out 6 (by omega)).2
      have y6 := RdR.cell lgC_sz (Rd.of_owns hO) (G.refl wb none) HP.out 6 (.string p.2.2.2.1) rfl
      have f7 := (HT.out 7 (by omega)).2
      have y7 := RdR.cell lgC_sz (Rd.of_owns hO) (G.refl wb none) HP.out 7 (.int .i64 p.2.2.2.2.1) rfl
      have f8 := (HT.out 8 (by omega)).2
      have y8 := RdR.cell lgC_sz (Rd.of_owns hO) (G.refl wb none) HP.out 8 (.int .i64 p.2.2.2.2.2) rfl
      simp only [Nat.zero_add] at f5 y5 f6 y6 f7 y7 f8 y8
      go_upto_region 20 with fail
      have hq : G wb ((((wb.setCell ⟨g1, k * 9 + 5, none⟩ (.int .i64 r1)).setCell ⟨g1, k * 9 + 6, none⟩ (.string r2)).setCell ⟨g1, k * 9 + 7, none⟩ (.int .i64 r3)).setCell ⟨g1, k * 9 + 8, none⟩ (.int .i64 r4)) (some g1) := G.setCells g1 [.int .i64 r1, .string r2, .int .i64 r3, .int .i64 r4] (k * 9 + 5) wb
      have hO2 := own_setIn hO HP.out (r1, r2, r3, r4)
      replace hP := hP.grown hq (fun e => by have := Option.some.inj e; omega)
      replace hB := hB.grown hq (fun e => by have := Option.some.inj e; omega)
      replace hSB := hSB.far hq (by omega)
      replace hG := hG.other hq (fun j e => by cases e; exact .inl (by omega))
      have hR : RdR ((((wb.setCell ⟨g1, k * 9 + 5, none⟩ (.int .i64 r1)).setCell ⟨g1, k * 9 + 6, none⟩ (.string r2)).setCell ⟨g1, k * 9 + 7, none⟩ (.int .i64 r3)).setCell ⟨g1, k * 9 + 8, none⟩ (.int .i64 r4)) 9 lgC (.slice (some ⟨g1, 0, none⟩) l.length cap1) (l.set k (p.1, p.2.1, (r1, r2, r3, r4))) := Rd.of_owns hO2
      clear HT hO hO2 hq f5 y5 f6 y6 f7 y7 f8 y8
      generalize (((wb.setCell ⟨g1, k * 9 + 5, none⟩ (.int .i64 r1)).setCell ⟨g1, k * 9 + 6, none⟩ (.string r2)).setCell ⟨g1, k * 9 + 7, none⟩ (.int .i64 r3)).setCell ⟨g1, k * 9 + 8, none⟩ (.int .i64 r4) = wz at hP hR hB hSB hG ⊢
      go_wp2_with (first | (refine wpList_load_row rfl 33 _ rfl (g3) rfl 33 #[.string H.1, .string H.2.1, .int .i64 H.2.2.1, .int .i64 H.2.2.2, .slice (some ⟨g1, 0, none⟩) l.length cap1] (0, 0) _ hP Tryd.underlying33 rfl (hi_info (H.1, H.2.1, H.2.2.1, H.2.2.2) _) ?_) | (refine wpList_store_row rfl 33 _ _ rfl (w.heap.size) #[.string H.1, .string H.2.1, .int .i64 H.2.2.1, .int .i64 H.2.2.2, .slice (some ⟨g1, 0, none⟩) l.length cap1] rfl rfl 33 _ hB (hi_info (H.1, H.2.1, H.2.2.1, H.2.2.2) _) rfl (hi_one (H.1, H.2.1, H.2.2.1, H.2.2.2) _ _ _) ?_))
      refine bodyPost_ret (results_cell_row rfl _ _ w.heap.size 33 #[.string H.1, .string H.2.1, .int .i64 H.2.2.1, .int .i64 H.2.2.2, .slice (some ⟨g1, 0, none⟩) l.length cap1] (0, 0) _ rfl (hB.setRow _) Tryd.underlying33 rfl (hi_info (H.1, H.2.1, H.2.2.1, H.2.2.2) _)) rfl ?_
      refine hi_fin_len (H := (H.1, H.2.1, H.2.2.1, H.2.2.2)) (List.length_set ..) (l := l.set k (p.1, p.2.1, (r1, r2, r3, r4))) ⟨LgOk.set HOK.out.2.1 (x := (p.1, p.2.1, (r1, r2, r3, r4))) ⟨(HOK.out.2.1 p (List.mem_of_getElem? HP.out)).1, (HOK.out.2.1 p (List.mem_of_getElem? HP.out)).2.1, HR.out.2.1⟩ k, HOK.out.2.2.1, HOK.out.2.2.2.1, HOK.out.2.2.2.2.1, HOK.out.2.2.2.2.2, by rw [List.length_set]; exact HOK.out.len.2⟩ hR (fun k e => by have e : g1 = k := Option.some.inj e; omega) hSB (by omega) hG hslt
    · clear hr2
      go_upto_region 6 with fail
      have hq := (G.refl w7 none).drew
      have hSB8 := hSB7.quiet hq
      replace hP := hP.quiet hq
      replace hB := hB.quiet hq
      replace hO := OwnX.quiet hO hq
      replace hG := hG.trans0 hq
      clear hq hSB7
      refine wp_region_held_drew (S := (fun w' => w'.cell? ⟨g3, 4, none⟩ = some (.slice (some ⟨g1, 0, none⟩) l.length cap1))) (by kernel_rfl) ?_ (fun hHeld => ?_)
      · exact hP.cell 4
      refine wpAnyH_take (i := 0) (oi := { dst := some 22, op := Op.fieldAddr 33 (Operand.tmp 3) 3, type := 0, pos := _, after := #[], guard := none }) (v := ?_) rfl (by kernel_rfl) (by kernel_rfl) (by kernel_rfl) (fun _ _ _ h => h) (Or.inl ⟨by rfl, ?_⟩) (by assumption) ?_
      rotate_left
      · (intro w hSw; (go_simp <;> with_reducible rfl))
      try simp only [Act.put, List.setIfInBounds_toArray, List.set_cons_zero, List.set_cons_succ]
      refine wpAnyH_take (i := 1) (oi := { dst := some 23, op := Op.load 31 (Operand.tmp 22), type := 31, pos := _, after := #[{ on := 0, ground := Ground.data }], guard := none }) (v := ?_) rfl (by kernel_rfl) (by kernel_rfl) (by kernel_rfl) (fun _ _ _ h => h) (Or.inl ⟨by rfl, ?_⟩) (by assumption) ?_
      rotate_left
      · (intro w hSw; (go_simp <;> with_reducible rfl))
      try simp only [Act.put, List.setIfInBounds_toArray, List.set_cons_zero, List.set_cons_succ]
      refine wpAnyH_take (i := 2) (oi := { dst := some 24, op := Op.move (Operand.tmp 0), type := 23, pos := _, after := #[], guard := none }) (v := ?_) rfl (by kernel_rfl) (by kernel_rfl) (by kernel_rfl) (fun _ _ _ h => h) (Or.inl ⟨by rfl, ?_⟩) (by assumption) ?_
      rotate_left
      · (intro w hSw; (go_simp <;> with_reducible rfl))
      try simp only [Act.put, List.setIfInBounds_toArray, List.set_cons_zero, List.set_cons_succ]
      refine wpAnyH_take (i := 3) (oi := { dst := some 25, op := Op.fieldAddr 33 (Operand.tmp 3) 3, type := 0, pos := _, after := #[], guard := none }) (v := ?_) rfl (by kernel_rfl) (by kernel_rfl) (by kernel_rfl) (fun _ _ _ h => h) (Or.inl ⟨by rfl, ?_⟩) (by assumption) ?_
      rotate_left
      · (intro w hSw; (go_simp <;> with_reducible rfl))
      try simp only [Act.put, List.setIfInBounds_toArray, List.set_cons_zero, List.set_cons_succ]
      refine wpAnyH_take (i := 4) (oi := { dst := some 26, op := Op.load 31 (Operand.tmp 25), type := 31, pos := _, after := #[{ on := 3, ground := Ground.data }], guard := none }) (v := ?_) rfl (by kernel_rfl) (by kernel_rfl) (by kernel_rfl) (fun _ _ _ h => h) (Or.inl ⟨by rfl, ?_⟩) (by assumption) ?_
      rotate_left
      · (intro w hSw; (go_simp <;> with_reducible rfl))
      try simp only [Act.put, List.setIfInBounds_toArray, List.set_cons_zero, List.set_cons_succ]
      refine wpAnyH_take (i := 5) (oi := { dst := some 27, op := Op.call { callee := Callee.builtin Builtin.len, args := #[Operand.tmp 26], argTypes := #[31] }, type := 3, pos := _, after := #[{ on := 4, ground := Ground.data }], guard := none }) (v := ?_) rfl (by kernel_rfl) (by kernel_rfl) (by kernel_rfl) (fun _ _ _ h => h) (Or.inl ⟨by rfl, ?_⟩) (by assumption) ?_
      rotate_left
      · (intro w hSw; (go_simp <;> with_reducible rfl))
      try simp only [Act.put, List.setIfInBounds_toArray, List.set_cons_zero, List.set_cons_succ]
      refine wpAnyH_ready (rs := [6]) (by kernel_rfl) (by simp) ?_
      refine AllReadyH.cons (o := { dst := some 28, op := Op.call { callee := Callee.value (Operand.func 81), args := #[Operand.tmp 24, Operand.tmp 27], argTypes := #[23, 3] }, type := 3, pos := _, after := #[{ on := 2, ground := Ground.data }, { on := 5, ground := Ground.data }], guard := none }) rfl (fun K hK => ?_) AllReadyH.nil
      go_simp
      refine (next_c (l.length : Int) _ s _ hSB8 (by omega) (by have := HOK.out.len.2; omega)).mono ?_
      rintro e w9 ⟨k, rfl, hk, hSB9, hh⟩
      replace hP := hP.grown hh (fun e => by have := Option.some.inj e; omega)
      replace hB := hB.grown hh (fun e => by have := Option.some.inj e; omega)
      replace hO := OwnX.kept hO hh (by omega)
      replace hG := hG.trans hh
      have hk2 := inR_pos hk (by have := HOK.out.len.1; omega)
      obtain ⟨k, rfl⟩ := Int.eq_ofNat_of_zero_le hk2.1
      have hkl : k < l.length := by omega
      have hki : (k : Int) < (l.length : Int) := by omega
      clear hh hSB8 hk hk2
      refine hK.out _ _ ?_ (fun hHeld => ?_)
      · exact hP.cell 4
      clear hK K
      try simp only [Act.put, List.setIfInBounds_toArray, List.set_cons_zero, List.set_cons_succ]
      refine wpAnyH_take (i := 7) (oi := { dst := some 29, op := Op.indexAddr 31 (Operand.tmp 23) (Operand.tmp 28), type := 0, pos := _, after := #[{ on := 1, ground := Ground.data }, { on := 6, ground := Ground.data }], guard := none }) (v := ?_) rfl (by kernel_rfl) (by kernel_rfl) (by kernel_rfl) (fun _ _ _ h => h) (Or.inl ⟨by rfl, ?_⟩) (by assumption) ?_
      rotate_left
      · (intro w hSw; (go_simp <;> with_reducible rfl))
      try simp only [Act.put, List.setIfInBounds_toArray, List.set_cons_zero, List.set_cons_succ]
      refine wpAnyH_take (i := 8) (oi := { dst := some 6, op := Op.assign (Operand.tmp 29), type := 123, pos := _, after := #[{ on := 7, ground := Ground.data }, { on := 6, ground := Ground.chain }, { on := 0, ground := Ground.phase }, { on := 1, ground := Ground.phase }, { on := 2, ground := Ground.phase }, { on := 3, ground := Ground.phase }, { on := 4, ground := Ground.phase }, { on := 5, ground := Ground.phase }, { on := 6, ground := Ground.phase }, { on := 7, ground := Ground.phase }], guard := none }) (v := ?_) rfl (by kernel_rfl) (by kernel_rfl) (by kernel_rfl) (fun _ _ _ h => h) (Or.inl ⟨by rfl, ?_⟩) (by assumption) ?_
      rotate_left
      · (intro w hSw; (go_simp <;> with_reducible rfl))
      try simp only [Act.put, List.setIfInBounds_toArray, List.set_cons_zero, List.set_cons_succ]
      refine wpAnyH_done (by kernel_rfl) ?_ _
      obtain ⟨p, hp⟩ : ∃ p, l[k]? = some p := ⟨_, List.getElem?_eq_getElem hkl⟩
      have HP := Lib.hid hp
      have HKL := Lib.hid hkl
      clear hp hkl
      go_wp2_with fail
      refine (pick_c _ _ _ [0, 0, 1] _ _ _ (hSB9.alloc _) (by omega) (by decide) (by decide) (Rd.newAt _ rfl rfl (by decide)) (hSB9.newAt _ _ _ (Nat.le_refl _))).mono ?_; rintro e wb ⟨z, rfl, hq1, hSB, hh⟩
      clear hq1
      have hq := ((G.refl w9 (some s)).alloc (.cells _ 3)).trans hh
      replace hP := hP.grown hq (fun e => by have := Option.some.inj e; omega)
      replace hB := hB.grown hq (fun e => by have := Option.some.inj e; omega)
      replace hO := OwnX.kept hO hq (by omega)
      replace hG := hG.trans hq
      clear hh hq
      have HT := Lib.hid (there_any (z := 9) lgC_sz hO HP.out)
      have f5 := (HT.out 5 (by omega)).2
      have y5 := RdR.cell lgC_sz (Rd.of_owns hO) (G.refl wb none) HP.out 5 (.int .i64 p.2.2.1) rfl
      have f6 := (HT.out 6 (by omega)).2
      have y6 := RdR.cell lgC_sz (Rd.of_owns hO) (G.refl wb none) HP.out 6 (.string p.2.2.2.1) rfl
      have f7 := (HT.out 7 (by omega)).2
      have y7 := RdR.cell lgC_sz (Rd.of_owns hO) (G.refl wb none) HP.out 7 (.int .i64 p.2.2.2.2.1) rfl
      have f8 := (HT.out 8 (by omega)).2
      have y8 := RdR.cell lgC_sz (Rd.of_owns hO) (G.refl wb none) HP.out 8 (.int .i64 p.2.2.2.2.2) rfl
      simp only [Nat.zero_add] at f5 y5 f6 y6 f7 y7 f8 y8
      go_upto_region 20 with fail
      have hq : G wb ((((wb.setCell ⟨g1, k * 9 + 5, none⟩ (.int .i64 (-1))).setCell ⟨g1, k * 9 + 6, none⟩ (.string ⟨#[]⟩)).setCell ⟨g1, k * 9 + 7, none⟩ (.int .i64 z)).setCell ⟨g1, k * 9 + 8, none⟩ (.int .i64 0)) (some g1) := G.setCells g1 [.int .i64 (-1), .string ⟨#[]⟩, .int .i64 z, .int .i64 0] (k * 9 + 5) wb
      have hO2 := own_setIn hO HP.out (-1, ⟨#[]⟩, z, 0)
      replace hP := hP.grown hq (fun e => by have := Option.some.inj e; omega)
      replace hB := hB.grown hq (fun e => by have := Option.some.inj e; omega)
      replace hSB := hSB.far hq (by omega)
      replace hG := hG.other hq (fun j e => by cases e; exact .inl (by omega))
      have hR : RdR ((((wb.setCell ⟨g1, k * 9 + 5, none⟩ (.int .i64 (-1))).setCell ⟨g1, k * 9 + 6, none⟩ (.string ⟨#[]⟩)).setCell ⟨g1, k * 9 + 7, none⟩ (.int .i64 z)).setCell ⟨g1, k * 9 + 8, none⟩ (.int .i64 0)) 9 lgC (.slice (some ⟨g1, 0, none⟩) l.length cap1) (l.set k (p.1, p.2.1, (-1, ⟨#[]⟩, z, 0))) := Rd.of_owns hO2
      clear HT hO hO2 hq f5 y5 f6 y6 f7 y7 f8 y8
      generalize (((wb.setCell ⟨g1, k * 9 + 5, none⟩ (.int .i64 (-1))).setCell ⟨g1, k * 9 + 6, none⟩ (.string ⟨#[]⟩)).setCell ⟨g1, k * 9 + 7, none⟩ (.int .i64 z)).setCell ⟨g1, k * 9 + 8, none⟩ (.int .i64 0) = wz at hP hR hB hSB hG ⊢
      go_wp2_with (first | (refine wpList_load_row rfl 33 _ rfl (g3) rfl 33 #[.string H.1, .string H.2.1, .int .i64 H.2.2.1, .int .i64 H.2.2.2, .slice (some ⟨g1, 0, none⟩) l.length cap1] (0, 0) _ hP Tryd.underlying33 rfl (hi_info (H.1, H.2.1, H.2.2.1, H.2.2.2) _) ?_) | (refine wpList_store_row rfl 33 _ _ rfl (w.heap.size) #[.string H.1, .string H.2.1, .int .i64 H.2.2.1, .int .i64 H.2.2.2, .slice (some ⟨g1, 0, none⟩) l.length cap1] rfl rfl 33 _ hB (hi_info (H.1, H.2.1, H.2.2.1, H.2.2.2) _) rfl (hi_one (H.1, H.2.1, H.2.2.1, H.2.2.2) _ _ _) ?_))
      refine bodyPost_ret (results_cell_row rfl _ _ w.heap.size 33 #[.string H.1, .string H.2.1, .int .i64 H.2.2.1, .int .i64 H.2.2.2, .slice (some ⟨g1, 0, none⟩) l.length cap1] (0, 0) _ rfl (hB.setRow _) Tryd.underlying33 rfl (hi_info (H.1, H.2.1, H.2.2.1, H.2.2.2) _)) rfl ?_
      refine hi_fin_len (H := (H.1, H.2.1, H.2.2.1, H.2.2.2)) (List.length_set ..) (l := l.set k (p.1, p.2.1, (-1, ⟨#[]⟩, z, 0))) ⟨LgOk.set HOK.out.2.1 (x := (p.1, p.2.1, (-1, ⟨#[]⟩, z, 0))) ⟨(HOK.out.2.1 p (List.mem_of_getElem? HP.out)).1, (HOK.out.2.1 p (List.mem_of_getElem? HP.out)).2.1, small_nil⟩ k, HOK.out.2.2.1, HOK.out.2.2.2.1, HOK.out.2.2.2.2.1, HOK.out.2.2.2.2.2, by rw [List.length_set]; exact HOK.out.len.2⟩ hR (fun k e => by have e : g1 = k := Option.some.inj e; omega) hSB (by omega) hG hslt
end Go.Proofs.YtdcofbciebkfkaaDoor

/- Deals: CheckDeal, DealFault. Written by gendea.py. -/
namespace Go.Proofs.YtdcofbciebkfkaaDoor
open Go.RowKit

/-- A deal. -/
structure De where
  free : Int
  km : Int
  eighth : Int
  grace : Int
  hour : Int
  day : Int
  dep : Int
def deC (x : De) : Array Value := #[.int .i64 x.free, .int .i64 x.km, .int .i64 x.eighth, .int .i64 x.grace, .int .i64 x.hour, .int .i64 x.day, .int .i64 x.dep]
theorem deC_sz (x : De) : (deC x).size = 7 := rfl
theorem de_info (x : De) : (Tryd.prog.info? 27).map (·.size) = some (deC x).size := (by kernel_rfl : (Tryd.prog.info? 27).map (·.size) = some 7)
def deE (x : De) : Int := if inB x.free 0 10000 = false then 1 else if inB x.km 0 100000 = false then 1 else if inB x.eighth 0 100000 = false then 1 else if inB x.grace 0 1440 = false then 1 else if inB x.hour 0 1000000 = false then 1 else if inB x.day 0 1000000 = false then 1 else if inB x.dep 0 1000000 = false then 1 else 0
theorem deE_or (x : De) : deE x = 0 ∨ deE x = 1 := by
  unfold deE
  repeat' split
  all_goals simp
theorem deE_ok {x : De} (h : deE x = 0) : (0 ≤ x.free ∧ x.free ≤ 10000) ∧ (0 ≤ x.km ∧ x.km ≤ 100000) ∧ (0 ≤ x.eighth ∧ x.eighth ≤ 100000) ∧ (0 ≤ x.grace ∧ x.grace ≤ 1440) ∧ (0 ≤ x.hour ∧ x.hour ≤ 1000000) ∧ (0 ≤ x.day ∧ x.day ≤ 1000000) ∧ (0 ≤ x.dep ∧ x.dep ≤ 1000000) := by
  unfold deE at h
  repeat' split at h
  all_goals simp_all [inB]
set_option maxRecDepth 100000 in
set_option maxHeartbeats 4000000 in
theorem dealFault_c (x : De) (w : World) : Calls Tryd.prog 17 #[.agg (deC x)] w fun e w' => e = .returned (.int .i64 (deE x)) ∧ G w w' none := by
  obtain ⟨a0, a1, a2, a3, a4, a5, a6⟩ := x
  have H0 : Hid (deE ⟨a0, a1, a2, a3, a4, a5, a6⟩ = if inB a0 0 10000 = false then 1 else if inB a1 0 100000 = false then 1 else if inB a2 0 100000 = false then 1 else if inB a3 0 1440 = false then 1 else if inB a4 0 1000000 = false then 1 else if inB a5 0 1000000 = false then 1 else if inB a6 0 1000000 = false then 1 else 0) := Lib.hid rfl
  generalize deE ⟨a0, a1, a2, a3, a4, a5, a6⟩ = E at H0 ⊢
  rw [show deC ⟨a0, a1, a2, a3, a4, a5, a6⟩ = #[.int .i64 a0, .int .i64 a1, .int .i64 a2, .int .i64 a3, .int .i64 a4, .int .i64 a5, .int .i64 a6] from rfl]
  have hG : G w (w.alloc (.cells #[.int .i64 a0, .int .i64 a1, .int .i64 a2, .int .i64 a3, .int .i64 a4, .int .i64 a5, .int .i64 a6] 27)) none := (G.refl w none).alloc _
  go_enter Tryd.func17, Tryd.ntmps17
  go_wp2_with fail
  refine (in_c _ _ _ _).mono ?_; rintro e w' ⟨rfl, rfl⟩
  cases k0 : inB a0 0 10000 with
  | false =>
    have HF : Hid (E = 1) := Lib.hid (by rw [H0.out, if_pos k0])
    clear k0
    go_wp2_with fail
    go_ret
    exact ⟨ret_int HF.out.symm, hG⟩
  | true =>
    have H1 : Hid (E = if inB a1 0 100000 = false then 1 else if inB a2 0 100000 = false then 1 else if inB a3 0 1440 = false then 1 else if inB a4 0 1000000 = false then 1 else if inB a5 0 1000000 = false then 1 else if inB a6 0 1000000 = false then 1 else 0) := Lib.hid (by rw [H0.out, if_neg (by simp [k0])])
    clear k0 H0
    go_wp2_with fail
    refine (in_c _ _ _ _).mono ?_; rintro e w' ⟨rfl, rfl⟩
    cases k1 : inB a1 0 100000 with
    | false =>
      have HF : Hid (E = 1) := Lib.hid (by rw [H1.out, if_pos k1])
      clear k1
      go_wp2_with fail
      go_ret
      exact ⟨ret_int HF.out.symm, hG⟩
    | true =>
      have H2 : Hid (E = if inB a2 0 100000 = false then 1 else if inB a3 0 1440 = false then 1 else if inB a4 0 1000000 = false then 1 else if inB a5 0 1000000 = false then 1 else if inB a6 0 1000000 = false then 1 else 0) := Lib.hid (by rw [H1.out, if_neg (by simp [k1])])
      clear k1 H1
      go_wp2_with fail
      refine (in_c _ _ _ _).mono ?_; rintro e w' ⟨rfl, rfl⟩
      cases k2 : inB a2 0 100000 with
      | false =>
        have HF : Hid (E = 1) := Lib.hid (by rw [H2.out, if_pos k2])
        clear k2
        go_wp2_with fail
        go_ret
        exact ⟨ret_int HF.out.symm, hG⟩
      | true =>
        have H3 : Hid (E = if inB a3 0 1440 = false then 1 else if inB a4 0 1000000 = false then 1 else if inB a5 0 1000000 = false then 1 else if inB a6 0 1000000 = false then 1 else 0) := Lib.hid (by rw [H2.out, if_neg (by simp [k2])])
        clear k2 H2
        go_wp2_with fail
        refine (in_c _ _ _ _).mono ?_; rintro e w' ⟨rfl, rfl⟩
        cases k3 : inB a3 0 1440 with
        | false =>
          have HF : Hid (E = 1) := Lib.hid (by rw [H3.out, if_pos k3])
          clear k3
          go_wp2_with fail
          go_ret
          exact ⟨ret_int HF.out.symm, hG⟩
        | true =>
          have H4 : Hid (E = if inB a4 0 1000000 = false then 1 else if inB a5 0 1000000 = false then 1 else if inB a6 0 1000000 = false then 1 else 0) := Lib.hid (by rw [H3.out, if_neg (by simp [k3])])
          clear k3 H3
          go_wp2_with fail
          refine (in_c _ _ _ _).mono ?_; rintro e w' ⟨rfl, rfl⟩
          cases k4 : inB a4 0 1000000 with
          | false =>
            have HF : Hid (E = 1) := Lib.hid (by rw [H4.out, if_pos k4])
            clear k4
            go_wp2_with fail
            go_ret
            exact ⟨ret_int HF.out.symm, hG⟩
          | true =>
            have H5 : Hid (E = if inB a5 0 1000000 = false then 1 else if inB a6 0 1000000 = false then 1 else 0) := Lib.hid (by rw [H4.out, if_neg (by simp [k4])])
            clear k4 H4
            go_wp2_with fail
            refine (in_c _ _ _ _).mono ?_; rintro e w' ⟨rfl, rfl⟩
            cases k5 : inB a5 0 1000000 with
            | false =>
              have HF : Hid (E = 1) := Lib.hid (by rw [H5.out, if_pos k5])
              clear k5
              go_wp2_with fail
              go_ret
              exact ⟨ret_int HF.out.symm, hG⟩
            | true =>
              have H6 : Hid (E = if inB a6 0 1000000 = false then 1 else 0) := Lib.hid (by rw [H5.out, if_neg (by simp [k5])])
              clear k5 H5
              go_wp2_with fail
              refine (in_c _ _ _ _).mono ?_; rintro e w' ⟨rfl, rfl⟩
              cases k6 : inB a6 0 1000000 with
              | false =>
                have HF : Hid (E = 1) := Lib.hid (by rw [H6.out, if_pos k6])
                clear k6
                go_wp2_with fail
                go_ret
                exact ⟨ret_int HF.out.symm, hG⟩
              | true =>
                have H7 : Hid (E = 0) := Lib.hid (by rw [H6.out, if_neg (by simp [k6])])
                clear k6 H6
                go_wp2_with fail
                go_ret
                exact ⟨ret_int H7.out.symm, hG⟩
def deErr : List (Int × Int) → Int
  | [] => 0
  | p :: r => if inB p.1 0 p.2 = false then 1 else deErr r
def DeRel (w : World) (E : Int) (ns : List (Int × Int)) (i : Value) (wr : World) : Prop :=
  ∃ k : Nat, k ≤ 7 ∧ i = .int .i64 k ∧ E = deErr (ns.drop k) ∧ G w wr none
set_option maxRecDepth 100000 in
set_option maxHeartbeats 4000000 in
theorem checkDeal_c (x : De) (w : World) : Calls Tryd.prog 16 #[.agg (deC x)] w fun e w' => e = .returned (.int .i64 (deE x)) ∧ G w w' none := by
  obtain ⟨a0, a1, a2, a3, a4, a5, a6⟩ := x
  have H0 : Hid (deE ⟨a0, a1, a2, a3, a4, a5, a6⟩ = if inB a0 0 10000 = false then 1 else if inB a1 0 100000 = false then 1 else if inB a2 0 100000 = false then 1 else if inB a3 0 1440 = false then 1 else if inB a4 0 1000000 = false then 1 else if inB a5 0 1000000 = false then 1 else if inB a6 0 1000000 = false then 1 else 0) := Lib.hid rfl
  generalize deE ⟨a0, a1, a2, a3, a4, a5, a6⟩ = E at H0 ⊢
  rw [show deC ⟨a0, a1, a2, a3, a4, a5, a6⟩ = #[.int .i64 a0, .int .i64 a1, .int .i64 a2, .int .i64 a3, .int .i64 a4, .int .i64 a5, .int .i64 a6] from rfl]
  have hx : ∀ (k : Nat) (p : Int × Int), ([(a0, 10000), (a1, 100000), (a2, 100000), (a3, 1440), (a4, 1000000), (a5, 1000000), (a6, 1000000)] : List (Int × Int))[k]? = some p → ∀ w : World, (Instr.index 127 (.agg #[.int .i64 a0, .int .i64 10000, .int .i64 a1, .int .i64 100000, .int .i64 a2, .int .i64 100000, .int .i64 a3, .int .i64 1440, .int .i64 a4, .int .i64 1000000, .int .i64 a5, .int .i64 1000000, .int .i64 a6, .int .i64 1000000]) (.int .i64 k)).run Tryd.prog w = .ok (.agg #[.int .i64 p.1, .int .i64 p.2]) w := by
    intro k p h w
    rcases k with _ | _ | _ | _ | _ | _ | _ | k
    all_goals first | (cases h; done) | (cases h; kernel_rfl)
  have hE : E = deErr [(a0, 10000), (a1, 100000), (a2, 100000), (a3, 1440), (a4, 1000000), (a5, 1000000), (a6, 1000000)] := by
    rw [H0.out]
    rfl
  have hl : ([(a0, 10000), (a1, 100000), (a2, 100000), (a3, 1440), (a4, 1000000), (a5, 1000000), (a6, 1000000)] : List (Int × Int)).length = 7 := rfl
  have hG : G w ((w.alloc (.cells #[.int .i64 a0, .int .i64 a1, .int .i64 a2, .int .i64 a3, .int .i64 a4, .int .i64 a5, .int .i64 a6] 27)).alloc (.cells #[.int .i64 a0, .int .i64 10000, .int .i64 a1, .int .i64 100000, .int .i64 a2, .int .i64 100000, .int .i64 a3, .int .i64 1440, .int .i64 a4, .int .i64 1000000, .int .i64 a5, .int .i64 1000000, .int .i64 a6, .int .i64 1000000] 127)) none := ((G.refl w none).alloc _).alloc _
  go_enter Tryd.func16, Tryd.ntmps16
  go_wp2_with fail
  generalize (w.alloc (.cells #[.int .i64 a0, .int .i64 a1, .int .i64 a2, .int .i64 a3, .int .i64 a4, .int .i64 a5, .int .i64 a6] 27)).alloc (.cells #[.int .i64 a0, .int .i64 10000, .int .i64 a1, .int .i64 100000, .int .i64 a2, .int .i64 100000, .int .i64 a3, .int .i64 1440, .int .i64 a4, .int .i64 1000000, .int .i64 a5, .int .i64 1000000, .int .i64 a6, .int .i64 1000000] 127) = w2 at hG ⊢
  generalize (#[.int .i64 a0, .int .i64 10000, .int .i64 a1, .int .i64 100000, .int .i64 a2, .int .i64 100000, .int .i64 a3, .int .i64 1440, .int .i64 a4, .int .i64 1000000, .int .i64 a5, .int .i64 1000000, .int .i64 a6, .int .i64 1000000] : Array Value) = A at hx ⊢
  generalize ([(a0, 10000), (a1, 100000), (a2, 100000), (a3, 1440), (a4, 1000000), (a5, 1000000), (a6, 1000000)] : List (Int × Int)) = ns at hx hE hl
  clear H0
  go_loopw [29] (DeRel w E ns) (fun i _ => 7 - (intOf i).toNat)
  case atStart => exact ⟨0, by omega, rfl, hE, hG⟩
  case round =>
    obtain ⟨k, hk7, rfl, heq, hGr⟩ := hrel
    have HE := Lib.hid heq
    clear heq hE hG
    by_cases hk : k < 7
    · obtain ⟨p, hp⟩ : ∃ p, ns[k]? = some p := ⟨_, List.getElem?_eq_getElem (by omega)⟩
      have hdrop : ns.drop k = p :: ns.drop (k + 1) := by rw [List.drop_eq_getElem_cons (by omega), ← (List.getElem?_eq_some_iff.1 hp).2]
      have HS : Hid (E = if inB p.1 0 p.2 = false then 1 else deErr (ns.drop (k + 1))) := Lib.hid (by rw [HE.out, hdrop]; rfl)
      have hi := hx k p hp
      have hG5 := hGr.alloc (.cells #[.int .i64 p.1, .int .i64 p.2] 126)
      clear hx hp hdrop HE hGr
      have HK := Lib.hid hk
      obtain ⟨p0, p1⟩ := p
      dsimp only at hi HS hG5
      go_wp2_with fail
      refine (within_c _ _ _ _).mono ?_; rintro e w' ⟨rfl, rfl⟩
      cases k0 : inB p0 0 p1 with
      | false =>
        have HF : Hid (E = 1) := Lib.hid (by rw [HS.out, if_pos k0])
        clear k0
        go_wp2_with fail
        go_ret
        exact ⟨ret_int HF.out.symm, hG5⟩
      | true =>
        have HF : Hid (E = deErr (ns.drop (k + 1))) := Lib.hid (by rw [HS.out, if_neg (by simp [k0])])
        clear k0
        go_wp2_with fail
        go_roundw
        case rel => exact ⟨k + 1, by omega, by go_num, HF.out, hG5⟩
        case measure => have := HK.out; simp [intOf]; omega
    · obtain rfl : k = 7 := by omega
      have HF : Hid (E = 0) := Lib.hid (by rw [HE.out, ← hl, List.drop_length]; rfl)
      clear HE hx
      go_wp2_with fail
      go_ret
      exact ⟨ret_int HF.out.symm, hGr⟩
end Go.Proofs.YtdcofbciebkfkaaDoor

/- Generator: Deal. Written by gendep.py. -/
namespace Go.Proofs.YtdcofbciebkfkaaDoor
open Go.RowKit

def DealPost (s K : Nat) (w : World) (e : Ending) (w' : World) : Prop :=
  ∃ x : De, e = .returned (.agg (deC x)) ∧ SB w' s (K + 16) ∧ G w w' (some s)
theorem de_one (x : De) : (deC x).all (·.oneCell') = true := by simp [deC, Value.oneCell']
theorem deal_fin {w w3 : World} {s K : Nat} {x : De} (hs : s < w.heap.size) (hSB : SB w3 s (K + 16)) (hG : G w w3 (some s)) :
    DealPost s K w (.returned (.agg (deC x))) (w3.setRow w.heap.size (deC x)) :=
  ⟨x, rfl, hSB.setRow hs _, hG.setRow (.inl (Nat.le_refl _)) _⟩
set_option maxRecDepth 100000 in
set_option maxHeartbeats 4000000 in
theorem deal_c (w : World) (s : Nat) (K : Nat) (hs : SB w s K) (hk : K ≤ 900000000000) :
    Calls Tryd.prog 10 #[.pointer (some ⟨s, 0, none⟩)] w (DealPost s K w) := by
  have hslt := hs.lt
  go_enter Tryd.func10, Tryd.ntmps10
  go_wp2_with fail
  refine (pick_c _ _ _ [0, 100, 200, 10000] _ _ K ((hs.alloc _).alloc _) (by omega) (by decide) (by decide) (Rd.newAt _ (by simp) rfl (by decide)) (hs.newAt _ _ _ (by omega))).mono ?_
  rintro e w1 ⟨a0, rfl, hp, hSB1, hG1⟩
  have hz1 : w.heap.size + 2 ≤ w1.heap.size := by have := hG1.size; simp at this; omega
  have hB1 := ((Bk.new w 27 #[.int .i64 0, .int .i64 0, .int .i64 0, .int .i64 0, .int .i64 0, .int .i64 0, .int .i64 0]).alloc (.cells _ 3)).grown hG1 (by simp; omega)
  have hG01 : G w w1 (some s) := (((G.refl w (some s)).alloc _).alloc _).trans hG1
  clear hG1 hp hz1
  go_wp2_with fail
  refine (pick_c _ _ _ [0, 2, 30] _ _ _ (hSB1.alloc _) (by omega) (by decide) (by decide) (Rd.newAt _ rfl rfl (by decide)) (hSB1.newAt _ _ _ (Nat.le_refl _))).mono ?_
  rintro e w2 ⟨a1, rfl, hp, hSB2, hG2⟩
  have hB2 := (hB1.alloc (.cells _ 3)).grown hG2 (by simp; omega)
  have hG02 := (hG01.alloc _).trans hG2
  clear hG2 hp hB1 hG01 hSB1
  go_wp2_with fail
  refine (pick_c _ _ _ [0, 300, 1000] _ _ _ (hSB2.alloc _) (by omega) (by decide) (by decide) (Rd.newAt _ rfl rfl (by decide)) (hSB2.newAt _ _ _ (Nat.le_refl _))).mono ?_
  rintro e w3 ⟨a2, rfl, hp, hSB3, hG3⟩
  have hB3 := (hB2.alloc (.cells _ 3)).grown hG3 (fun e => by have := Option.some.inj e; omega)
  have hG03 := (hG02.alloc _).trans hG3
  clear hG3 hp hB2 hG02 hSB2
  go_wp2_with fail
  refine (pick_c _ _ _ [0, 29, 30, 59, 60] _ _ _ (hSB3.alloc _) (by omega) (by decide) (by decide) (Rd.newAt _ rfl rfl (by decide)) (hSB3.newAt _ _ _ (Nat.le_refl _))).mono ?_
  rintro e w4 ⟨a3, rfl, hp, hSB4, hG4⟩
  have hB4 := (hB3.alloc (.cells _ 3)).grown hG4 (fun e => by have := Option.some.inj e; omega)
  have hG04 := (hG03.alloc _).trans hG4
  clear hG4 hp hB3 hG03 hSB3
  go_wp2_with fail
  refine (pick_c _ _ _ [0, 500, 1000, 2000] _ _ _ (hSB4.alloc _) (by omega) (by decide) (by decide) (Rd.newAt _ rfl rfl (by decide)) (hSB4.newAt _ _ _ (Nat.le_refl _))).mono ?_
  rintro e w5 ⟨a4, rfl, hp, hSB5, hG5⟩
  have hB5 := (hB4.alloc (.cells _ 3)).grown hG5 (fun e => by have := Option.some.inj e; omega)
  have hG05 := (hG04.alloc _).trans hG5
  clear hG5 hp hB4 hG04 hSB4
  go_wp2_with fail
  refine (pick_c _ _ _ [0, 4000, 5000, 9000] _ _ _ (hSB5.alloc _) (by omega) (by decide) (by decide) (Rd.newAt _ rfl rfl (by decide)) (hSB5.newAt _ _ _ (Nat.le_refl _))).mono ?_
  rintro e w6 ⟨a5, rfl, hp, hSB6, hG6⟩
  have hB6 := (hB5.alloc (.cells _ 3)).grown hG6 (fun e => by have := Option.some.inj e; omega)
  have hG06 := (hG05.alloc _).trans hG6
  clear hG6 hp hB5 hG05 hSB5
  go_wp2_with fail
  refine (pick_c _ _ _ [0, 10000, 1000000] _ _ _ (hSB6.alloc _) (by omega) (by decide) (by decide) (Rd.newAt _ rfl rfl (by decide)) (hSB6.newAt _ _ _ (Nat.le_refl _))).mono ?_
  rintro e w7 ⟨a6, rfl, hp, hSB7, hG7⟩
  have hB7 := (hB6.alloc (.cells _ 3)).grown hG7 (fun e => by have := Option.some.inj e; omega)
  have hG07 := (hG06.alloc _).trans hG7
  clear hG7 hp hB6 hG06 hSB6
  have hN8 := Bk.new w7 27 #[.int .i64 a0, .int .i64 a1, .int .i64 a2, .int .i64 a3, .int .i64 a4, .int .i64 a5, .int .i64 a6]
  have hSB8 := hSB7.alloc (.cells #[.int .i64 a0, .int .i64 a1, .int .i64 a2, .int .i64 a3, .int .i64 a4, .int .i64 a5, .int .i64 a6] 27)
  have hB8 := hB7.alloc (.cells #[.int .i64 a0, .int .i64 a1, .int .i64 a2, .int .i64 a3, .int .i64 a4, .int .i64 a5, .int .i64 a6] 27)
  have hG08 := hG07.alloc (.cells #[.int .i64 a0, .int .i64 a1, .int .i64 a2, .int .i64 a3, .int .i64 a4, .int .i64 a5, .int .i64 a6] 27)
  have hs7 := hSB7.lt
  have hl7 := hB7.lt
  have hgw : w.heap.size ≤ w7.heap.size := hG07.size
  clear hB7 hG07 hSB7
  go_wp2_with fail
  generalize w7.alloc (.cells #[.int .i64 a0, .int .i64 a1, .int .i64 a2, .int .i64 a3, .int .i64 a4, .int .i64 a5, .int .i64 a6] 27) = w8 at hN8 hSB8 hB8 hG08 ⊢
  generalize w7.heap.size = g at hN8 hs7 hl7 hgw ⊢
  refine (flip_c _ _ _ _ hSB8 (by omega) (by omega)).mono ?_; rintro e w9 ⟨q, rfl, hSB9, hG9⟩
  have hN9 := hN8.grown hG9 (fun e => by have := Option.some.inj e; omega)
  have hB9 := hB8.grown hG9 (fun e => by have := Option.some.inj e; omega)
  have hG09 := hG08.trans hG9
  clear hN8 hB8 hG08 hG9 hSB8
  cases q with
  | false =>
    go_wp2_with (first | (refine wpList_load_row rfl 27 _ rfl g rfl 27 #[.int .i64 a0, .int .i64 a1, .int .i64 a2, .int .i64 a3, .int .i64 a4, .int .i64 a5, .int .i64 a6] (0, 0) _ hN9 Tryd.underlying27 rfl (de_info ⟨a0, a1, a2, a3, a4, a5, a6⟩) ?_) | (refine wpList_store_row rfl 27 _ _ rfl w.heap.size #[.int .i64 a0, .int .i64 a1, .int .i64 a2, .int .i64 a3, .int .i64 a4, .int .i64 a5, .int .i64 a6] rfl rfl 27 _ hB9 (de_info ⟨a0, a1, a2, a3, a4, a5, a6⟩) rfl (de_one ⟨a0, a1, a2, a3, a4, a5, a6⟩) ?_) | (refine wpList_load_row rfl 27 _ rfl w.heap.size rfl 27 #[.int .i64 a0, .int .i64 a1, .int .i64 a2, .int .i64 a3, .int .i64 a4, .int .i64 a5, .int .i64 a6] (0, 0) _ (hB9.setRow _) Tryd.underlying27 rfl (de_info ⟨a0, a1, a2, a3, a4, a5, a6⟩) ?_))
    refine bodyPost_ret (results_cell_row rfl _ _ w.heap.size 27 #[.int .i64 a0, .int .i64 a1, .int .i64 a2, .int .i64 a3, .int .i64 a4, .int .i64 a5, .int .i64 a6] (0, 0) _ rfl (hB9.setRow _) Tryd.underlying27 rfl (de_info ⟨a0, a1, a2, a3, a4, a5, a6⟩)) rfl ?_
    exact deal_fin (x := ⟨a0, a1, a2, a3, a4, a5, a6⟩) hslt (hSB9.le (by omega)) hG09
  | true =>
    go_wp2_with fail
    refine (odd_c _ _ _ _ _ hSB9 (by omega) (by omega) (by omega) (by omega) (by omega)).mono ?_; rintro e wa ⟨b0, rfl, b0, b1, hSBa, hGa⟩
    have hNa := hN9.grown hGa (fun e => by have := Option.some.inj e; omega)
    have hBa := hB9.grown hGa (fun e => by have := Option.some.inj e; omega)
    have hG0a := hG09.trans hGa
    clear hN9 hB9 hG09 hGa hSB9 b0 b1
    go_wp2_with fail
    refine (odd_c _ _ _ _ _ hSBa (by omega) (by omega) (by omega) (by omega) (by omega)).mono ?_; rintro e wb ⟨b1, rfl, b0, b1, hSBb, hGb⟩
    have hNb := hNa.grown hGb (fun e => by have := Option.some.inj e; omega)
    have hBb := hBa.grown hGb (fun e => by have := Option.some.inj e; omega)
    have hG0b := hG0a.trans hGb
    clear hNa hBa hG0a hGb hSBa b0 b1
    go_wp2_with fail
    refine (odd_c _ _ _ _ _ hSBb (by omega) (by omega) (by omega) (by omega) (by omega)).mono ?_; rintro e wc ⟨b2, rfl, b0, b1, hSBc, hGc⟩
    have hNc := hNb.grown hGc (fun e => by have := Option.some.inj e; omega)
    have hBc := hBb.grown hGc (fun e => by have := Option.some.inj e; omega)
    have hG0c := hG0b.trans hGc
    clear hNb hBb hG0b hGc hSBb b0 b1
    go_wp2_with fail
    refine (odd_c _ _ _ _ _ hSBc (by omega) (by omega) (by omega) (by omega) (by omega)).mono ?_; rintro e wd ⟨b3, rfl, b0, b1, hSBd, hGd⟩
    have hNd := hNc.grown hGd (fun e => by have := Option.some.inj e; omega)
    have hBd := hBc.grown hGd (fun e => by have := Option.some.inj e; omega)
    have hG0d := hG0c.trans hGd
    clear hNc hBc hG0c hGd hSBc b0 b1
    have n0 : wd.cell? ⟨g, 0, none⟩ = some (.int .i64 a0) := hNd.cell 0
    have n1 : wd.cell? ⟨g, 1, none⟩ = some (.int .i64 a1) := hNd.cell 1
    have n2 : wd.cell? ⟨g, 2, none⟩ = some (.int .i64 a2) := hNd.cell 2
    have n3 : wd.cell? ⟨g, 3, none⟩ = some (.int .i64 a3) := hNd.cell 3
    have n4 : wd.cell? ⟨g, 4, none⟩ = some (.int .i64 a4) := hNd.cell 4
    have n5 : wd.cell? ⟨g, 5, none⟩ = some (.int .i64 a5) := hNd.cell 5
    have n6 : wd.cell? ⟨g, 6, none⟩ = some (.int .i64 a6) := hNd.cell 6
    have x0 := hNd.free 0
    have x3 := hNd.free 3
    have x4 := hNd.free 4
    have x6 := hNd.free 6
    go_upto_region 4 with fail
    have hNe : Bk ((((wd.setCell ⟨g, 0, none⟩ (.int .i64 b0)).setCell ⟨g, 3, none⟩ (.int .i64 b1)).setCell ⟨g, 4, none⟩ (.int .i64 b2)).setCell ⟨g, 6, none⟩ (.int .i64 b3)) g 27 #[.int .i64 b0, .int .i64 a1, .int .i64 a2, .int .i64 b1, .int .i64 b2, .int .i64 a5, .int .i64 b3] := (((hNd.set 0 _).set 3 _).set 4 _).set 6 _
    have hBe := ((((hBd.far (p := ⟨g, 0, none⟩) (show w.heap.size ≠ g by omega) (.int .i64 b0)).far (p := ⟨g, 3, none⟩) (show w.heap.size ≠ g by omega) (.int .i64 b1)).far (p := ⟨g, 4, none⟩) (show w.heap.size ≠ g by omega) (.int .i64 b2)).far (p := ⟨g, 6, none⟩) (show w.heap.size ≠ g by omega) (.int .i64 b3))
    have hSBe := ((((hSBd.setCell (p := ⟨g, 0, none⟩) hs7 (.int .i64 b0)).setCell (p := ⟨g, 3, none⟩) hs7 (.int .i64 b1)).setCell (p := ⟨g, 4, none⟩) hs7 (.int .i64 b2)).setCell (p := ⟨g, 6, none⟩) hs7 (.int .i64 b3))
    have hG0e := ((((hG0d.setCell (p := ⟨g, 0, none⟩) (.inl hgw) (.int .i64 b0)).setCell (p := ⟨g, 3, none⟩) (.inl hgw) (.int .i64 b1)).setCell (p := ⟨g, 4, none⟩) (.inl hgw) (.int .i64 b2)).setCell (p := ⟨g, 6, none⟩) (.inl hgw) (.int .i64 b3))
    generalize ((((wd.setCell ⟨g, 0, none⟩ (.int .i64 b0)).setCell ⟨g, 3, none⟩ (.int .i64 b1)).setCell ⟨g, 4, none⟩ (.int .i64 b2)).setCell ⟨g, 6, none⟩ (.int .i64 b3)) = we at hNe hBe hSBe hG0e ⊢
    clear hNd hBd hSBd hG0d n0 n1 n2 n3 n4 n5 n6 x0 x3 x4 x6
    go_wp2_with (first | (refine wpList_load_row rfl 27 _ rfl g rfl 27 #[.int .i64 b0, .int .i64 a1, .int .i64 a2, .int .i64 b1, .int .i64 b2, .int .i64 a5, .int .i64 b3] (0, 0) _ hNe Tryd.underlying27 rfl (de_info ⟨b0, a1, a2, b1, b2, a5, b3⟩) ?_) | (refine wpList_store_row rfl 27 _ _ rfl w.heap.size #[.int .i64 b0, .int .i64 a1, .int .i64 a2, .int .i64 b1, .int .i64 b2, .int .i64 a5, .int .i64 b3] rfl rfl 27 _ hBe (de_info ⟨b0, a1, a2, b1, b2, a5, b3⟩) rfl (de_one ⟨b0, a1, a2, b1, b2, a5, b3⟩) ?_) | (refine wpList_load_row rfl 27 _ rfl w.heap.size rfl 27 #[.int .i64 b0, .int .i64 a1, .int .i64 a2, .int .i64 b1, .int .i64 b2, .int .i64 a5, .int .i64 b3] (0, 0) _ (hBe.setRow _) Tryd.underlying27 rfl (de_info ⟨b0, a1, a2, b1, b2, a5, b3⟩) ?_))
    refine bodyPost_ret (results_cell_row rfl _ _ w.heap.size 27 #[.int .i64 b0, .int .i64 a1, .int .i64 a2, .int .i64 b1, .int .i64 b2, .int .i64 a5, .int .i64 b3] (0, 0) _ rfl (hBe.setRow _) Tryd.underlying27 rfl (de_info ⟨b0, a1, a2, b1, b2, a5, b3⟩)) rfl ?_
    exact deal_fin (x := ⟨b0, a1, a2, b1, b2, a5, b3⟩) hslt (hSBe.le (by omega)) hG0e
end Go.Proofs.YtdcofbciebkfkaaDoor

/- Hires: lists of legs, hires compared; hired. -/
namespace Go.Proofs.YtdcofbciebkfkaaDoor
open Go.RowKit

theorem lg_neq (x y : Lg) (w : World) : (binOp .neq 79 (.agg (lgC x)) (.agg (lgC y))).run Tryd.prog w = .ok (.bool (!(decide (x = y)))) w := by
  have ht : Tryd.prog.underlying 79 = some (.struct (Tryd.prog.fieldsOf 79)) := by kernel_rfl
  have hp : Tryd.prog.stoodInHeld 79 = false := by kernel_rfl
  rw [run_neq_struct, run_equalIn_agg w 9999 79 _ _ ht hp]
  obtain ⟨a, ⟨b, c, d, e⟩, f, g, h, i⟩ := x
  obtain ⟨a', ⟨b', c', d', e'⟩, f', g', h', i'⟩ := y
  simp [lgC, Tryd.underlying79, Tryd.underlying37, Tryd.underlying3, Tryd.underlying9, go_sem]
  have tl : ∀ u v : ByteArray, (u.toList = v.toList) ↔ u = v := fun u v => ⟨toList_ext, fun h => by rw [h]⟩
  simp only [tl]
  by_cases h1 : a = a'
  · by_cases h2 : b = b'
    · by_cases h3 : c = c'
      · by_cases h4 : d = d'
        · by_cases h5 : e = e'
          · by_cases h6 : f = f'
            · by_cases h7 : g = g'
              · by_cases h8 : h = h' <;> by_cases h9 : i = i' <;> simp [h1, h2, h3, h4, h5, h6, h7, h8, h9]
              · simp [h1, h2, h3, h4, h5, h6, h7]
            · simp [h1, h2, h3, h4, h5, h6]
          · simp [h1, h2, h3, h4, h5]
        · simp [h1, h2, h3, h4]
      · simp [h1, h2, h3]
    · simp [h1, h2]
  · simp [h1]
def EqlRel (l m : List Lg) (w : World) (i : Value) (wr : World) : Prop := ∃ k n : Nat, k ≤ l.length ∧ i = .int .i64 k ∧ l.take k = m.take k ∧ wr = w.drewN n
theorem take_succ_lg {l m : List Lg} {k : Nat} {x : Lg} (h : l.take k = m.take k) (hx : l[k]? = some x) (hy : m[k]? = some x) : l.take (k + 1) = m.take (k + 1) := by
  rw [List.take_add_one, List.take_add_one, h, hx, hy]
set_option maxRecDepth 100000 in
set_option maxHeartbeats 4000000 in
theorem lgEqual_c (v u : Value) (l m : List Lg) (w : World) (hr : RdR w 9 lgC v l) (hs : RdR w 9 lgC u m) (hn : l.length ≤ 1000000) :
    Calls Tryd.prog 100 #[v, u] w fun e w' => e = .returned (.bool (decide (l = m))) ∧ G w w' none := by
  have HR := Lib.hid hr
  have HS := Lib.hid hs
  obtain ⟨a, cap, rfl, hcap, hm1⟩ := RdR.form hr
  obtain ⟨a2, cap2, rfl, hcap2, hm2⟩ := RdR.form hs
  clear hr hs
  by_cases hlen : l.length = m.length
  · have hlq : ((l.length : Int) != (m.length : Int)) = false := by rw [hlen]; simp
    have hlq2 : ((m.length : Int) != (l.length : Int)) = false := by rw [hlen]; simp
    have HL := Lib.hid hlen
    clear hlen
    go_enter Tryd.func100, Tryd.ntmps100
    go_wp2_with fail
    go_loopw [13] (EqlRel l m w) (fun i _ => l.length - (intOf i).toNat)
    case atStart => exact ⟨0, 0, by omega, rfl, rfl, rfl⟩
    case round =>
      obtain ⟨k, n, hk, rfl, heq, rfl⟩ := hrel
      have HE := Lib.hid heq
      clear heq
      by_cases hlt : k < l.length
      · obtain ⟨x, hx⟩ : ∃ x, l[k]? = some x := ⟨_, List.getElem?_eq_getElem hlt⟩
        obtain ⟨y, hy⟩ : ∃ y, m[k]? = some y := ⟨_, List.getElem?_eq_getElem (by rw [← HL.out]; exact hlt)⟩
        have hlt2 : k < m.length := by have := HL.out; omega
        obtain ⟨bb, bo, rfl, hbb, _⟩ := RdR.elem lgC_sz HR.out (G.refl w none) hx
        obtain ⟨b2, o2, rfl, hb2, _⟩ := RdR.elem lgC_sz HS.out (G.refl w none) hy
        have d0 := RdR.cell lgC_sz HR.out (G.refl w none) hx 0 (.string x.1) rfl
        have d1 := RdR.cell lgC_sz HR.out (G.refl w none) hx 1 (.int .i64 x.2.1.1) rfl
        have d2 := RdR.cell lgC_sz HR.out (G.refl w none) hx 2 (.string x.2.1.2.1) rfl
        have d3 := RdR.cell lgC_sz HR.out (G.refl w none) hx 3 (.int .i64 x.2.1.2.2.1) rfl
        have d4 := RdR.cell lgC_sz HR.out (G.refl w none) hx 4 (.int .i64 x.2.1.2.2.2) rfl
        have d5 := RdR.cell lgC_sz HR.out (G.refl w none) hx 5 (.int .i64 x.2.2.1) rfl
        have d6 := RdR.cell lgC_sz HR.out (G.refl w none) hx 6 (.string x.2.2.2.1) rfl
        have d7 := RdR.cell lgC_sz HR.out (G.refl w none) hx 7 (.int .i64 x.2.2.2.2.1) rfl
        have d8 := RdR.cell lgC_sz HR.out (G.refl w none) hx 8 (.int .i64 x.2.2.2.2.2) rfl
        have e0 := RdR.cell lgC_sz HS.out (G.refl w none) hy 0 (.string y.1) rfl
        have e1 := RdR.cell lgC_sz HS.out (G.refl w none) hy 1 (.int .i64 y.2.1.1) rfl
        have e2 := RdR.cell lgC_sz HS.out (G.refl w none) hy 2 (.string y.2.1.2.1) rfl
        have e3 := RdR.cell lgC_sz HS.out (G.refl w none) hy 3 (.int .i64 y.2.1.2.2.1) rfl
        have e4 := RdR.cell lgC_sz HS.out (G.refl w none) hy 4 (.int .i64 y.2.1.2.2.2) rfl
        have e5 := RdR.cell lgC_sz HS.out (G.refl w none) hy 5 (.int .i64 y.2.2.1) rfl
        have e6 := RdR.cell lgC_sz HS.out (G.refl w none) hy 6 (.string y.2.2.2.1) rfl
        have e7 := RdR.cell lgC_sz HS.out (G.refl w none) hy 7 (.int .i64 y.2.2.2.2.1) rfl
        have e8 := RdR.cell lgC_sz HS.out (G.refl w none) hy 8 (.int .i64 y.2.2.2.2.2) rfl
        simp only [Nat.add_zero] at d0 e0
        have HX := Lib.hid hx
        have HY := Lib.hid hy
        clear hx hy
        by_cases hxy : x = y
        · have hnq : ∀ w : World, (binOp .neq 79 (.agg #[.string x.1, .int .i64 x.2.1.1, .string x.2.1.2.1, .int .i64 x.2.1.2.2.1, .int .i64 x.2.1.2.2.2, .int .i64 x.2.2.1, .string x.2.2.2.1, .int .i64 x.2.2.2.2.1, .int .i64 x.2.2.2.2.2]) (.agg #[.string y.1, .int .i64 y.2.1.1, .string y.2.1.2.1, .int .i64 y.2.1.2.2.1, .int .i64 y.2.1.2.2.2, .int .i64 y.2.2.1, .string y.2.2.2.1, .int .i64 y.2.2.2.2.1, .int .i64 y.2.2.2.2.2])).run Tryd.prog w = .ok (.bool false) w := fun w => by
            have := lg_neq x y w
            rw [decide_eq_true hxy] at this
            exact this
          have HT : Hid (l.take (k + 1) = m.take (k + 1)) := Lib.hid (take_succ_lg HE.out HX.out (by rw [hxy]; exact HY.out))
          clear hxy HX HY
          go_wp2_with fail
          go_quiet (fail)
          go_wp2_with fail
          go_roundw
          case rel => exact ⟨k + 1, _, by omega, by go_num, HT.out, rfl⟩
          case measure => simp [intOf]; omega
        · have hnq : ∀ w : World, (binOp .neq 79 (.agg #[.string x.1, .int .i64 x.2.1.1, .string x.2.1.2.1, .int .i64 x.2.1.2.2.1, .int .i64 x.2.1.2.2.2, .int .i64 x.2.2.1, .string x.2.2.2.1, .int .i64 x.2.2.2.2.1, .int .i64 x.2.2.2.2.2]) (.agg #[.string y.1, .int .i64 y.2.1.1, .string y.2.1.2.1, .int .i64 y.2.1.2.2.1, .int .i64 y.2.1.2.2.2, .int .i64 y.2.2.1, .string y.2.2.2.1, .int .i64 y.2.2.2.2.1, .int .i64 y.2.2.2.2.2])).run Tryd.prog w = .ok (.bool true) w := fun w => by
            have := lg_neq x y w
            rw [decide_eq_false hxy] at this
            exact this
          have HT : Hid (decide (l = m) = false) := Lib.hid (decide_eq_false (fun e => hxy (by have h1 := HX.out; rw [e, HY.out] at h1; exact (Option.some.inj h1).symm)))
          clear hxy HX HY
          go_wp2_with fail
          go_quiet (fail)
          go_wp2_with fail
          go_ret
          exact ⟨ret_bool HT.out.symm, ((G.refl _ _).drewN _).drewN _⟩
      · obtain rfl : k = l.length := by omega
        have HT : Hid (decide (l = m) = true) := Lib.hid (decide_eq_true (by have h := HE.out; rwa [List.take_length, HL.out, List.take_length] at h))
        go_wp2_with fail
        go_ret
        exact ⟨ret_bool HT.out.symm, (G.refl _ _).drewN _⟩
  · have hlq : ((l.length : Int) != (m.length : Int)) = true := by rw [bne_iff_ne]; omega
    have hlq2 : ¬ l.length = m.length := hlen
    have HT : Hid (decide (l = m) = false) := Lib.hid (decide_eq_false (fun e => hlen (by rw [e])))
    clear hlen
    go_enter Tryd.func100, Tryd.ntmps100
    go_wp2_with fail
    go_ret
    exact ⟨ret_bool HT.out.symm, G.refl _ _⟩
theorem wi_eql (x y : Int) (w : World) : (binOp .eql 30 (.agg #[.int .i64 x, .int .i64 y]) (.agg #[.int .i64 x, .int .i64 y])).run Tryd.prog w = .ok (.bool true) w := by
  have ht : Tryd.prog.underlying 30 = some (.struct (Tryd.prog.fieldsOf 30)) := by kernel_rfl
  have hp : Tryd.prog.stoodInHeld 30 = false := by kernel_rfl
  rw [run_eql_struct, run_equalIn_agg w 9999 30 _ _ ht hp]
  simp [Tryd.underlying30, Tryd.underlying3, go_sem]
set_option maxRecDepth 100000 in
set_option maxHeartbeats 2000000 in
theorem sameHire_c (h : Hh) (u v : Value) (l : List Lg) (w : World) (hr : RdR w 9 lgC u l) (hs : RdR w 9 lgC v l) (hn : l.length ≤ 1000) :
    Calls Tryd.prog 28 #[.agg (hiC h u), .agg (hiC h v)] w fun e w' => e = .returned (.bool true) ∧ G w w' none := by
  have hA := (Bk.new w 33 (hiC h u)).alloc (.cells (hiC h v) 33)
  have hB := Bk.newAt (w := w.alloc (.cells (hiC h u) 33)) (b := w.heap.size + 1) (by simp) 33 (hiC h v)
  have hG := ((G.refl w none).alloc (.cells (hiC h u) 33)).alloc (.cells (hiC h v) 33)
  have HR := Lib.hid (hr.quiet hG)
  have HS := Lib.hid (hs.quiet hG)
  obtain ⟨h1, h2, h3, h4⟩ := h
  clear hr hs
  simp only [hiC] at hA hB hG HR HS ⊢
  go_enter Tryd.func28, Tryd.ntmps28
  go_upto_region 1 with fail
  generalize (w.alloc (.cells #[.string h1, .string h2, .int .i64 h3, .int .i64 h4, u] 33)).alloc (.cells #[.string h1, .string h2, .int .i64 h3, .int .i64 h4, v] 33) = w2 at hA hB hG HR HS ⊢
  have a0 : w2.cell? ⟨w.heap.size, 0, none⟩ = some (.string h1) := hA.cell 0
  have a1 : w2.cell? ⟨w.heap.size, 1, none⟩ = some (.string h2) := hA.cell 1
  have a4 : w2.cell? ⟨w.heap.size, 4, none⟩ = some u := hA.cell 4
  have b0 : w2.cell? ⟨w.heap.size + 1, 0, none⟩ = some (.string h1) := hB.cell 0
  have b1 : w2.cell? ⟨w.heap.size + 1, 1, none⟩ = some (.string h2) := hB.cell 1
  have b4 : w2.cell? ⟨w.heap.size + 1, 4, none⟩ = some v := hB.cell 4
  have a2 : w2.cell? ⟨w.heap.size, 2, none⟩ = some (.int .i64 h3) := hA.cell 2
  have a3 : w2.cell? ⟨w.heap.size, 3, none⟩ = some (.int .i64 h4) := hA.cell 3
  have b2 : w2.cell? ⟨w.heap.size + 1, 2, none⟩ = some (.int .i64 h3) := hB.cell 2
  have b3 : w2.cell? ⟨w.heap.size + 1, 3, none⟩ = some (.int .i64 h4) := hB.cell 3
  have hq := wi_eql h3 h4
  go_wp2_with fail
  refine (lgEqual_c u v l l _ HR.out HS.out (by omega)).mono ?_; rintro e w3 ⟨rfl, hG3⟩
  rw [decide_eq_true (rfl : l = l)]
  go_wp2_with fail
  go_ret
  exact ⟨rfl, hG.trans hG3⟩
def h1K : Hh := (⟨#[104]⟩, ⟨#[100]⟩, 5, 9)
def h1R : Rg := (5, ⟨#[115]⟩, 0, 0)
theorem h1_ok : hiE h1K [(⟨#[118]⟩, h1R, noIn)] = 0 := by decide +kernel
set_option maxRecDepth 100000 in
set_option maxHeartbeats 2000000 in
theorem start1_c (w : World) : Calls Tryd.prog 21 #[.string ⟨#[104]⟩, .string ⟨#[100]⟩, .agg #[.int .i64 5, .int .i64 9], .string ⟨#[118]⟩, .agg #[.int .i64 5, .string ⟨#[115]⟩, .int .i64 0, .int .i64 0]] w
    fun e w' => ∃ a c, e = .returned (.tuple #[.agg #[.string ⟨#[104]⟩, .string ⟨#[100]⟩, .int .i64 5, .int .i64 9, .slice a 1 c], .int .i64 0]) ∧ G w w' none := by
  refine (start_c h1K ⟨#[118]⟩ h1R w (small_of (by decide)) (small_of (by decide)) (small_of (by decide)) (small_of (by decide)) (by unfold bnd h1K; dsimp only; omega) (by unfold bnd h1K; dsimp only; omega)).mono ?_
  rintro e w' ⟨H, a, n, c, rfl, hH, -, hR, hG⟩
  rw [h1_ok] at hH hR
  obtain rfl : H = h1K := hH
  obtain ⟨a', c', hv, -, -⟩ := RdR.form hR
  obtain rfl : n = 1 := by cases hv; rfl
  exact ⟨a, c, by rw [h1_ok]; rfl, hG⟩
set_option maxRecDepth 100000 in
set_option maxHeartbeats 2000000 in
theorem hired_c (w : World) : Calls Tryd.prog 29 #[] w fun e w' => e = .returned (.bool true) ∧ G w w' none := by
  go_enter Tryd.func29, Tryd.ntmps29
  go_wp2_with fail
  refine (start1_c _).mono ?_; rintro e w2 ⟨a, c, rfl, hG2⟩
  go_wp2_with fail
  go_ret
  exact ⟨rfl, hG2.alloc _⟩
end Go.Proofs.YtdcofbciebkfkaaDoor

/- A struct that is loaded behind '&&' or '||'. No program. -/
namespace Go.Proofs.YtdcofbciebkfkaaDoor
open Go.RowKit

theorem wpList_load_gd {P : Program} {ops : Array Oper} {rest : List Oper} {o : Oper} {a : Act} {w : World} {Q : Exit → Act → World → Prop} (hw : Region.wanted o (yielded ops a.tmps) = true) (ty : TypeId) (x : Operand) (ho : o.op = .load ty x)
    (ad : Addr) (hx : a.eval x = .pointer (some ad)) (cs : Array Value) (d : TypeDesc) (hc : ∀ j v, cs.toList[j]? = some v → w.cell? (ad.add j) = some v)
    (hu : P.underlying ty = some d) (hd : (match d with | .struct _ | .array _ _ => true | _ => false) = true) (hi : (P.info? ty).map (·.size) = some cs.size)
    (h : wpList P ops Q rest (a.put o.dst (.agg cs)) w) : wpList P ops Q (o :: rest) a w :=
  wpList_step fun K hK => by
    rw [if_pos hw]
    unfold Oper.wp execOp
    simp only [ho, hx, Instr.loadAt, Instr.sureAddr, Sem.run_bind, Sem.run_pure, Result.andThen_ok, run_loadVar_at w ad ty cs d hc hu hd hi]
    exact hK _ _ h
end Go.Proofs.YtdcofbciebkfkaaDoor
