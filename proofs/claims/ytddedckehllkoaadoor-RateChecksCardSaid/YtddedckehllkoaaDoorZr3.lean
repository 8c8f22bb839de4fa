/- Exr, Pck, GenE, GenR, Gck, GenQ, GenW, Rao, Raf, Tim. -/
import Derived.Test.YtddedckehllkoaaDoorZr2
import Derived.Test.YtddedckehllkoaaDoorZr1
import Derived.Deep.RegionHeld3
import Derived.Laws.ResultCell
import Derived.Outline
/- Extras: ExtraCost, ExtraOf. -/
namespace Go.Proofs.YtddedckehllkoaaDoor
open Go.RowKit

def ecE (l : List Ext) (k : ByteArray) (d : Int) : Int := if exE l = 0 then (if (l.find? (exF k)).isSome = true then (if inB d 1 120 = true then 0 else 1) else 8) else exE l
def ecN (l : List Ext) (k : ByteArray) (d : Int) : Int := if ecE l k d = 0 then (match l.find? (exF k) with | some x => costF x d | none => 0) else 0
theorem exAt_find (l : List Ext) (k : ByteArray) : (exAt l k = -1 ∧ l.find? (exF k) = none) ∨ ∃ (i : Nat) (p : Ext), exAt l k = (i : Int) ∧ l[i]? = some p ∧ l.find? (exF k) = some p := by
  rcases ixP_find (exF k) l 0 with h | ⟨i, p, h1, h2, h3⟩
  · exact .inl h
  · rw [Nat.zero_add] at h1
    exact .inr ⟨i, p, h1, h2, h3⟩
set_option maxRecDepth 100000 in
set_option maxHeartbeats 4000000 in
theorem extraCost_c (v : Value) (l : List Ext) (k : ByteArray) (d : Int) (w : World) (hr : RdR w 4 exC v l) (hl : ExOk l) (hn : l.length ≤ 1000) :
    Calls Tryd.prog 37 #[v, .string k, .int .i64 d] w fun e w' => e = .returned (.tuple #[.int .i64 (ecN l k d), .int .i64 (ecE l k d)]) ∧ G w w' none := by
  have HR := Lib.hid hr
  clear hr
  by_cases h0 : exE l = 0
  · rcases exAt_find l k with ⟨h1, h2⟩ | ⟨i, p, h1, h2, h3⟩
    · have HE : Hid (ecE l k d = 8) := Lib.hid (by simp [ecE, h0, h2])
      have HN : Hid (ecN l k d = 0) := Lib.hid (by rw [ecN, if_neg (by rw [HE.out]; decide)])
      go_enter Tryd.func37, Tryd.ntmps37
      go_wp2_with fail
      refine (checkExtras_c v l _ HR.out hl hn).mono ?_; rintro e w1 ⟨rfl, hG1⟩
      rw [h0]
      go_wp2_with fail
      refine (indexOfExtra_c v l k _ (HR.out.quiet hG1) hn).mono ?_; rintro e w2 ⟨rfl, hG2⟩
      rw [h1]
      go_wp2_with fail
      go_ret2
      exact ⟨by rw [HE.out, HN.out]; rfl, hG1.trans hG2⟩
    · have hin := exErr_in (exE_zero h0).1 p (List.mem_of_getElem? h2)
      cases hd : inB d 1 120 with
      | false =>
        have HE : Hid (ecE l k d = 1) := Lib.hid (by simp [ecE, h0, h3, hd])
        have HN : Hid (ecN l k d = 0) := Lib.hid (by rw [ecN, if_neg (by rw [HE.out]; decide)])
        clear h2 h3
        go_enter Tryd.func37, Tryd.ntmps37
        go_wp2_with fail
        refine (checkExtras_c v l _ HR.out hl hn).mono ?_; rintro e w1 ⟨rfl, hG1⟩
        rw [h0]
        go_wp2_with fail
        refine (indexOfExtra_c v l k _ (HR.out.quiet hG1) hn).mono ?_; rintro e w2 ⟨rfl, hG2⟩
        rw [h1]
        go_wp2_with fail
        refine (within_c _ _ _ _).mono ?_; rintro e w' ⟨rfl, rfl⟩
        rw [hd]
        go_wp2_with fail
        go_ret2
        exact ⟨by rw [HE.out, HN.out]; rfl, hG1.trans hG2⟩
      | true =>
        have hd2 : 1 ≤ d ∧ d ≤ 120 := by
          unfold inB at hd
          simpa using hd
        have HE : Hid (ecE l k d = 0) := Lib.hid (by simp [ecE, h0, h3, hd])
        have HN : Hid (ecN l k d = costF p d) := Lib.hid (by rw [ecN, if_pos HE.out, h3])
        have HP := Lib.hid h2
        have hil := (List.getElem?_eq_some_iff.1 h2).1
        clear h2 h3
        obtain ⟨d1, d2⟩ := hd2
        obtain ⟨a, cap, rfl, hcap, hm⟩ := RdR.form HR.out
        go_enter Tryd.func37, Tryd.ntmps37
        go_wp2_with fail
        refine (checkExtras_c _ l _ HR.out hl hn).mono ?_; rintro e w1 ⟨rfl, hG1⟩
        rw [h0]
        go_wp2_with fail
        refine (indexOfExtra_c _ l k _ (HR.out.quiet hG1) hn).mono ?_; rintro e w2 ⟨rfl, hG2⟩
        rw [h1]
        have hG02 := hG1.trans hG2
        clear hG1 hG2
        go_wp2_with fail
        refine (within_c _ _ _ _).mono ?_; rintro e w' ⟨rfl, rfl⟩
        rw [hd]
        obtain ⟨bb, bo, rfl, hbb, hrow⟩ := RdR.elem exC_sz HR.out hG02 HP.out
        have HW := Lib.hid hrow
        clear hrow
        go_wp2_with (refine wpList_load_at rfl 130 _ rfl ⟨bb, bo + i * 4, none⟩ rfl (exC p) _ HW.out Tryd.underlying130 rfl (ex_info p) ?_)
        refine (costOfExtra_c p d _ hin (by omega) (by omega)).mono ?_; rintro e w3 ⟨rfl, hG3⟩
        go_wp2_with fail
        go_ret2
        exact ⟨by rw [HE.out, HN.out]; rfl, hG02.trans hG3⟩
  · have HE : Hid (ecE l k d = exE l) := Lib.hid (by simp [ecE, h0])
    have HN : Hid (ecN l k d = 0) := Lib.hid (by rw [ecN, if_neg (by rw [HE.out]; exact h0)])
    have h1 : (exE l != 0) = true := by rw [bne_iff_ne]; exact h0
    clear h0
    go_enter Tryd.func37, Tryd.ntmps37
    go_wp2_with fail
    refine (checkExtras_c v l _ HR.out hl hn).mono ?_; rintro e w1 ⟨rfl, hG1⟩
    go_wp2_with fail
    go_ret2
    exact ⟨by rw [HE.out, HN.out]; rfl, hG1⟩

/-! ### The reference's ExtraOf -/
def accN (day most : Int) : Nat → Int
  | 0 => 0
  | n + 1 => if 0 ≤ most then min (accN day most n + day) most else accN day most n + day
theorem accN_in {day most : Int} (h1 : 0 ≤ day) (h2 : day ≤ 1000000) (h3 : -1 ≤ most) (n : Nat) : 0 ≤ accN day most n ∧ accN day most n ≤ 1000000 * n := by
  induction n with
  | zero => exact ⟨Int.le_refl _, by simp [accN]⟩
  | succ n ih =>
    unfold accN
    split <;> omega
theorem accN_eq {day most : Int} (h1 : 0 ≤ day) (n : Nat) : accN day most n = if 0 ≤ most then min (day * n) most else day * n := by
  induction n with
  | zero => simp [accN]; intro h; omega
  | succ n ih =>
    have e : day * ((n + 1 : Nat) : Int) = day * n + day := by rw [Int.natCast_succ, Int.mul_add, Int.mul_one]
    have e0 : 0 ≤ day * (n : Int) := Int.mul_nonneg h1 (Int.natCast_nonneg n)
    rw [e]
    unfold accN
    rw [ih]
    generalize day * (n : Int) = z at e0
    split <;> omega
def eoF (l : List Ext) (k : ByteArray) (d : Nat) : Int × Bool := match l.find? (exF k) with | some x => (x.2.1 + accN x.2.2.1 x.2.2.2 d, true) | none => (0, false)
def EoRel (w : World) (l : List Ext) (k : ByteArray) (i : Value) (wr : World) : Prop :=
  ∃ n : Nat, n ≤ l.length ∧ i = .int .i64 n ∧ l.find? (exF k) = (l.drop n).find? (exF k) ∧ G w wr none
def AccRel (day most : Int) (d : Nat) (s10 s22 : Value) : Prop := ∃ j : Nat, j ≤ d ∧ s22 = .int .i64 j ∧ s10 = .int .i64 (accN day most j)
set_option maxRecDepth 100000 in
set_option maxHeartbeats 4000000 in
theorem extraOf_c (v : Value) (l : List Ext) (k : ByteArray) (d : Nat) (w : World) (hr : RdR w 4 exC v l) (h0 : exE l = 0) (hd : d ≤ 120) :
    Calls Tryd.prog 43 #[v, .string k, .int .i64 d] w fun e w' => e = .returned (.tuple #[.int .i64 (eoF l k d).1, .bool (eoF l k d).2]) ∧ G w w' none := by
  have HR := Lib.hid hr
  have HIN := Lib.hid (exErr_in (exE_zero h0).1)
  have hn := (exE_zero h0).2
  obtain ⟨a, cap, rfl, hcap, hm⟩ := RdR.form hr
  clear hr h0
  go_enter Tryd.func43, Tryd.ntmps43
  go_wp2_with fail
  go_loopw [13] (EoRel w l k) (fun i _ => l.length - (intOf i).toNat)
  case atStart => exact ⟨0, by omega, rfl, rfl, G.refl _ _⟩
  case round =>
    obtain ⟨n, hnl, rfl, heq, hG⟩ := hrel
    have HE := Lib.hid heq
    clear heq
    by_cases hlt : n < l.length
    · obtain ⟨p, hp⟩ : ∃ p, l[n]? = some p := ⟨_, List.getElem?_eq_getElem hlt⟩
      have HD : Hid (l.find? (exF k) = if exF k p = true then some p else (l.drop (n + 1)).find? (exF k)) := Lib.hid (by
        rw [HE.out, List.drop_eq_getElem_cons hlt, (List.getElem?_eq_some_iff.1 hp).2, List.find?_cons]
        split <;> simp_all)
      have hin := HIN.out p (List.mem_of_getElem? hp)
      obtain ⟨bb, bo, rfl, hbb, hrow⟩ := RdR.elem exC_sz HR.out hG hp
      have HW := Lib.hid hrow
      clear hrow hp
      have hef : exF k p = eqB p.1 k := rfl
      cases he : exF k p with
      | true =>
        have HF : Hid (eoF l k d = (p.2.1 + accN p.2.2.1 p.2.2.2 d, true)) := Lib.hid (by rw [eoF, HD.out, if_pos he])
        rw [he] at hef
        have heq := hef.symm
        unfold eqB at heq
        clear he hef
        obtain ⟨⟨a1, a2⟩, ⟨b1, b2⟩, c1, c2⟩ := hin
        go_wp2_with (refine wpList_load_at rfl 130 _ rfl ⟨bb, bo + n * 4, none⟩ rfl #[.string p.1, .int .i64 p.2.1, .int .i64 p.2.2.1, .int .i64 p.2.2.2] _ HW.out Tryd.underlying130 rfl (ex_info p) ?_)
        have hB5 := Bk.new wr 130 (exC p)
        have hc1 : (wr.alloc (.cells #[.string p.1, .int .i64 p.2.1, .int .i64 p.2.2.1, .int .i64 p.2.2.2] 130)).cell? ⟨wr.heap.size, 1, none⟩ = some (.int .i64 p.2.1) := hB5.cell 1
        have hc2 : (wr.alloc (.cells #[.string p.1, .int .i64 p.2.1, .int .i64 p.2.2.1, .int .i64 p.2.2.2] 130)).cell? ⟨wr.heap.size, 2, none⟩ = some (.int .i64 p.2.2.1) := hB5.cell 2
        have hc3 : (wr.alloc (.cells #[.string p.1, .int .i64 p.2.1, .int .i64 p.2.2.1, .int .i64 p.2.2.2] 130)).cell? ⟨wr.heap.size, 3, none⟩ = some (.int .i64 p.2.2.2) := hB5.cell 3
        have hG3 := hG.alloc (.cells #[.string p.1, .int .i64 p.2.1, .int .i64 p.2.2.1, .int .i64 p.2.2.2] 130)
        generalize wr.alloc (.cells #[.string p.1, .int .i64 p.2.1, .int .i64 p.2.2.1, .int .i64 p.2.2.2] 130) = w3 at hc1 hc2 hc3 hG3 ⊢
        clear hB5 hG HW
        go_loop [10, 22] (AccRel p.2.2.1 p.2.2.2 d) (fun _ i => d - (intOf i).toNat)
        case atStart => exact ⟨0, by omega, rfl, rfl⟩
        case round =>
          obtain ⟨j, hj, rfl, rfl⟩ := hrel
          obtain ⟨z1, z2⟩ := accN_in b1 b2 c1 j (most := p.2.2.2)
          by_cases hjd : j < d
          · by_cases hmo : 0 ≤ p.2.2.2
            · have HA : Hid (accN p.2.2.1 p.2.2.2 (j + 1) = min (accN p.2.2.1 p.2.2.2 j + p.2.2.1) p.2.2.2) := Lib.hid (by show (if _ then _ else _) = _; rw [if_pos hmo])
              go_wp2_with fail
              go_round
              case rel => exact ⟨j + 1, by omega, by go_num, by rw [HA.out]⟩
              case measure => simp [intOf]; omega
            · have HA : Hid (accN p.2.2.1 p.2.2.2 (j + 1) = accN p.2.2.1 p.2.2.2 j + p.2.2.1) := Lib.hid (by show (if _ then _ else _) = _; rw [if_neg hmo])
              have hmo' : p.2.2.2 < 0 := by omega
              clear hmo
              go_wp2_with fail
              go_round
              case rel => exact ⟨j + 1, by omega, by go_num, by rw [HA.out]⟩
              case measure => simp [intOf]; omega
          · obtain rfl : j = d := by omega
            go_wp2_with fail
            go_ret2
            exact ⟨by rw [HF.out]; rfl, hG3⟩
      | false =>
        have HF : Hid (l.find? (exF k) = (l.drop (n + 1)).find? (exF k)) := Lib.hid (by rw [HD.out, if_neg (by simp [he])])
        rw [he] at hef
        have heq := hef.symm
        unfold eqB at heq
        clear he hef
        go_wp2_with (refine wpList_load_at rfl 130 _ rfl ⟨bb, bo + n * 4, none⟩ rfl #[.string p.1, .int .i64 p.2.1, .int .i64 p.2.2.1, .int .i64 p.2.2.2] _ HW.out Tryd.underlying130 rfl (ex_info p) ?_)
        go_roundw
        case rel => exact ⟨n + 1, by omega, by go_num, HF.out, hG.alloc _⟩
        case measure => simp [intOf]; omega
    · obtain rfl : n = l.length := by omega
      have HF : Hid (eoF l k d = (0, false)) := Lib.hid (by rw [eoF, HE.out, List.drop_length]; rfl)
      go_wp2_with fail
      go_ret2
      exact ⟨by rw [HF.out]; rfl, hG⟩
/-- The two agree. -/
theorem eo_cost {l : List Ext} {k : ByteArray} {x : Ext} {d : Int} (h0 : exE l = 0) (hx : l.find? (exF k) = some x) (h1 : 1 ≤ d) : (eoF l k d.toNat).1 = costF x d := by
  obtain ⟨n, rfl⟩ := Int.eq_ofNat_of_zero_le (show 0 ≤ d by omega)
  obtain ⟨_, ⟨b1, _⟩, c1, _⟩ := exErr_in (exE_zero h0).1 x (List.mem_of_find?_eq_some hx)
  rw [eoF, hx, costF]
  show x.2.1 + accN x.2.2.1 x.2.2.2 n = _
  rw [accN_eq b1]
  congr 1
  by_cases h : x.2.2.2 = -1
  · rw [if_pos h, if_neg (by omega)]
  · rw [if_neg h, if_pos (by omega)]
end Go.Proofs.YtddedckehllkoaaDoor

/- What was picked; a block as a row; 'when' at literals. -/
namespace Go.Proofs.YtddedckehllkoaaDoor
open Go.RowKit

theorem small_of {s : ByteArray} (h : s.size ≤ 100) : Small s := by unfold Small; omega
theorem bnd_pick {zs : List Int} {r : Int} (h : r ∈ zs) (hz : zs.all (fun z => decide (-1099511627776 ≤ z ∧ z ≤ 1099511627776)) = true) : bnd r := by
  unfold bnd
  exact of_decide_eq_true (List.all_eq_true.1 hz r h)
theorem small_pick {zs : List ByteArray} {r : ByteArray} (h : r ∈ zs) (hz : zs.all (fun z => decide (z.size ≤ 100)) = true) : Small r := small_of (of_decide_eq_true (List.all_eq_true.1 hz r h))
theorem Bk.rd {w : World} {g : Nat} {T : TypeId} {cs : Array Value} (h : Bk w g T cs) (z n : Nat) (hc : cs.size = n * z) (hn : n ≤ 1000) : Rd w z (.slice (some ⟨g, 0, none⟩) n n) n cs.toList := by
  refine ⟨_, n, rfl, Nat.le_refl _, by unfold maxLen; omega, by simpa using hc, (fun e => by cases e), fun b hb => ?_⟩
  obtain rfl := Option.some.inj hb
  refine ⟨rfl, h.lt, fun j u hj => ?_⟩
  rw [Nat.zero_add, h.cell]
  simpa using hj
theorem when_t (n : Int) (w : World) : Calls Tryd.prog 18 #[.bool true, .int .i64 n] w fun e w' => e = .returned (.int .i64 n) ∧ w = w' := by simpa using when_c true n w
theorem when_f (n : Int) (w : World) : Calls Tryd.prog 18 #[.bool false, .int .i64 n] w fun e w' => e = .returned (.int .i64 0) ∧ w = w' := by simpa using when_c false n w
end Go.Proofs.YtddedckehllkoaaDoor

/- Generators: Extras, Fees. -/
namespace Go.Proofs.YtddedckehllkoaaDoor
open Go.RowKit

def ex2 (x y : Ext) : Array Value := #[.string x.1, .int .i64 x.2.1, .int .i64 x.2.2.1, .int .i64 x.2.2.2, .string y.1, .int .i64 y.2.1, .int .i64 y.2.2.1, .int .i64 y.2.2.2]
theorem ex2_set (x y z : Ext) : ((((ex2 x y).setIfInBounds 4 (.string z.1)).setIfInBounds 5 (.int .i64 z.2.1)).setIfInBounds 6 (.int .i64 z.2.2.1)).setIfInBounds 7 (.int .i64 z.2.2.2) = ex2 x z := rfl
def ExtrasPost (s K : Nat) (w : World) (e : Ending) (w' : World) : Prop :=
  ∃ (v : Value) (l : List Ext), e = .returned v ∧ RdR w' 4 exC v l ∧ ExOk l ∧ l.length ≤ 2 ∧ (∀ r, v.ownBlock = some r → w.heap.size ≤ r) ∧ SB w' s (K + 13) ∧ G w w' (some s)
theorem ex2_post {w w' : World} {s K g : Nat} {x y : Ext} {m : Nat} (hB : Bk w' g 130 (ex2 x y)) (hg : w.heap.size ≤ g) (hm : m ≤ 2) (hx : Small x.1 ∧ bnd x.2.1 ∧ bnd x.2.2.1 ∧ bnd x.2.2.2) (hy : Small y.1 ∧ bnd y.2.1 ∧ bnd y.2.2.1 ∧ bnd y.2.2.2) (hSB : SB w' s (K + 13)) (hG : G w w' (some s)) :
    ExtrasPost s K w (.returned (.slice (some ⟨g, 0, none⟩) m 2)) w' := by
  have h1 : RdR w' 4 exC (.slice (some ⟨g, 0, none⟩) 2 2) [x, y] := hB.rd 4 2 rfl (by omega)
  refine ⟨_, [x, y].take m, rfl, RdR.prefix_ exC_sz h1 m hm, fun z hz => ?_, by simp; omega, fun r e => ?_, hSB, hG⟩
  · have := List.mem_of_mem_take hz
    simp only [List.mem_cons, List.mem_nil_iff, or_false] at this
    rcases this with rfl | rfl
    · exact hx
    · exact hy
  · obtain rfl := Option.some.inj e
    exact hg
set_option maxRecDepth 100000 in
set_option maxHeartbeats 8000000 in
theorem extras_c (w : World) (s : Nat) (K : Nat) (hs : SB w s K) (hk : K ≤ 900000000000) :
    Calls Tryd.prog 34 #[.pointer (some ⟨s, 0, none⟩)] w (ExtrasPost s K w) := by
  have hslt := hs.lt
  go_enter Tryd.func34, Tryd.ntmps34
  go_wp2_with fail
  refine (pick_c _ _ _ [0, 5, 100] _ _ K (hs.alloc _) (by omega) (by decide) (by decide) (Rd.newAt _ rfl rfl (by decide)) (hs.newAt _ _ _ (Nat.le_refl _))).mono ?_; rintro e w1 ⟨r1, rfl, hr1, hSB1, hG1⟩
  have hG01 := ((G.refl w (some s)).alloc _).trans hG1
  clear hG1 hs
  go_wp2_with fail
  refine (pick_c _ _ _ [0, 2] _ _ _ (hSB1.alloc _) (by omega) (by decide) (by decide) (Rd.newAt _ rfl rfl (by decide)) (hSB1.newAt _ _ _ (Nat.le_refl _))).mono ?_; rintro e w2 ⟨r2, rfl, hr2, hSB2, hG2⟩
  have hG02 := (hG01.alloc _).trans hG2
  clear hG2 hSB1 hG01
  go_wp2_with fail
  refine (pick_c _ _ _ [-1, 0, 7] _ _ _ (hSB2.alloc _) (by omega) (by decide) (by decide) (Rd.newAt _ rfl rfl (by decide)) (hSB2.newAt _ _ _ (Nat.le_refl _))).mono ?_; rintro e w3 ⟨r3, rfl, hr3, hSB3, hG3⟩
  have hG03 := (hG02.alloc _).trans hG3
  clear hG3 hSB2 hG02
  go_wp2_with fail
  refine (pick_c _ _ _ [0, 10] _ _ _ (hSB3.alloc _) (by omega) (by decide) (by decide) (Rd.newAt _ rfl rfl (by decide)) (hSB3.newAt _ _ _ (Nat.le_refl _))).mono ?_; rintro e w4 ⟨r4, rfl, hr4, hSB4, hG4⟩
  have hG04 := (hG03.alloc _).trans hG4
  clear hG4 hSB3 hG03
  go_wp2_with fail
  refine (pick_c _ _ _ [0, 3, 50] _ _ _ (hSB4.alloc _) (by omega) (by decide) (by decide) (Rd.newAt _ rfl rfl (by decide)) (hSB4.newAt _ _ _ (Nat.le_refl _))).mono ?_; rintro e w5 ⟨r5, rfl, hr5, hSB5, hG5⟩
  have hG05 := (hG04.alloc _).trans hG5
  clear hG5 hSB4 hG04
  go_wp2_with fail
  refine (pick_c _ _ _ [-1, -1, 20, 1000] _ _ _ (hSB5.alloc _) (by omega) (by decide) (by decide) (Rd.newAt _ rfl rfl (by decide)) (hSB5.newAt _ _ _ (Nat.le_refl _))).mono ?_; rintro e w6 ⟨r6, rfl, hr6, hSB6, hG6⟩
  have hG06 := (hG05.alloc _).trans hG6
  clear hG6 hSB5 hG05
  have b1 := bnd_pick hr1 (by decide)
  have b2 := bnd_pick hr2 (by decide)
  have b3 := bnd_pick hr3 (by decide)
  have b4 := bnd_pick hr4 (by decide)
  have b5 := bnd_pick hr5 (by decide)
  have b6 := bnd_pick hr6 (by decide)
  clear hr1 hr2 hr3 hr4 hr5 hr6
  have hgw := hG06.size
  have hB6 := Bk.new w6 130 (ex2 (⟨#[109, 97, 112]⟩, r1, r2, r3) (⟨#[115, 101, 97, 116]⟩, r4, r5, r6))
  have hX : Small (⟨#[109, 97, 112]⟩ : ByteArray) ∧ bnd r1 ∧ bnd r2 ∧ bnd r3 := ⟨small_of (by decide), b1, b2, b3⟩
  have hY : Small (⟨#[115, 101, 97, 116]⟩ : ByteArray) ∧ bnd r4 ∧ bnd r5 ∧ bnd r6 := ⟨small_of (by decide), b4, b5, b6⟩
  have HX := Lib.hid hX
  have HY := Lib.hid hY
  clear hX hY b1 b2 b3 b4 b5 b6
  have hSB7 := hSB6.alloc (.cells (ex2 (⟨#[109, 97, 112]⟩, r1, r2, r3) (⟨#[115, 101, 97, 116]⟩, r4, r5, r6)) 130)
  have hG07 := hG06.alloc (.cells (ex2 (⟨#[109, 97, 112]⟩, r1, r2, r3) (⟨#[115, 101, 97, 116]⟩, r4, r5, r6)) 130)
  go_wp2_with fail
  refine (flip_c _ _ _ _ hSB7 (by omega) (by omega)).mono ?_; rintro e w8 ⟨q, rfl, hSB8, hG8⟩
  have hsg : s ≠ w6.heap.size := by omega
  have hsg2 : s < w6.heap.size := by omega
  have hB8 := hB6.grown hG8 (fun e => hsg (Option.some.inj e).symm)
  have hG08 := hG07.trans hG8
  clear hB6 hSB7 hG07 hG8 hSB6 hG06
  generalize w6.heap.size = g at hB8 hgw hsg2 ⊢
  cases q with
  | false =>
    go_wp2_with fail
    refine (pick_c _ _ _ [0, 1, 2, 2] _ _ _ (hSB8.alloc _) (by omega) (by decide) (by decide) (Rd.newAt _ rfl rfl (by decide)) (hSB8.newAt _ _ _ (Nat.le_refl _))).mono ?_; rintro e w9 ⟨m, rfl, hm, hSB9, hG9⟩
    have hm2 : 0 ≤ m ∧ m ≤ 2 := by simp only [List.mem_cons, List.mem_nil_iff, or_false] at hm; omega
    obtain ⟨m0, m2⟩ := hm2
    obtain ⟨m, rfl⟩ := Int.eq_ofNat_of_zero_le m0
    have m2' : m ≤ 2 := by omega
    have hB9 := (hB8.alloc _).grown hG9 (fun e => by have := Option.some.inj e; omega)
    have hG09 := (hG08.alloc _).trans hG9
    clear hm
    go_wp2_with fail
    go_ret
    exact ex2_post hB9 hgw m2' HX.out HY.out (hSB9.le (by omega)) hG09
  | true =>
    go_wp2_with fail
    refine (some_c _ _ _ [⟨#[]⟩, ⟨#[65]⟩, ⟨#[109, 97, 112]⟩, ⟨#[115, 101, 97, 116]⟩] _ _ _ (hSB8.alloc _) (by omega) (by decide) (by decide) (Rd.newAt _ rfl rfl (by decide)) (hSB8.newAt _ _ _ (Nat.le_refl _))).mono ?_; rintro e w9 ⟨z, rfl, hz, hSB9, hG9⟩
    have hzs := small_pick hz (by decide)
    have hB9 := (hB8.alloc _).grown hG9 (fun e => by have := Option.some.inj e; omega)
    have hG09 := (hG08.alloc _).trans hG9
    clear hz hB8 hG08 hG9 hSB8
    go_wp2_with fail
    refine (odd_c _ _ _ _ _ hSB9 (by omega) (by omega) (by omega) (by omega) (by omega)).mono ?_; rintro e w10 ⟨y1, rfl, y10, y11, hSB10, hG10⟩
    have hB10 := hB9.grown hG10 (fun e => by have := Option.some.inj e; omega)
    have hG010 := hG09.trans hG10
    clear hB9 hG09 hG10 hSB9
    go_wp2_with fail
    refine (odd_c _ _ _ _ _ hSB10 (by omega) (by omega) (by omega) (by omega) (by omega)).mono ?_; rintro e w11 ⟨y2, rfl, y20, y21, hSB11, hG11⟩
    have hB11 := hB10.grown hG11 (fun e => by have := Option.some.inj e; omega)
    have hG011 := hG010.trans hG11
    clear hB10 hG010 hG11 hSB10
    have c4 := hB11.cell 4
    have c5 := hB11.cell 5
    have c6 := hB11.cell 6
    have c7 := hB11.cell 7
    have f4 := hB11.free 4
    have f5 := hB11.free 5
    have f6 := hB11.free 6
    have f7 := hB11.free 7
    rw [show ∀ x y : Ext, (ex2 x y)[4]? = some (.string y.1) from fun _ _ => rfl] at c4
    rw [show ∀ x y : Ext, (ex2 x y)[5]? = some (.int .i64 y.2.1) from fun _ _ => rfl] at c5
    rw [show ∀ x y : Ext, (ex2 x y)[6]? = some (.int .i64 y.2.2.1) from fun _ _ => rfl] at c6
    rw [show ∀ x y : Ext, (ex2 x y)[7]? = some (.int .i64 y.2.2.2) from fun _ _ => rfl] at c7
    have hB12 : Bk ((((w11.setCell ⟨g, 4, none⟩ (.string z)).setCell ⟨g, 5, none⟩ (.int .i64 y1)).setCell ⟨g, 6, none⟩ (.int .i64 0)).setCell ⟨g, 7, none⟩ (.int .i64 y2)) g 130 (ex2 (⟨#[109, 97, 112]⟩, r1, r2, r3) (z, y1, 0, y2)) := by
      rw [← ex2_set (⟨#[109, 97, 112]⟩, r1, r2, r3) (⟨#[115, 101, 97, 116]⟩, r4, r5, r6) (z, y1, 0, y2)]
      exact (((hB11.set 4 _).set 5 _).set 6 _).set 7 _
    have hSB12 := (((hSB11.setCell (p := ⟨g, 4, none⟩) hsg2 (.string z)).setCell (p := ⟨g, 5, none⟩) hsg2 (.int .i64 y1)).setCell (p := ⟨g, 6, none⟩) hsg2 (.int .i64 0)).setCell (p := ⟨g, 7, none⟩) hsg2 (.int .i64 y2)
    have hG012 := (((hG011.setCell (p := ⟨g, 4, none⟩) (.inl hgw) (.string z)).setCell (p := ⟨g, 5, none⟩) (.inl hgw) (.int .i64 y1)).setCell (p := ⟨g, 6, none⟩) (.inl hgw) (.int .i64 0)).setCell (p := ⟨g, 7, none⟩) (.inl hgw) (.int .i64 y2)
    have hz12 : ((((w11.setCell ⟨g, 4, none⟩ (.string z)).setCell ⟨g, 5, none⟩ (.int .i64 y1)).setCell ⟨g, 6, none⟩ (.int .i64 0)).setCell ⟨g, 7, none⟩ (.int .i64 y2)).heap.size = w11.heap.size := by simp [World.setCell]
    clear hB11 hSB11 hG011
    go_wp2_with fail
    generalize ((((w11.setCell ⟨g, 4, none⟩ (.string z)).setCell ⟨g, 5, none⟩ (.int .i64 y1)).setCell ⟨g, 6, none⟩ (.int .i64 0)).setCell ⟨g, 7, none⟩ (.int .i64 y2)) = w12 at hB12 hSB12 hG012 hz12 ⊢
    refine (pick_c _ _ _ [0, 1, 2, 2] _ _ _ (hSB12.alloc _) (by omega) (by decide) (by decide) (Rd.newAt _ hz12 rfl (by decide)) (hSB12.newAt _ _ _ (Nat.le_of_eq hz12))).mono ?_; rintro e w13 ⟨m, rfl, hm, hSB13, hG13⟩
    have hm2 : 0 ≤ m ∧ m ≤ 2 := by simp only [List.mem_cons, List.mem_nil_iff, or_false] at hm; omega
    obtain ⟨m0, m2⟩ := hm2
    obtain ⟨m, rfl⟩ := Int.eq_ofNat_of_zero_le m0
    have m2' : m ≤ 2 := by omega
    have hB13 := (hB12.alloc _).grown hG13 (fun e => by have := Option.some.inj e; omega)
    have hG013 := (hG012.alloc _).trans hG13
    clear hm
    go_wp2_with fail
    go_ret
    exact ex2_post hB13 hgw m2' HX.out ⟨hzs, ⟨y10, y11⟩, (by show bnd 0; unfold bnd; omega), ⟨y20, y21⟩⟩ (hSB13.le (by omega)) hG013
end Go.Proofs.YtddedckehllkoaaDoor

/- Generator: right rates. -/
namespace Go.Proofs.YtddedckehllkoaaDoor
open Go.RowKit

/-- A row of rates that the call owns. -/
abbrev OwnRa (w : World) (base : Nat) (v : Value) (l : List Ra) : Prop := w.ownsRow base 54 7 v l.length (rowL raC l)
theorem ra_row : (Tryd.prog.info? 54).map (fun i => (i.zero, i.size, i.bytes)) = some (some (.agg (raC raZ)), 7, 64) := by kernel_rfl
theorem wp_append_ra {w : World} {o : Oper} {a : Act} {K : Act → World → Prop} {Q : Exit → Act → World → Prop} (s x : Operand)
    (ho : o.op = .call { callee := .builtin .append, args := #[s, x], argTypes := #[48, 48] }) (base : Nat) (v : Value) (l : List Ra) (hs : a.eval s = v) (hown : OwnRa w base v l)
    (g : Nat) (r : Ra) (hx : a.eval x = .slice (some ⟨g, 0, none⟩) 1 1) (hb : Bk w g 54 (raC r)) (hl : l.length ≤ 1000) (hbase : base ≤ w.heap.size)
    (hK : ∀ v' w', OwnRa w' base v' (l ++ [r]) → w.grownBy w' v.ownBlock → K (a.put o.dst v') w') : o.wp Tryd.prog a w K Q := by
  obtain ⟨i0, hi, hz0, hz1, hz2⟩ := info_parts ra_row
  refine wp_append_own w s x 48 ho base 54 i0 _ 7 64 Tryd.underlying48 hi hz0 hz1 hz2 rfl (by decide) v l.length (rowL raC l) hs hown ⟨g, 0, none⟩ 1 1 (raC r).toList hx rfl hb.at_ (raC_one r) (by unfold maxLen; omega) (by omega) hbase ?_
  intro v' w' h1 h2 _
  refine hK v' w' ?_ h2
  unfold OwnRa
  rw [List.length_append, rowL_snoc]
  exact h1
theorem OwnRa.alloc {w : World} {base : Nat} {v : Value} {l : List Ra} (h : OwnRa w base v l) (o : Obj) : OwnRa (w.alloc o) base v l := World.ownsRow.alloc h o
theorem OwnRa.kept {w w' : World} {base : Nat} {v : Value} {l : List Ra} {s : Nat} (h : OwnRa w base v l) (hg : G w w' (some s)) (hs : s < base) : OwnRa w' base v l := by
  refine World.ownsRow.kept h hg (.inr fun e => ?_)
  have := (World.ownsRow.lt h s e).1
  omega
theorem RaOk.snoc {l : List Ra} {r : Ra} (h : RaOk l) (hr : raB r) : RaOk (l ++ [r]) := fun p hp => by
  rcases List.mem_append.1 hp with hp | hp
  · exact h p hp
  · obtain rfl := List.mem_singleton.1 hp
    exact hr
theorem min2r (x y : Int) (w : World) : (Builtin.min_ #[3, 3] 3 #[.int .i64 x, .int .i64 y]).run Tryd.prog w = .ok (.int .i64 (min x y)) w := by
  have e : (if y < x then y else x) = min x y := by
    rw [Int.min_def]
    split <;> split <;> omega
  simp [Builtin.min_, Builtin.min2, e]
theorem OwnRa.grown {w w' : World} {base : Nat} {v : Value} {l : List Ra} {o : Option Nat} (h : OwnRa w base v l) (hg : G w w' o) (ho : v.ownBlock = none ∨ v.ownBlock ≠ o) : OwnRa w' base v l := World.ownsRow.kept h hg ho
theorem OwnRa.ne {w : World} {base : Nat} {v : Value} {l : List Ra} (h : OwnRa w base v l) {r : Nat} (hr : r < base ∨ w.heap.size ≤ r) : some r ≠ v.ownBlock := fun e => by
  have := World.ownsRow.lt h r e.symm
  omega
def clsC : Array Value := #[.string ⟨#[109, 97, 120, 105]⟩, .string ⟨#[109, 105, 100, 105]⟩, .string ⟨#[109, 105, 110, 105]⟩]
theorem cls_at (k : Nat) (hk : k < 3) : ∃ a : ByteArray, Small a ∧ clsC[k]? = some (.string a) := by
  match k, hk with
  | 0, _ => exact ⟨_, small_of (s := ⟨#[109, 97, 120, 105]⟩) (by decide), rfl⟩
  | 1, _ => exact ⟨_, small_of (s := ⟨#[109, 105, 100, 105]⟩) (by decide), rfl⟩
  | 2, _ => exact ⟨_, small_of (s := ⟨#[109, 105, 110, 105]⟩) (by decide), rfl⟩
def RrPost (s K : Nat) (w : World) (e : Ending) (w' : World) : Prop :=
  ∃ (v : Value) (l : List Ra), e = .returned v ∧ OwnRa w' (w.heap.size + 1) v l ∧ RaOk l ∧ l.length ≤ 9 ∧ SB w' s (K + 60) ∧ G w w' (some s)
def RrRel (w : World) (s K : Nat) (s3 s10 : Value) (wr : World) : Prop :=
  ∃ (k : Nat) (l : List Ra), k ≤ 3 ∧ l.length ≤ 3 * k ∧ s10 = .int .i64 k ∧ OwnRa wr (w.heap.size + 1) s3 l ∧ RaOk l ∧ SB wr s (K + 20 * k) ∧ G w wr (some s) ∧ Bk wr w.heap.size 9 clsC
def RiRel (w : World) (s K k c : Nat) (s3 s6 s20 : Value) (wr : World) : Prop :=
  ∃ (j : Nat) (f : Int) (l : List Ra), j ≤ c ∧ l.length ≤ 3 * k + j ∧ s20 = .int .i64 j ∧ s6 = .int .i64 f ∧ 0 ≤ f ∧ f ≤ 4003 ∧ OwnRa wr (w.heap.size + 1) s3 l ∧ RaOk l ∧ SB wr s (K + 20 * k + 2 + 6 * j) ∧ G w wr (some s) ∧ Bk wr w.heap.size 9 clsC
set_option maxRecDepth 100000 in
set_option maxHeartbeats 8000000 in
theorem rightRates_c (w : World) (s : Nat) (K : Nat) (hs : SB w s K) (hk : K ≤ 900000000000) :
    Calls Tryd.prog 78 #[.pointer (some ⟨s, 0, none⟩)] w (RrPost s K w) := by
  have hslt := hs.lt
  have hsw := hs.lt
  go_enter Tryd.func78, Tryd.ntmps78
  go_wp2_with fail
  go_loopw [3, 10] (RrRel w s K) (fun _ i _ => 3 - (intOf i).toNat)
  case atStart =>
    exact ⟨0, [], by omega, by simp, rfl, World.ownsRow_nil _ _ _ _, fun p hp => (by cases hp), hs.alloc _, (G.refl _ _).alloc _, Bk.new w _ _⟩
  case round =>
    obtain ⟨k, l, hk3, hlk, rfl, hown, hl, hSB, hG, hB⟩ := hrel
    have hsz := hG.size
    have hBl := hB.lt
    have HL := Lib.hid hl
    clear hl
    by_cases hk2 : k < 3
    · obtain ⟨cls, hcls, hpa⟩ := cls_at k hk2
      have hrow : wr.cell? ⟨w.heap.size, k, none⟩ = some (.string cls) := by rw [hB.cell]; exact hpa
      clear hpa
      go_wp2_with fail
      refine (pick_c _ _ _ [0, 0, 0, 3] _ _ _ (hSB.alloc _) (by omega) (by decide) (by decide) (Rd.newAt _ rfl rfl (by decide)) (hSB.newAt _ _ _ (Nat.le_refl _))).mono ?_; rintro e w3 ⟨f, rfl, hf, hSB3, hG3⟩
      have hf0 : 0 ≤ f ∧ f ≤ 3 := by simp only [List.mem_cons, List.mem_nil_iff, or_false] at hf; omega
      obtain ⟨f0, f1⟩ := hf0
      have hB3 := (hB.alloc (.cells _ 3)).grown hG3 (fun e => by have := Option.some.inj e; omega)
      have hown3 := (OwnRa.alloc hown (.cells _ 3)).kept hG3 (by omega)
      have hG03 := (hG.alloc (.cells _ 3)).trans hG3
      clear hB hG hG3 hSB hown hf hrow
      go_wp2_with fail
      refine (pick_c _ _ _ [0, 1, 1, 2, 3] _ _ _ (hSB3.alloc _) (by omega) (by decide) (by decide) (Rd.newAt _ rfl rfl (by decide)) (hSB3.newAt _ _ _ (Nat.le_refl _))).mono ?_; rintro e w4 ⟨c, rfl, hc, hSB4, hG4⟩
      have hc0 : 0 ≤ c ∧ c ≤ 3 := by simp only [List.mem_cons, List.mem_nil_iff, or_false] at hc; omega
      obtain ⟨c0, c1⟩ := hc0
      obtain ⟨c, rfl⟩ := Int.eq_ofNat_of_zero_le c0
      have hB4 := (hB3.alloc (.cells _ 3)).grown hG4 (fun e => by have := Option.some.inj e; omega)
      have hown4 := (OwnRa.alloc hown3 (.cells _ 3)).kept hG4 (by omega)
      have hG04 := (hG03.alloc (.cells _ 3)).trans hG4
      clear hB3 hG03 hG4 hSB3 hown3 hc
      go_wp2_with fail
      go_loopw [3, 6, 20] (RiRel w s K k c) (fun _ _ i _ => c - (intOf i).toNat)
      case atStart => exact ⟨0, f, l, by omega, by omega, rfl, rfl, by omega, by omega, hown4, HL.out, hSB4.le (by omega), hG04, hB4⟩
      case round =>
        clear hsz hBl hslt hlk HL hown4 hSB4 hG04 hB4 f0 f1
        obtain ⟨j, f, l, hjc, hlk, rfl, rfl, f0, f1, hown, hl, hSB, hG, hB⟩ := hrel
        have hsz := hG.size
        have hBl := hB.lt
        have hslt := hSB.lt
        have HL := Lib.hid hl
        clear hl
        by_cases hjc2 : j < c
        · have hsb : s < w.heap.size + 1 := Nat.lt_succ_of_lt hsw
          go_wp2_with fail
          refine (pick_c _ _ _ [1, 5, 20, 4000] _ _ _ (hSB.alloc _) (by omega) (by decide) (by decide) (Rd.newAt _ rfl rfl (by decide)) (hSB.newAt _ _ _ (Nat.le_refl _))).mono ?_; rintro e w5 ⟨t, rfl, hp, hSBw5, hg⟩
          have ht0 : 1 ≤ t ∧ t ≤ 4000 := by simp only [List.mem_cons, List.mem_nil_iff, or_false] at hp; omega
          obtain ⟨t0, t1⟩ := ht0
          have hBw5 := (hB.alloc (.cells _ 3)).grown hg (fun e => by have := Option.some.inj e; omega)
          have hownw5 := (OwnRa.alloc hown (.cells _ 3)).kept hg hsb
          have hGw5 := (hG.alloc (.cells _ 3)).trans hg
          clear hB hown hG hSB hg hp
          go_wp2_with fail
          refine (pick_c _ _ _ [-1, 5, 10, 10, 0] _ _ _ (hSBw5.alloc _) (by omega) (by decide) (by decide) (Rd.newAt _ rfl rfl (by decide)) (hSBw5.newAt _ _ _ (Nat.le_refl _))).mono ?_; rintro e w6 ⟨h, rfl, hp, hSBw6, hg⟩
          have bh := Lib.hid (bnd_pick hp (by decide))
          have hBw6 := (hBw5.alloc (.cells _ 3)).grown hg (fun e => by have := Option.some.inj e; omega)
          have hownw6 := (OwnRa.alloc hownw5 (.cells _ 3)).kept hg hsb
          have hGw6 := (hGw5.alloc (.cells _ 3)).trans hg
          clear hBw5 hownw5 hGw5 hSBw5 hg hp
          go_wp2_with fail
          refine (pick_c _ _ _ [-1, 50, 50, 70, 40] _ _ _ (hSBw6.alloc _) (by omega) (by decide) (by decide) (Rd.newAt _ rfl rfl (by decide)) (hSBw6.newAt _ _ _ (Nat.le_refl _))).mono ?_; rintro e w7 ⟨d, rfl, hp, hSBw7, hg⟩
          have bd := Lib.hid (bnd_pick hp (by decide))
          have hBw7 := (hBw6.alloc (.cells _ 3)).grown hg (fun e => by have := Option.some.inj e; omega)
          have hownw7 := (OwnRa.alloc hownw6 (.cells _ 3)).kept hg hsb
          have hGw7 := (hGw6.alloc (.cells _ 3)).trans hg
          clear hBw6 hownw6 hGw6 hSBw6 hg hp
          go_wp2_with fail
          refine (pick_c _ _ _ [-1, 70, 90, 100] _ _ _ (hSBw7.alloc _) (by omega) (by decide) (by decide) (Rd.newAt _ rfl rfl (by decide)) (hSBw7.newAt _ _ _ (Nat.le_refl _))).mono ?_; rintro e w8 ⟨e4, rfl, hp, hSBw8, hg⟩
          have be4 := Lib.hid (bnd_pick hp (by decide))
          have hBw8 := (hBw7.alloc (.cells _ 3)).grown hg (fun e => by have := Option.some.inj e; omega)
          have hownw8 := (OwnRa.alloc hownw7 (.cells _ 3)).kept hg hsb
          have hGw8 := (hGw7.alloc (.cells _ 3)).trans hg
          clear hBw7 hownw7 hGw7 hSBw7 hg hp
          go_wp2_with fail
          refine (pick_c _ _ _ [-1, 200, 250, 300] _ _ _ (hSBw8.alloc _) (by omega) (by decide) (by decide) (Rd.newAt _ rfl rfl (by decide)) (hSBw8.newAt _ _ _ (Nat.le_refl _))).mono ?_; rintro e w9 ⟨v0, rfl, hp, hSBw9, hg⟩
          have bv0 := Lib.hid (bnd_pick hp (by decide))
          have hBw9 := (hBw8.alloc (.cells _ 3)).grown hg (fun e => by have := Option.some.inj e; omega)
          have hownw9 := (OwnRa.alloc hownw8 (.cells _ 3)).kept hg hsb
          have hGw9 := (hGw8.alloc (.cells _ 3)).trans hg
          clear hBw8 hownw8 hGw8 hSBw8 hg hp
          obtain ⟨M, hM⟩ : ∃ M, min (f + t) 4001 = M := ⟨_, rfl⟩
          have hmin : ∀ w : World, (Builtin.min_ #[3, 3] 3 #[.int .i64 (f + t), .int .i64 4001]).run Tryd.prog w = .ok (.int .i64 M) w := fun w => by rw [min2r, hM]
          obtain ⟨M0, M1⟩ : 0 ≤ M ∧ M ≤ 4001 := by omega
          clear hM
          have hgw : w.heap.size + 1 ≤ w9.heap.size := by have := hGw9.size; have := hBw9.lt; omega
          have hsg : s < w9.heap.size := by omega
          have hne := OwnRa.ne hownw9 (r := w9.heap.size) (.inr (Nat.le_refl _))
          have hR6 : Bk (w9.alloc (.cells #[.string cls, .int .i64 f, .int .i64 M, .int .i64 h, .int .i64 d, .int .i64 e4, .int .i64 v0] 54)) w9.heap.size 54 (raC (cls, f, M, h, d, e4, v0)) := Bk.new w9 54 (raC (cls, f, M, h, d, e4, v0))
          have hown6 : OwnRa (w9.alloc (.cells #[.string cls, .int .i64 f, .int .i64 M, .int .i64 h, .int .i64 d, .int .i64 e4, .int .i64 v0] 54)) (w.heap.size + 1) _ l := OwnRa.alloc hownw9 (.cells #[.string cls, .int .i64 f, .int .i64 M, .int .i64 h, .int .i64 d, .int .i64 e4, .int .i64 v0] 54)
          have hSB6 := hSBw9.alloc (.cells #[.string cls, .int .i64 f, .int .i64 M, .int .i64 h, .int .i64 d, .int .i64 e4, .int .i64 v0] 54)
          have hB6 := hBw9.alloc (.cells #[.string cls, .int .i64 f, .int .i64 M, .int .i64 h, .int .i64 d, .int .i64 e4, .int .i64 v0] 54)
          have hG6 := hGw9.alloc (.cells #[.string cls, .int .i64 f, .int .i64 M, .int .i64 h, .int .i64 d, .int .i64 e4, .int .i64 v0] 54)
          have hz6 : (w9.alloc (.cells #[.string cls, .int .i64 f, .int .i64 M, .int .i64 h, .int .i64 d, .int .i64 e4, .int .i64 v0] 54)).heap.size = w9.heap.size + 1 := by simp
          clear hownw9 hSBw9 hBw9 hGw9
          rcases (show M ≤ f ∨ f < M by omega) with hfm | hfm
          · go_wp2_with fail
            go_roundw
            case rel => exact ⟨k + 1, l, by omega, by omega, by go_num, hown6, HL.out, hSB6.le (by omega), hG6, hB6⟩
            case measure => simp [intOf]; omega
          · have hnm : ¬ M ≤ f := by omega
            have hRB : raB (cls, f, M, h, d, e4, v0) := ⟨hcls, (by show bnd f; unfold bnd; omega), (by show bnd M; unfold bnd; omega), bh.out, bd.out, be4.out, bv0.out⟩
            have HRB := Lib.hid hRB
            clear hRB
            go_wp2_with (first | (refine wpList_load_row rfl 54 _ rfl w9.heap.size rfl 54 #[.string cls, .int .i64 f, .int .i64 M, .int .i64 h, .int .i64 d, .int .i64 e4, .int .i64 v0] (0, 0) _ hR6 Tryd.underlying54 rfl (ra_info (cls, f, M, h, d, e4, v0)) ?_) | (at_builtin; refine wpList_plain rfl fun K' hK' => wp_append_ra _ _ rfl (w.heap.size + 1) u3 l rfl (OwnRa.alloc hown6 _) (w9.heap.size + 1) (cls, f, M, h, d, e4, v0) rfl (Bk.newAt hz6 _ _) (by omega) (by simp; omega) ?_; intro v7 w7 hown7 hgrow; refine hK' _ _ ?_))
            have hob := fun r e => (World.ownsRow.lt hown6 r e).1
            have hR7 := (hR6.alloc _).grown hgrow hne
            have hB7 := (hB6.alloc _).grown hgrow (OwnRa.ne hown6 (.inl (Nat.lt_succ_self _)))
            have hSB7 := (hSB6.alloc _).own hgrow (fun r e => Nat.lt_of_lt_of_le hsb (hob r e))
            have hG7 := (hG6.alloc _).other hgrow (fun r e => .inl (Nat.le_of_succ_le (hob r e)))
            clear hR6 hB6 hSB6 hG6 hown6 hob hne hgrow hz6 hmin
            generalize w9.heap.size = g at hR7 hgw hsg ⊢
            have c2 : w7.cell? ⟨g, 2, none⟩ = some (.int .i64 M) := hR7.cell 2
            have hSBd := hSB7.quiet ((G.refl w7 none).drew)
            have HOD := Lib.hid (World.ownsRow.drew hown7)
            have HRD := Lib.hid (hR7.quiet ((G.refl w7 none).drew))
            have HBD := Lib.hid (hB7.quiet ((G.refl w7 none).drew))
            have hGd := hG7.drew
            clear hR7 hB7 hSB7 hG7 hown7
            go_region_held3 (fun w' => w'.cell? ⟨g, 2, none⟩ = some (.int .i64 M)) (first | exact c2 | exact c28 | go_keep) (first | (go_at_call 10; refine (pick_c _ _ _ [0, 0, 0, 2] _ _ _ (hSBd.alloc _) (by omega) (by decide) (by decide) (Rd.newAt _ rfl rfl (by decide)) (hSBd.newAt _ _ _ (Nat.le_refl _))).mono ?_; rintro e w8 ⟨r, rfl, hr, hSB8, hG8⟩; have hr0 : 0 ≤ r ∧ r ≤ 2 := (by simp only [List.mem_cons, List.mem_nil_iff, or_false] at hr; omega); obtain ⟨r0, r1⟩ := hr0; have hR8 := (HRD.out.alloc _).grown hG8 (fun e => by have := Option.some.inj e; omega); have c28 : w8.cell? ⟨g, 2, none⟩ = some (.int .i64 M) := hR8.cell 2; have hown8 := OwnRa.kept (OwnRa.alloc HOD.out _) hG8 hsb; have hB8 := (HBD.out.alloc _).grown hG8 (fun e => by have := Option.some.inj e; omega); have hG08 := (hGd.alloc _).trans hG8; have hwr : IntKind.i64.wrap (M + r) = M + r := (by rw [IntKind.wrap_i64]; omega); clear hr hG8))
            go_wp2_with fail
            go_roundw
            case rel => exact ⟨j + 1, M + r, l ++ [(cls, f, M, h, d, e4, v0)], by omega, by simp; omega, by go_num, rfl, by omega, by omega, hown8, HL.out.snoc HRB.out, hSB8.le (by omega), hG08, hB8⟩
            case measure => simp [intOf]; omega
        · obtain rfl : j = c := by omega
          go_wp2_with fail
          go_roundw
          case rel => exact ⟨k + 1, l, by omega, by omega, by go_num, hown, HL.out, hSB.le (by omega), hG, hB⟩
          case measure => simp [intOf]; omega
    · obtain rfl : k = 3 := by omega
      go_wp2_with fail
      go_ret
      exact ⟨_, l, rfl, hown, HL.out, by omega, hSB, hG⟩
end Go.Proofs.YtddedckehllkoaaDoor

/- Generator: ClassKey. -/
namespace Go.Proofs.YtddedckehllkoaaDoor
open Go.RowKit

def ClassKeyPost (s K : Nat) (w : World) (e : Ending) (w' : World) : Prop := ∃ r : ByteArray, e = .returned (.string r) ∧ Small r ∧ SB w' s (K + 1) ∧ G w w' (some s)
theorem classKey_c (w : World) (s : Nat) (K : Nat) (hs : SB w s K) (hk : K ≤ 900000000000) :
    Calls Tryd.prog 24 #[.pointer (some ⟨s, 0, none⟩)] w (ClassKeyPost s K w) := by
  go_enter Tryd.func24, Tryd.ntmps24
  go_wp2_with fail
  refine (some_c _ _ _ [⟨#[109, 105, 110, 105]⟩, ⟨#[109, 105, 110, 105]⟩, ⟨#[109, 105, 100, 105]⟩, ⟨#[109, 97, 120, 105]⟩, ⟨#[98, 105, 103]⟩, ⟨#[109, 105, 110, 105]⟩, ⟨#[110, 111, 110, 101]⟩, ⟨#[]⟩, ⟨#[65]⟩] _ _ K (hs.alloc _) (by omega) (by decide) (by decide) (Rd.newAt _ rfl rfl (by decide)) (hs.newAt _ _ _ (Nat.le_refl _))).mono ?_; rintro e w1 ⟨r, rfl, hr, hSB1, hG1⟩
  have hrs := small_pick hr (by decide)
  have hG01 := ((G.refl w (some s)).alloc _).trans hG1
  clear hr
  go_wp2_with fail
  go_ret
  exact ⟨r, rfl, hrs, hSB1, hG01⟩
end Go.Proofs.YtddedckehllkoaaDoor

/- Generators: Rates, ClassKey. -/
namespace Go.Proofs.YtddedckehllkoaaDoor
open Go.RowKit

def RatesPost (s K : Nat) (w : World) (e : Ending) (w' : World) : Prop :=
  ∃ (v : Value) (l : List Ra), e = .returned v ∧ RdR w' 7 raC v l ∧ RaOk l ∧ l.length ≤ 10 ∧ (∀ r, v.ownBlock = some r → w.heap.size ≤ r) ∧ SB w' s (K + 70) ∧ G w w' (some s)
theorem RaOk.set {l : List Ra} (h : RaOk l) {r : Ra} (hr : raB r) (k : Nat) : RaOk (l.set k r) := fun p hp => by
  rcases List.mem_or_eq_of_mem_set hp with hp | rfl
  · exact h p hp
  · exact hr
theorem rates_fin {w w' : World} {s K : Nat} {v : Value} {l : List Ra} (hown : OwnRa w' (w.heap.size + 1) v l) (hl : RaOk l) (hn : l.length ≤ 10) (hSB : SB w' s (K + 70)) (hG : G w w' (some s)) : RatesPost s K w (.returned v) w' :=
  ⟨v, l, rfl, Rd.of_owns hown, hl, hn, fun r e => Nat.le_of_succ_le (World.ownsRow.lt hown r e).1, hSB, hG⟩
theorem ra_set {w : World} {base g n cap : Nat} {l : List Ra} {k : Nat} {p q : Ra} (h : w.ownsRow base 54 7 (.slice (some ⟨g, 0, none⟩) n cap) n (rowL raC l)) (hp : l[k]? = some p) (j : Nat) (u : Value) (hj : j < 7) (hq : (raC q).toList = (raC p).toList.set j u) :
    (w.setCell ⟨g, k * 7 + j, none⟩ u).ownsRow base 54 7 (.slice (some ⟨g, 0, none⟩) n cap) n (rowL raC (l.set k q)) := by
  rw [← rowL_set raC_sz l k p q hp j u hj hq]
  exact ownsRow_set h _ _
set_option maxRecDepth 100000 in
set_option maxHeartbeats 8000000 in
theorem rates_c (w : World) (s : Nat) (K : Nat) (hs : SB w s K) (hk : K ≤ 800000000000) :
    Calls Tryd.prog 22 #[.pointer (some ⟨s, 0, none⟩)] w (RatesPost s K w) := by
  have hslt := hs.lt
  have hsb : s < w.heap.size + 1 := Nat.lt_succ_of_lt hslt
  go_enter Tryd.func22, Tryd.ntmps22
  go_wp2_with fail
  refine (rightRates_c w s K hs (by omega)).mono ?_; rintro e w1 ⟨v, l, rfl, hown, hl, hln, hSB1, hG1⟩
  have HL := Lib.hid hl
  clear hl hs
  have hf := hown.2
  rcases hf with ⟨rfl, hn0⟩ | ⟨g, cap, cur, rfl, hbg, _, hnc, hmc, _, _⟩
  · clear hn0
    go_wp2_with fail
    go_ret
    exact rates_fin hown HL.out (by omega) (hSB1.le (by omega)) hG1
  · by_cases h0 : l.length = 0
    · have h0i : ¬ ((0 : Int) < (l.length : Int)) := by omega
      clear h0
      go_wp2_with fail
      go_ret
      exact rates_fin hown HL.out (by omega) (hSB1.le (by omega)) hG1
    · have h0i : ((0 : Int) < (l.length : Int)) := by omega
      have hsg : s < g := by omega
      have hgw : w.heap.size ≤ g := by omega
      clear h0
      go_wp2_with fail
      refine (flip_c _ _ _ _ hSB1 (by omega) (by omega)).mono ?_; rintro e w2 ⟨b, rfl, hSB2, hG2⟩
      have hown2 := OwnRa.kept hown hG2 hsb
      have hG02 := hG1.trans hG2
      clear hown hG1 hG2 hSB1
      cases b with
      | false =>
        go_wp2_with fail
        go_ret
        exact rates_fin hown2 HL.out (by omega) (hSB2.le (by omega)) hG02
      | true =>
        go_wp2_with fail
        refine (next_c _ _ _ _ hSB2 (by omega) (by omega)).mono ?_; rintro e w3 ⟨j, rfl, hj, hSB3, hG3⟩
        obtain ⟨j0, j1⟩ := hj
        obtain ⟨j, rfl⟩ := Int.eq_ofNat_of_zero_le j0
        have jl : j < l.length := by omega
        have jli : (j : Int) < (l.length : Int) := by omega
        clear j1
        have hown3 := OwnRa.kept hown2 hG3 hsb
        have hG03 := hG02.trans hG3
        clear hown2 hG02 hG3 hSB2
        go_wp2_with fail
        refine (next_c _ _ _ _ hSB3 (by omega) (by omega)).mono ?_; rintro e w4 ⟨t, rfl, ht, hSB4, hG4⟩
        have hown4 := OwnRa.kept hown3 hG4 hsb
        have hG04 := hG03.trans hG4
        clear hown3 hG03 hG4 hSB3
        obtain ⟨p, hp⟩ : ∃ p, l[j]? = some p := ⟨_, List.getElem?_eq_getElem jl⟩
        have HP := Lib.hid hp
        have hpb := Lib.hid (HL.out p (List.mem_of_getElem? hp))
        clear hp
        obtain ⟨t0, t1⟩ := ht
        rcases (show t = 0 ∨ t = 1 ∨ t = 2 ∨ t = 3 by omega) with rfl | rfl | rfl | rfl
        · clear t0 t1
          go_wp2_with fail
          refine (some_c _ _ _ [⟨#[]⟩, ⟨#[65]⟩, ⟨#[109, 105, 110, 105]⟩, ⟨#[122, 101, 100]⟩] _ _ _ (hSB4.alloc _) (by omega) (by decide) (by decide) (Rd.newAt _ rfl rfl (by decide)) (hSB4.newAt _ _ _ (Nat.le_refl _))).mono ?_; rintro e w5 ⟨r, rfl, hr, hSB5, hG5⟩
          have hrs := small_pick hr (by decide)
          have hown5 := OwnRa.kept (OwnRa.alloc hown4 _) hG5 hsb
          have hG05 := (hG04.alloc _).trans hG5
          clear hr hown4 hSB4 hG04 hG5
          have c0 := RdR.cell raC_sz (Rd.of_owns hown5) (G.refl _ _) HP.out 0 (.string p.1) rfl
          have f0 := ownsRow_free hown5 (j * 7 + 0)
          have hown6 := ra_set hown5 HP.out (q := (r, p.2)) 0 (.string r) (by omega) rfl
          simp only [Nat.zero_add, Nat.add_zero] at c0 f0 hown6
          go_wp2_with fail
          go_ret
          exact rates_fin (l := l.set j (r, p.2)) (by unfold OwnRa; rw [List.length_set]; exact hown6) (HL.out.set (r := (r, p.2)) ⟨hrs, hpb.out.2⟩ j) (by rw [List.length_set]; omega) ((hSB5.setCell (p := ⟨g, j * 7, none⟩) hsg _).le (by omega)) (hG05.setCell (p := ⟨g, j * 7, none⟩) (.inl hgw) _)
        · clear t0 t1
          go_wp2_with fail
          refine (odd_c _ _ _ _ _ hSB4 (by omega) (by omega) (by omega) (by omega) (by omega)).mono ?_; rintro e w5 ⟨y1, rfl, y10, y11, hSB5, hG5⟩
          have hown5 := OwnRa.kept hown4 hG5 hsb
          have hG05 := hG04.trans hG5
          clear hown4 hSB4 hG04 hG5
          go_wp2_with fail
          refine (odd_c _ _ _ _ _ hSB5 (by omega) (by omega) (by omega) (by omega) (by omega)).mono ?_; rintro e w6 ⟨y2, rfl, y20, y21, hSB6, hG6⟩
          have hown6 := OwnRa.kept hown5 hG6 hsb
          have hG06 := hG05.trans hG6
          clear hown5 hSB5 hG05 hG6
          have c1 := RdR.cell raC_sz (Rd.of_owns hown6) (G.refl _ _) HP.out 1 (.int .i64 p.2.1) rfl
          have c2 := RdR.cell raC_sz (Rd.of_owns hown6) (G.refl _ _) HP.out 2 (.int .i64 p.2.2.1) rfl
          have f1 := ownsRow_free hown6 (j * 7 + 1)
          have f2 := ownsRow_free hown6 (j * 7 + 2)
          have hown7 := ra_set hown6 HP.out (q := (p.1, y1, p.2.2)) 1 (.int .i64 y1) (by omega) rfl
          have hown8 := ra_set hown7 (show (l.set j (p.1, y1, p.2.2))[j]? = some (p.1, y1, p.2.2) by rw [List.getElem?_set_self jl]) (q := (p.1, y1, y2, p.2.2.2)) 2 (.int .i64 y2) (by omega) rfl
          rw [List.set_set] at hown8
          simp only [Nat.zero_add] at c1 c2
          clear hown7
          go_wp2_with fail
          go_ret
          exact rates_fin (l := l.set j (p.1, y1, y2, p.2.2.2)) (by unfold OwnRa; rw [List.length_set]; exact hown8) (HL.out.set (r := (p.1, y1, y2, p.2.2.2)) ⟨hpb.out.1, ⟨y10, y11⟩, ⟨y20, y21⟩, hpb.out.2.2.2⟩ j) (by rw [List.length_set]; omega) (((hSB6.setCell (p := ⟨g, j * 7 + 1, none⟩) hsg _).setCell (p := ⟨g, j * 7 + 2, none⟩) hsg _).le (by omega)) ((hG06.setCell (p := ⟨g, j * 7 + 1, none⟩) (.inl hgw) _).setCell (p := ⟨g, j * 7 + 2, none⟩) (.inl hgw) _)
        · clear t0 t1
          go_wp2_with fail
          refine (odd_c _ _ _ _ _ hSB4 (by omega) (by omega) (by omega) (by omega) (by omega)).mono ?_; rintro e w5 ⟨y1, rfl, y10, y11, hSB5, hG5⟩
          have hown5 := OwnRa.kept hown4 hG5 hsb
          have hG05 := hG04.trans hG5
          clear hown4 hSB4 hG04 hG5
          have c4 := RdR.cell raC_sz (Rd.of_owns hown5) (G.refl _ _) HP.out 4 (.int .i64 p.2.2.2.2.1) rfl
          have f4 := ownsRow_free hown5 (j * 7 + 4)
          have hown6 := ra_set hown5 HP.out (q := (p.1, p.2.1, p.2.2.1, p.2.2.2.1, y1, p.2.2.2.2.2)) 4 (.int .i64 y1) (by omega) rfl
          simp only [Nat.zero_add] at c4
          go_wp2_with fail
          go_ret
          exact rates_fin (l := l.set j (p.1, p.2.1, p.2.2.1, p.2.2.2.1, y1, p.2.2.2.2.2)) (by unfold OwnRa; rw [List.length_set]; exact hown6) (HL.out.set (r := (p.1, p.2.1, p.2.2.1, p.2.2.2.1, y1, p.2.2.2.2.2)) ⟨hpb.out.1, hpb.out.2.1, hpb.out.2.2.1, hpb.out.2.2.2.1, ⟨y10, y11⟩, hpb.out.2.2.2.2.2⟩ j) (by rw [List.length_set]; omega) ((hSB5.setCell (p := ⟨g, j * 7 + 4, none⟩) hsg _).le (by omega)) (hG05.setCell (p := ⟨g, j * 7 + 4, none⟩) (.inl hgw) _)
        · clear t0 t1
          obtain ⟨q, hq⟩ : ∃ q, l[0]? = some q := ⟨_, List.getElem?_eq_getElem (by omega)⟩
          have HRW := Lib.hid (raRow (Rd.of_owns hown4) (G.refl _ _) hq)
          have hqb := Lib.hid (HL.out q (List.mem_of_getElem? hq))
          clear hq HP hpb
          go_wp2_with (first | (refine wpList_load_at rfl 54 _ rfl ⟨g, 0 + 0 * 7, none⟩ rfl #[.string q.1, .int .i64 q.2.1, .int .i64 q.2.2.1, .int .i64 q.2.2.2.1, .int .i64 q.2.2.2.2.1, .int .i64 q.2.2.2.2.2.1, .int .i64 q.2.2.2.2.2.2] _ HRW.out Tryd.underlying54 rfl (ra_info q) ?_) | (at_builtin; refine wpList_plain rfl fun K' hK' => wp_append_ra _ _ rfl (w.heap.size + 1) _ l rfl (OwnRa.alloc hown4 _) w4.heap.size q rfl (Bk.newAt rfl _ _) (by omega) (by have := hG04.size; have := hSB4.lt; simp; omega) ?_; intro v7 w7 hown7 hgrow; refine hK' _ _ ?_))
          go_ret
          have hob : ∀ r, some r = (Value.slice (some ⟨g, 0, none⟩) l.length cap).ownBlock → r = g := fun r e => Option.some.inj e
          exact rates_fin hown7 (HL.out.snoc hqb.out) (by simp; omega) (((hSB4.alloc _).own hgrow (fun r e => by rw [hob r e.symm]; exact hsg)).le (by omega)) ((hG04.alloc _).other hgrow (fun r e => .inl (by rw [hob r e.symm]; exact hgw)))
end Go.Proofs.YtddedckehllkoaaDoor

/- Generator: the time of a hire. -/
namespace Go.Proofs.YtddedckehllkoaaDoor
open Go.RowKit

def TimePost (s K : Nat) (w : World) (e : Ending) (w' : World) : Prop :=
  ∃ a z : Int, e = .returned (.agg #[.int .i64 a, .int .i64 z]) ∧ bnd a ∧ bnd z ∧ SB w' s (K + 8) ∧ G w w' (some s)
theorem time_fin {w w3 : World} {s K : Nat} {a z : Int} (hs : s < w.heap.size) (ha : bnd a) (hz : bnd z) (hSB : SB w3 s (K + 8)) (hG : G w w3 (some s)) :
    TimePost s K w (.returned (.agg #[.int .i64 a, .int .i64 z])) (w3.setRow w.heap.size #[.int .i64 a, .int .i64 z]) :=
  ⟨a, z, rfl, ha, hz, hSB.setRow hs _, hG.setRow (.inl (Nat.le_refl _)) _⟩
set_option maxRecDepth 100000 in
set_option maxHeartbeats 2000000 in
theorem time_c (w : World) (s : Nat) (K : Nat) (hs : SB w s K) (hk : K ≤ 900000000000) :
    Calls Tryd.prog 23 #[.pointer (some ⟨s, 0, none⟩)] w (TimePost s K w) := by
  have hslt := hs.lt
  go_enter Tryd.func23, Tryd.ntmps23
  go_wp2_with fail
  refine (pick_c _ _ _ [0, 0, 700, 5040, 5700, 6480, 6500, 8000, 10079, 20000] _ _ K ((hs.alloc _).alloc _) (by omega) (by decide) (by decide) (Rd.newAt _ (by simp) rfl (by decide)) (hs.newAt _ _ _ (by omega))).mono ?_
  rintro e w2 ⟨a, rfl, ha, hSB2, hG2⟩
  have ha0 : 0 ≤ a ∧ a ≤ 20000 := by simp only [List.mem_cons, List.mem_nil_iff, or_false] at ha; omega
  obtain ⟨a0, a1⟩ := ha0
  have hz2 : w.heap.size + 2 ≤ w2.heap.size := by have := hG2.size; simp at this; omega
  have hB2 := ((Bk.new w 29 #[.int .i64 0, .int .i64 0]).alloc (.cells _ 3)).grown hG2 (by simp; omega)
  have hG02 : G w w2 (some s) := (((G.refl w (some s)).alloc _).alloc _).trans hG2
  clear hG2 ha
  go_wp2_with fail
  refine (pick_c _ _ _ [1, 59, 60, 61, 300, 1440, 1441, 1500, 2880, 4320, 5850, 7200, 8641, 10080, 11520, 14800, 21600] _ _ _ (hSB2.alloc _) (by omega) (by decide) (by decide) (Rd.newAt _ rfl rfl (by decide)) (hSB2.newAt _ _ _ (Nat.le_refl _))).mono ?_
  rintro e w3 ⟨d, rfl, hd, hSB3, hG3⟩
  have hd0 : 1 ≤ d ∧ d ≤ 21600 := by simp only [List.mem_cons, List.mem_nil_iff, or_false] at hd; omega
  obtain ⟨d0, d1⟩ := hd0
  have hz3 := hG3.size
  have hB3 := (hB2.alloc (.cells _ 3)).grown hG3 (by simp; omega)
  have hG03 := (hG02.alloc _).trans hG3
  simp at hz3
  clear hG3 hd hB2 hG02 hSB2
  obtain ⟨z, hz⟩ : ∃ z, a + d = z := ⟨_, rfl⟩
  have hzb : 1 ≤ z ∧ z ≤ 41600 := by omega
  obtain ⟨z0, z1⟩ := hzb
  have hN4 := Bk.new w3 29 #[.int .i64 a, .int .i64 z]
  have hSB4 := hSB3.alloc (.cells #[.int .i64 a, .int .i64 z] 29)
  have hB4 := hB3.alloc (.cells #[.int .i64 a, .int .i64 z] 29)
  have hG04 := hG03.alloc (.cells #[.int .i64 a, .int .i64 z] 29)
  have hs3 := hSB3.lt
  have hl3 := hB3.lt
  have hgw : w.heap.size ≤ w3.heap.size := hG03.size
  clear hB3 hG03 hSB3 hz3
  have HZ : Hid (bnd a ∧ bnd z) := Lib.hid (by unfold bnd; omega)
  go_wp2_with fail
  generalize w3.alloc (.cells #[.int .i64 a, .int .i64 z] 29) = w4 at hN4 hSB4 hB4 hG04 ⊢
  generalize w3.heap.size = g at hN4 hs3 hl3 hgw ⊢
  clear hz z0 z1 a0 a1 d0 d1
  refine (flip_c _ _ _ _ hSB4 (by omega) (by omega)).mono ?_; rintro e w5 ⟨q, rfl, hSB5, hG5⟩
  have hN5 := hN4.grown hG5 (fun e => by have := Option.some.inj e; omega)
  have hB5 := hB4.grown hG5 (fun e => by have := Option.some.inj e; omega)
  have hG05 := hG04.trans hG5
  clear hN4 hB4 hG04 hG5 hSB4
  cases q with
  | false =>
    go_wp2_with (first | (refine wpList_load_row rfl 29 _ rfl g rfl 29 #[.int .i64 a, .int .i64 z] (0, 0) _ hN5 Tryd.underlying29 rfl (wi_info a z) ?_) | (refine wpList_store_row rfl 29 _ _ rfl w.heap.size #[.int .i64 a, .int .i64 z] rfl rfl 29 _ hB5 (wi_info a z) rfl (wi_one a z) ?_))
    refine bodyPost_ret (results_cell_row rfl _ _ w.heap.size 29 #[.int .i64 a, .int .i64 z] (0, 0) _ rfl (hB5.setRow _) Tryd.underlying29 rfl (wi_info a z)) rfl ?_
    exact time_fin hslt HZ.out.1 HZ.out.2 (hSB5.le (by omega)) hG05
  | true =>
    go_wp2_with fail
    refine (odd_c _ _ _ _ _ hSB5 (by omega) (by omega) (by omega) (by omega) (by omega)).mono ?_; rintro e w6 ⟨y1, rfl, y10, y11, hSB6, hG6⟩
    have hN6 := hN5.grown hG6 (fun e => by have := Option.some.inj e; omega)
    have hB6 := hB5.grown hG6 (fun e => by have := Option.some.inj e; omega)
    have hG06 := hG05.trans hG6
    clear hN5 hB5 hG05 hG6 hSB5
    go_wp2_with fail
    refine (pick_c _ _ _ [0, 1000, 5761439, 5761440, 172800, 173801] _ _ _ (hSB6.alloc _) (by omega) (by decide) (by decide) (Rd.newAt _ rfl rfl (by decide)) (hSB6.newAt _ _ _ (Nat.le_refl _))).mono ?_; rintro e w7 ⟨y2, rfl, hy2, hSB7, hG7⟩
    have b2 := bnd_pick hy2 (by decide)
    have hN7 := (hN6.alloc _).grown hG7 (fun e => by have := Option.some.inj e; omega)
    have hB7 := (hB6.alloc _).grown hG7 (fun e => by have := Option.some.inj e; omega)
    have hG07 := (hG06.alloc _).trans hG7
    clear hN6 hB6 hG06 hG7 hSB6 hy2
    have hN8 := hN7.setRow #[.int .i64 y1, .int .i64 y2]
    have hB8 := hB7.farRow (show w.heap.size ≠ g by omega) #[.int .i64 y1, .int .i64 y2]
    go_wp2_with (first | (refine wpList_store_row rfl 29 _ _ rfl g #[.int .i64 y1, .int .i64 y2] rfl rfl 29 _ hN7 (wi_info y1 y2) rfl (wi_one y1 y2) ?_) | (refine wpList_load_row rfl 29 _ rfl g rfl 29 #[.int .i64 y1, .int .i64 y2] (0, 0) _ hN8 Tryd.underlying29 rfl (wi_info y1 y2) ?_) | (refine wpList_store_row rfl 29 _ _ rfl w.heap.size #[.int .i64 y1, .int .i64 y2] rfl rfl 29 _ hB8 (wi_info y1 y2) rfl (wi_one y1 y2) ?_))
    refine bodyPost_ret (results_cell_row rfl _ _ w.heap.size 29 #[.int .i64 y1, .int .i64 y2] (0, 0) _ rfl (hB8.setRow _) Tryd.underlying29 rfl (wi_info y1 y2)) rfl ?_
    exact time_fin hslt ⟨y10, y11⟩ b2 ((hSB7.setRow hs3 _).le (by omega)) (hG07.setRow (.inl hgw) _)
end Go.Proofs.YtddedckehllkoaaDoor

/- Rates: RateOn; the reference's RateAt. -/
namespace Go.Proofs.YtddedckehllkoaaDoor
open Go.RowKit

theorem ra_oneB (r : Ra) : (raC r).all (·.oneCell') = true := by simp [raC, Value.oneCell']
def roE (l : List Ra) (k : ByteArray) (d : Int) : Int := if raE l = 0 then (if keyB k = false then 5 else if inB d 0 4000 = false then 1 else if (l.find? (raF k d)).isSome = true then 0 else 8) else raE l
def raG (o : Option Ra) : Ra := match o with | some x => x | none => raZ
def roN (l : List Ra) (k : ByteArray) (d : Int) : Ra := if roE l k d = 0 then raG (l.find? (raF k d)) else raZ
set_option maxRecDepth 100000 in
set_option maxHeartbeats 4000000 in
theorem rateOn_c (v : Value) (l : List Ra) (k : ByteArray) (d : Int) (w : World) (hr : RdR w 7 raC v l) (hl : RaOk l) (hn : l.length ≤ 1000) (hk : Small k) :
    Calls Tryd.prog 26 #[v, .string k, .int .i64 d] w fun e w' => e = .returned (.tuple #[.agg (raC (roN l k d)), .int .i64 (roE l k d)]) ∧ G w w' none := by
  have HR := Lib.hid hr
  unfold Small at hk
  have HRL : Hid (RdR (w.alloc (.cells (raC raZ) 54)) 7 raC v l) := Lib.hid (hr.quiet ((G.refl w none).alloc _))
  have hB0 := Bk.new w 54 (raC raZ)
  have hG0 : G w (w.alloc (.cells (raC raZ) 54)) none := (G.refl w none).alloc _
  clear hr
  by_cases h0 : raE l = 0
  · cases hkk : keyB k with
    | false =>
      have HE : Hid (roE l k d = 5) := Lib.hid (by simp [roE, h0, hkk])
      have HN : Hid (roN l k d = raZ) := Lib.hid (by rw [roN, if_neg (by rw [HE.out]; decide)])
      have HK := Lib.hid hkk
      clear hkk
      go_enter Tryd.func26, Tryd.ntmps26
      go_wp2_with fail
      refine (checkRates_c v l _ HRL.out hl hn).mono ?_; rintro e w1 ⟨rfl, hG1⟩
      have hB1 := hB0.quiet hG1
      have hG01 := hG0.trans hG1
      clear hB0 hG0 hG1
      rw [h0]
      go_wp2_with fail
      refine (isKey_c k _ hk).mono ?_; rintro e w' ⟨rfl, rfl⟩
      rw [HK.out]
      go_wp2_with (refine wpList_store_row rfl 54 _ _ rfl w.heap.size (raC raZ) rfl rfl 54 _ hB1 (ra_info raZ) rfl (ra_oneB raZ) ?_)
      refine bodyPost_ret (results_cell_two rfl _ _ w.heap.size 54 (raC raZ) (0, 0) _ rfl (hB1.setRow _) Tryd.underlying54 rfl (ra_info raZ)) rfl ?_
      exact ⟨by rw [HE.out, HN.out]; rfl, hG01.setRow (.inl (Nat.le_refl _)) _⟩
    | true =>
      have HK := Lib.hid hkk
      clear hkk
      cases hd : inB d 0 4000 with
      | false =>
        have HE : Hid (roE l k d = 1) := Lib.hid (by simp [roE, h0, HK.out, hd])
        have HN : Hid (roN l k d = raZ) := Lib.hid (by rw [roN, if_neg (by rw [HE.out]; decide)])
        have HD := Lib.hid hd
        clear hd
        go_enter Tryd.func26, Tryd.ntmps26
        go_wp2_with fail
        refine (checkRates_c v l _ HRL.out hl hn).mono ?_; rintro e w1 ⟨rfl, hG1⟩
        have hB1 := hB0.quiet hG1
        have hG01 := hG0.trans hG1
        clear hB0 hG0 hG1
        rw [h0]
        go_wp2_with fail
        refine (isKey_c k _ hk).mono ?_; rintro e w' ⟨rfl, rfl⟩
        rw [HK.out]
        go_wp2_with fail
        refine (within_c _ _ _ _).mono ?_; rintro e w' ⟨rfl, rfl⟩
        rw [HD.out]
        go_wp2_with (refine wpList_store_row rfl 54 _ _ rfl w.heap.size (raC raZ) rfl rfl 54 _ hB1 (ra_info raZ) rfl (ra_oneB raZ) ?_)
        refine bodyPost_ret (results_cell_two rfl _ _ w.heap.size 54 (raC raZ) (0, 0) _ rfl (hB1.setRow _) Tryd.underlying54 rfl (ra_info raZ)) rfl ?_
        exact ⟨by rw [HE.out, HN.out]; rfl, hG01.setRow (.inl (Nat.le_refl _)) _⟩
      | true =>
        have HD := Lib.hid hd
        clear hd
        rcases ixP_find (raF k d) l 0 with ⟨hi, hf⟩ | ⟨i, p, hi, hp, hf⟩
        · have HE : Hid (roE l k d = 8) := Lib.hid (by simp [roE, h0, HK.out, HD.out, hf])
          have HN : Hid (roN l k d = raZ) := Lib.hid (by rw [roN, if_neg (by rw [HE.out]; decide)])
          have HP : Hid (raPtr v (ixP (raF k d) l 0) = .pointer none) := Lib.hid (by rw [show ixP (raF k d) l 0 = -1 from hi]; unfold raPtr; split <;> simp_all)
          clear hi hf
          go_enter Tryd.func26, Tryd.ntmps26
          go_wp2_with fail
          refine (checkRates_c v l _ HRL.out hl hn).mono ?_; rintro e w1 ⟨rfl, hG1⟩
          have hB1 := hB0.quiet hG1
          have hG01 := hG0.trans hG1
          clear hB0 hG0 hG1
          rw [h0]
          go_wp2_with fail
          refine (isKey_c k _ hk).mono ?_; rintro e w' ⟨rfl, rfl⟩
          rw [HK.out]
          go_wp2_with fail
          refine (within_c _ _ _ _).mono ?_; rintro e w' ⟨rfl, rfl⟩
          rw [HD.out]
          go_wp2_with fail
          refine (seasonOn_c v l k d _ (HR.out.quiet hG01) hn).mono ?_; rintro e w' ⟨rfl, rfl⟩
          rw [HP.out]
          go_wp2_with (refine wpList_store_row rfl 54 _ _ rfl w.heap.size (raC raZ) rfl rfl 54 _ hB1 (ra_info raZ) rfl (ra_oneB raZ) ?_)
          refine bodyPost_ret (results_cell_two rfl _ _ w.heap.size 54 (raC raZ) (0, 0) _ rfl (hB1.setRow _) Tryd.underlying54 rfl (ra_info raZ)) rfl ?_
          exact ⟨by rw [HE.out, HN.out]; rfl, hG01.setRow (.inl (Nat.le_refl _)) _⟩
        · have HE : Hid (roE l k d = 0) := Lib.hid (by simp [roE, h0, HK.out, HD.out, hf])
          have HN : Hid (roN l k d = p) := Lib.hid (by rw [roN, if_pos HE.out, hf]; rfl)
          obtain ⟨ad, cap, rfl, hcap, hm⟩ := RdR.form HR.out
          obtain ⟨bb, bo, rfl, hbb, _⟩ := RdR.elem raC_sz HR.out (G.refl w none) hp
          have HP : Hid (raPtr (.slice (some ⟨bb, bo, none⟩) l.length cap) (ixP (raF k d) l 0) = .pointer (some ⟨bb, bo + i * 7, none⟩)) := Lib.hid (by rw [show ixP (raF k d) l 0 = ((0 + i : Nat) : Int) from hi, Nat.zero_add]; rfl)
          have HPP := Lib.hid hp
          clear hi hf hp
          go_enter Tryd.func26, Tryd.ntmps26
          go_wp2_with fail
          refine (checkRates_c _ l _ HRL.out hl hn).mono ?_; rintro e w1 ⟨rfl, hG1⟩
          have hB1 := hB0.quiet hG1
          have hG01 := hG0.trans hG1
          clear hB0 hG0 hG1
          have HW := Lib.hid (raRow HR.out hG01 HPP.out)
          rw [h0]
          go_wp2_with fail
          refine (isKey_c k _ hk).mono ?_; rintro e w' ⟨rfl, rfl⟩
          rw [HK.out]
          go_wp2_with fail
          refine (within_c _ _ _ _).mono ?_; rintro e w' ⟨rfl, rfl⟩
          rw [HD.out]
          go_wp2_with fail
          refine (seasonOn_c _ l k d _ (HR.out.quiet hG01) hn).mono ?_; rintro e w' ⟨rfl, rfl⟩
          rw [HP.out]
          go_wp2_with (first | (refine wpList_load_at rfl 54 _ rfl ⟨bb, bo + i * 7, none⟩ rfl #[.string p.1, .int .i64 p.2.1, .int .i64 p.2.2.1, .int .i64 p.2.2.2.1, .int .i64 p.2.2.2.2.1, .int .i64 p.2.2.2.2.2.1, .int .i64 p.2.2.2.2.2.2] _ HW.out Tryd.underlying54 rfl (ra_info p) ?_) | (refine wpList_store_row rfl 54 _ _ rfl w.heap.size (raC p) rfl rfl 54 _ hB1 (ra_info p) rfl (ra_oneB p) ?_))
          refine bodyPost_ret (results_cell_two rfl _ _ w.heap.size 54 (raC p) (0, 0) _ rfl (hB1.setRow _) Tryd.underlying54 rfl (ra_info p)) rfl ?_
          exact ⟨by rw [HE.out, HN.out]; rfl, hG01.setRow (.inl (Nat.le_refl _)) _⟩
  · have HE : Hid (roE l k d = raE l) := Lib.hid (by simp [roE, h0])
    have HN : Hid (roN l k d = raZ) := Lib.hid (by rw [roN, if_neg (by rw [HE.out]; exact h0)])
    have h1 : (raE l != 0) = true := by rw [bne_iff_ne]; exact h0
    clear h0
    go_enter Tryd.func26, Tryd.ntmps26
    go_wp2_with fail
    refine (checkRates_c v l _ HRL.out hl hn).mono ?_; rintro e w1 ⟨rfl, hG1⟩
    have hB1 := hB0.quiet hG1
    have hG01 := hG0.trans hG1
    clear hB0 hG0 hG1
    go_wp2_with (refine wpList_store_row rfl 54 _ _ rfl w.heap.size (raC raZ) rfl rfl 54 _ hB1 (ra_info raZ) rfl (ra_oneB raZ) ?_)
    refine bodyPost_ret (results_cell_two rfl _ _ w.heap.size 54 (raC raZ) (0, 0) _ rfl (hB1.setRow _) Tryd.underlying54 rfl (ra_info raZ)) rfl ?_
    exact ⟨by rw [HE.out, HN.out]; rfl, hG01.setRow (.inl (Nat.le_refl _)) _⟩
/-! ### The reference's RateAt -/
def RatRel (w : World) (l : List Ra) (k : ByteArray) (d : Int) (i : Value) (wr : World) : Prop :=
  ∃ n : Nat, n ≤ l.length ∧ i = .int .i64 n ∧ l.find? (raF k d) = (l.drop n).find? (raF k d) ∧ Bk wr w.heap.size 54 (raC raZ) ∧ G w wr none
set_option maxRecDepth 100000 in
set_option maxHeartbeats 4000000 in
theorem rateAt_c (v : Value) (l : List Ra) (k : ByteArray) (d : Int) (w : World) (hr : RdR w 7 raC v l) (hl : RaOk l) (hn : l.length ≤ 1000) :
    Calls Tryd.prog 32 #[v, .string k, .int .i64 d] w fun e w' => e = .returned (.tuple #[.agg (raC (raG (l.find? (raF k d)))), .bool (l.find? (raF k d)).isSome]) ∧ G w w' none := by
  have HR := Lib.hid hr
  obtain ⟨ad, cap, rfl, hcap, hm⟩ := RdR.form hr
  clear hr
  go_enter Tryd.func32, Tryd.ntmps32
  go_wp2_with fail
  go_loopw [12] (RatRel w l k d) (fun i _ => l.length - (intOf i).toNat)
  case atStart => exact ⟨0, by omega, rfl, rfl, Bk.new w _ _, (G.refl _ _).alloc _⟩
  case round =>
    obtain ⟨n, hnl, rfl, heq, hB, hG⟩ := hrel
    have HE := Lib.hid heq
    clear heq
    by_cases hlt : n < l.length
    · obtain ⟨p, hp⟩ : ∃ p, l[n]? = some p := ⟨_, List.getElem?_eq_getElem hlt⟩
      have HD : Hid (l.find? (raF k d) = if raF k d p = true then some p else (l.drop (n + 1)).find? (raF k d)) := Lib.hid (by
        rw [HE.out, List.drop_eq_getElem_cons hlt, (List.getElem?_eq_some_iff.1 hp).2, List.find?_cons]
        split <;> simp_all)
      obtain ⟨bb, bo, rfl, hbb, _⟩ := RdR.elem raC_sz HR.out hG hp
      have HW := Lib.hid (raRow HR.out hG hp)
      have hpb := hl p (List.mem_of_getElem? hp)
      have hp1 := hpb.2.1
      have hp2 := hpb.2.2.1
      unfold bnd at hp1 hp2
      have HEF : Hid (raF k d p = (eqB p.1 k && inB d p.2.1 (p.2.2.1 - 1))) := Lib.hid (by
        unfold raF inB
        rw [show decide (d < p.2.2.1) = decide (d ≤ p.2.2.1 - 1) by rw [Bool.eq_iff_iff]; simp; omega])
      have hw : IntKind.i64.wrap (p.2.2.1 - 1) = p.2.2.1 - 1 := by rw [IntKind.wrap_i64]; omega
      have hBn := Bk.new wr 54 (raC p)
      have hB1 := hB.alloc (.cells (raC p) 54)
      have hG1 := hG.alloc (.cells (raC p) 54)
      clear hp hpb hB hG
      cases h1 : eqB p.1 k with
      | false =>
        have HF : Hid (l.find? (raF k d) = (l.drop (n + 1)).find? (raF k d)) := Lib.hid (by rw [HD.out, if_neg (by simp [HEF.out, h1])])
        unfold eqB at h1
        clear HD HEF
        go_wp2_with (refine wpList_load_at rfl 54 _ rfl ⟨bb, bo + n * 7, none⟩ rfl #[.string p.1, .int .i64 p.2.1, .int .i64 p.2.2.1, .int .i64 p.2.2.2.1, .int .i64 p.2.2.2.2.1, .int .i64 p.2.2.2.2.2.1, .int .i64 p.2.2.2.2.2.2] _ HW.out Tryd.underlying54 rfl (ra_info p) ?_)
        go_roundw
        case rel => exact ⟨n + 1, by omega, by go_num, HF.out, hB1, hG1⟩
        case measure => simp [intOf]; omega
      | true =>
        have H1 := Lib.hid h1
        unfold eqB at h1
        cases h2 : inB d p.2.1 (p.2.2.1 - 1) with
        | false =>
          have HF : Hid (l.find? (raF k d) = (l.drop (n + 1)).find? (raF k d)) := Lib.hid (by rw [HD.out, if_neg (by simp [HEF.out, h2])])
          clear HD HEF
          go_wp2_with (refine wpList_load_at rfl 54 _ rfl ⟨bb, bo + n * 7, none⟩ rfl #[.string p.1, .int .i64 p.2.1, .int .i64 p.2.2.1, .int .i64 p.2.2.2.1, .int .i64 p.2.2.2.2.1, .int .i64 p.2.2.2.2.2.1, .int .i64 p.2.2.2.2.2.2] _ HW.out Tryd.underlying54 rfl (ra_info p) ?_)
          refine (in_c _ _ _ _).mono ?_; rintro e w' ⟨rfl, rfl⟩
          rw [h2]
          go_wp2_with fail
          go_roundw
          case rel => exact ⟨n + 1, by omega, by go_num, HF.out, hB1, hG1⟩
          case measure => simp [intOf]; omega
        | true =>
          have HF : Hid (l.find? (raF k d) = some p) := Lib.hid (by rw [HD.out, if_pos (by rw [HEF.out, H1.out, h2]; rfl)])
          clear HD HEF
          go_wp2_with (refine wpList_load_at rfl 54 _ rfl ⟨bb, bo + n * 7, none⟩ rfl #[.string p.1, .int .i64 p.2.1, .int .i64 p.2.2.1, .int .i64 p.2.2.2.1, .int .i64 p.2.2.2.2.1, .int .i64 p.2.2.2.2.2.1, .int .i64 p.2.2.2.2.2.2] _ HW.out Tryd.underlying54 rfl (ra_info p) ?_)
          refine (in_c _ _ _ _).mono ?_; rintro e w' ⟨rfl, rfl⟩
          rw [h2]
          go_wp2_with (first | (refine wpList_load_row rfl 54 _ rfl wr.heap.size rfl 54 (raC p) (0, 0) _ hBn Tryd.underlying54 rfl (ra_info p) ?_) | (refine wpList_store_row rfl 54 _ _ rfl w.heap.size (raC p) rfl rfl 54 _ hB1 (ra_info p) rfl (ra_oneB p) ?_))
          refine bodyPost_ret (results_cell_two rfl _ _ w.heap.size 54 (raC p) (0, 0) _ rfl (hB1.setRow _) Tryd.underlying54 rfl (ra_info p)) rfl ?_
          exact ⟨by rw [HF.out]; rfl, hG1.setRow (.inl (Nat.le_refl _)) _⟩
    · obtain rfl : n = l.length := by omega
      have HF : Hid (l.find? (raF k d) = none) := Lib.hid (by rw [HE.out, List.drop_length]; rfl)
      go_wp2_with (refine wpList_store_row rfl 54 _ _ rfl w.heap.size (raC raZ) rfl rfl 54 _ hB (ra_info raZ) rfl (ra_oneB raZ) ?_)
      refine bodyPost_ret (results_cell_two rfl _ _ w.heap.size 54 (raC raZ) (0, 0) _ rfl (hB.setRow _) Tryd.underlying54 rfl (ra_info raZ)) rfl ?_
      exact ⟨by rw [HF.out]; rfl, hG.setRow (.inl (Nat.le_refl _)) _⟩
end Go.Proofs.YtddedckehllkoaaDoor

/- Rates: the reference's RatesFault. -/
namespace Go.Proofs.YtddedckehllkoaaDoor
open Go.RowKit

theorem eqB_com2 (a b : ByteArray) : eqB a b = eqB b a := by
  cases h : eqB b a with
  | true => exact eqB_iff.2 (eqB_iff.1 h).symm
  | false =>
    cases k : eqB a b with
    | false => rfl
    | true => rw [← eqB_iff.1 k, eqB_iff.2 rfl] at h; exact h
theorem priceB_iff (h d e v : Int) : priceB h d e v = decide (-1 ≤ min (min (min h d) e) v ∧ max (max (max h d) e) v ≤ 1000000) := by
  unfold priceB inB
  rw [Bool.eq_iff_iff]
  simp only [Bool.and_eq_true, decide_eq_true_eq]
  omega
theorem chE_key {x : Ra} (h : keyB x.1 = false) : chE x = 5 := by rw [chE, if_pos h]
theorem chE_span {x : Ra} (h : keyB x.1 = true) (h2 : spanB x.2.1 x.2.2.1 = false) : chE x = 1 := by rw [chE, if_neg (by simp [h]), if_pos h2]
theorem chE_price {x : Ra} (h : keyB x.1 = true) (h2 : priceB x.2.2.2.1 x.2.2.2.2.1 x.2.2.2.2.2.1 x.2.2.2.2.2.2 = false) : chE x = 1 := by
  rw [chE, if_neg (by simp [h])]
  cases hs : spanB x.2.1 x.2.2.1 with
  | false => rfl
  | true => rw [h2]; rfl
theorem chE_ok {x : Ra} (h : keyB x.1 = true) (h1 : spanB x.2.1 x.2.2.1 = true) (h2 : priceB x.2.2.2.1 x.2.2.2.2.1 x.2.2.2.2.2.1 x.2.2.2.2.2.2 = true) : chE x = 0 := by
  rw [chE, if_neg (by simp [h]), if_neg (by simp [h1]), if_neg (by simp [h2])]
theorem min4 (x y z u : Int) (w : World) : (Builtin.min_ #[3, 3, 3, 3] 3 #[.int .i64 x, .int .i64 y, .int .i64 z, .int .i64 u]).run Tryd.prog w = .ok (.int .i64 (min (min (min x y) z) u)) w := by
  have e : ∀ a b : Int, (if b < a then b else a) = min a b := fun a b => by
    rw [Int.min_def]
    split <;> split <;> omega
  simp [Builtin.min_, Builtin.min2, e]
theorem max4 (x y z u : Int) (w : World) : (Builtin.max_ #[3, 3, 3, 3] 3 #[.int .i64 x, .int .i64 y, .int .i64 z, .int .i64 u]).run Tryd.prog w = .ok (.int .i64 (max (max (max x y) z) u)) w := by
  have e : ∀ a b : Int, (if a < b then b else a) = max a b := fun a b => by
    rw [Int.max_def]
    split <;> split <;> omega
  simp [Builtin.max_, Builtin.max2, e]
set_option maxRecDepth 100000 in
set_option maxHeartbeats 4000000 in
theorem ratesFault_c (v : Value) (l : List Ra) (w : World) (hr : RdR w 7 raC v l) (hl : RaOk l) (hn : l.length ≤ 1000) :
    Calls Tryd.prog 27 #[v] w fun e w' => e = .returned (.int .i64 (raE l)) ∧ G w w' none := by
  have HR := Lib.hid hr
  obtain ⟨a, cap, rfl, hcap, hm⟩ := RdR.form hr
  clear hr
  by_cases h30 : 200 < l.length
  · have H := Lib.hid (show raE l = 2 by simp [raE, h30])
    go_enter Tryd.func27, Tryd.ntmps27
    go_wp2_with fail
    go_ret
    exact ⟨by rw [H.out]; rfl, G.refl _ _⟩
  · have H := Lib.hid (show raE l = raErr none l by simp [raE, h30])
    go_enter Tryd.func27, Tryd.ntmps27
    go_wp2_with fail
    go_loopw [13] (RaRel w l) (fun i _ => l.length - (intOf i).toNat)
    case atStart => exact ⟨0, by omega, rfl, rfl, G.refl _ _⟩
    case round =>
      obtain ⟨k, hkl, rfl, heq, hG⟩ := hrel
      have HE := Lib.hid heq
      clear heq
      by_cases hk : k < l.length
      · obtain ⟨p, hp⟩ : ∃ p, l[k]? = some p := ⟨_, List.getElem?_eq_getElem hk⟩
        have hdrop : l.drop k = p :: l.drop (k + 1) := by rw [List.drop_eq_getElem_cons hk, ← (List.getElem?_eq_some_iff.1 hp).2]
        have hpl := hl p (List.mem_of_getElem? hp)
        obtain ⟨bb, bo, rfl, hbb, _⟩ := RdR.elem raC_sz HR.out hG hp
        have HW := Lib.hid (raRow HR.out hG hp)
        have HP := Lib.hid hp
        have hs1 := hpl.1
        unfold Small at hs1
        have HS : Hid (raErr (prevAt l k) (l.drop k) = if chE p = 0 then (if raAfter (prevAt l k) p = true then 7 else if raHits (prevAt l k) p = true then 13 else raErr (some p) (l.drop (k + 1))) else chE p) := Lib.hid (by rw [hdrop]; rfl)
        have HB5 := Lib.hid (Bk.new wr 54 (raC p))
        have HG5 := Lib.hid (hG.alloc (.cells (raC p) 54))
        clear hdrop hp hpl
        go_wp2_with (refine wpList_load_at rfl 54 _ rfl ⟨bb, bo + k * 7, none⟩ rfl #[.string p.1, .int .i64 p.2.1, .int .i64 p.2.2.1, .int .i64 p.2.2.2.1, .int .i64 p.2.2.2.2.1, .int .i64 p.2.2.2.2.2.1, .int .i64 p.2.2.2.2.2.2] _ HW.out Tryd.underlying54 rfl (ra_info p) ?_)
        have hB5 : Bk (wr.alloc (.cells #[.string p.1, .int .i64 p.2.1, .int .i64 p.2.2.1, .int .i64 p.2.2.2.1, .int .i64 p.2.2.2.2.1, .int .i64 p.2.2.2.2.2.1, .int .i64 p.2.2.2.2.2.2] 54)) wr.heap.size 54 (raC p) := HB5.out
        have hG5 : G w (wr.alloc (.cells #[.string p.1, .int .i64 p.2.1, .int .i64 p.2.2.1, .int .i64 p.2.2.2.1, .int .i64 p.2.2.2.2.1, .int .i64 p.2.2.2.2.2.1, .int .i64 p.2.2.2.2.2.2] 54)) none := HG5.out
        clear HB5 HG5 HW hG
        have hg5 := hB5.lt
        generalize wr.alloc (.cells #[.string p.1, .int .i64 p.2.1, .int .i64 p.2.2.1, .int .i64 p.2.2.2.1, .int .i64 p.2.2.2.2.1, .int .i64 p.2.2.2.2.2.1, .int .i64 p.2.2.2.2.2.2] 54) = w5 at hB5 hG5 hg5 ⊢
        generalize wr.heap.size = g at hB5 hg5 ⊢
        have c0 : w5.cell? ⟨g, 0, none⟩ = some (.string p.1) := hB5.cell 0
        have c1 : w5.cell? ⟨g, 1, none⟩ = some (.int .i64 p.2.1) := hB5.cell 1
        have c2 : w5.cell? ⟨g, 2, none⟩ = some (.int .i64 p.2.2.1) := hB5.cell 2
        have c3 : w5.cell? ⟨g, 3, none⟩ = some (.int .i64 p.2.2.2.1) := hB5.cell 3
        have c4 : w5.cell? ⟨g, 4, none⟩ = some (.int .i64 p.2.2.2.2.1) := hB5.cell 4
        have c5 : w5.cell? ⟨g, 5, none⟩ = some (.int .i64 p.2.2.2.2.2.1) := hB5.cell 5
        have c6 : w5.cell? ⟨g, 6, none⟩ = some (.int .i64 p.2.2.2.2.2.2) := hB5.cell 6
        obtain ⟨L, hL⟩ : ∃ L, min (min (min p.2.2.2.1 p.2.2.2.2.1) p.2.2.2.2.2.1) p.2.2.2.2.2.2 = L := ⟨_, rfl⟩
        obtain ⟨M, hM⟩ : ∃ M, max (max (max p.2.2.2.1 p.2.2.2.2.1) p.2.2.2.2.2.1) p.2.2.2.2.2.2 = M := ⟨_, rfl⟩
        have hmin := fun w : World => min4 p.2.2.2.1 p.2.2.2.2.1 p.2.2.2.2.2.1 p.2.2.2.2.2.2 w
        have hmax := fun w : World => max4 p.2.2.2.1 p.2.2.2.2.1 p.2.2.2.2.2.1 p.2.2.2.2.2.2 w
        rw [hL] at hmin
        rw [hM] at hmax
        have HPR : Hid (priceB p.2.2.2.1 p.2.2.2.2.1 p.2.2.2.2.2.1 p.2.2.2.2.2.2 = decide (-1 ≤ L ∧ M ≤ 1000000)) := Lib.hid (by rw [priceB_iff, hL, hM])
        clear hL hM
        go_quiet (fail)
        have hGd := hG5.drewN nq
        have hBd := hB5.drewN nq
        clear hG5 hB5 hmin hmax c3 c4 c5 c6
        go_wp2_with fail
        refine (rkey_c _ _ hs1).mono ?_; rintro e w6 ⟨rfl, hG6⟩
        have hG06 := hGd.trans hG6
        have hB6 := hBd.quiet hG6
        clear hGd hBd hG6 c0 c1 c2
        have c0 : w6.cell? ⟨g, 0, none⟩ = some (.string p.1) := hB6.cell 0
        have c1 : w6.cell? ⟨g, 1, none⟩ = some (.int .i64 p.2.1) := hB6.cell 1
        have c2 : w6.cell? ⟨g, 2, none⟩ = some (.int .i64 p.2.2.1) := hB6.cell 2
        have hg6 := hB6.lt
        cases hkb : keyB p.1 with
        | false =>
          have hch := chE_key hkb
          have HF : Hid (raE l = 5) := Lib.hid (by rw [H.out, HE.out, HS.out, if_neg (by rw [hch]; decide), hch])
          clear hch hkb
          go_wp2_with fail
          go_ret
          exact ⟨by rw [HF.out]; rfl, hG06⟩
        | true =>
          have HK := Lib.hid hkb
          clear hkb
          rcases (show p.2.1 < 0 ∨ (0 ≤ p.2.1 ∧ p.2.2.1 ≤ p.2.1) ∨ (0 ≤ p.2.1 ∧ p.2.1 < p.2.2.1 ∧ 4001 < p.2.2.1) ∨ (0 ≤ p.2.1 ∧ p.2.1 < p.2.2.1 ∧ p.2.2.1 ≤ 4001) by omega) with h1 | ⟨h1, h2⟩ | ⟨h1, h2, h3⟩ | ⟨h1, h2, h3⟩
          · have hch := chE_span HK.out (by rw [spanB, decide_eq_false (show ¬ 0 ≤ p.2.1 by omega)]; rfl)
            have HF : Hid (raE l = 1) := Lib.hid (by rw [H.out, HE.out, HS.out, if_neg (by rw [hch]; decide), hch])
            clear hch
            go_wp2_with fail
            go_ret
            exact ⟨by rw [HF.out]; rfl, hG06⟩
          · have hch := chE_span HK.out (by rw [spanB, decide_eq_false (show ¬ p.2.1 < p.2.2.1 by omega)]; simp)
            have HF : Hid (raE l = 1) := Lib.hid (by rw [H.out, HE.out, HS.out, if_neg (by rw [hch]; decide), hch])
            clear hch
            go_wp2_with fail
            go_ret
            exact ⟨by rw [HF.out]; rfl, hG06⟩
          · have hch := chE_span HK.out (by rw [spanB, decide_eq_false (show ¬ p.2.2.1 ≤ 4001 by omega)]; simp)
            have HF : Hid (raE l = 1) := Lib.hid (by rw [H.out, HE.out, HS.out, if_neg (by rw [hch]; decide), hch])
            clear hch
            go_wp2_with fail
            go_ret
            exact ⟨by rw [HF.out]; rfl, hG06⟩
          · have HSP : Hid (spanB p.2.1 p.2.2.1 = true) := Lib.hid (by simp [spanB, h1, h2, h3])
            rcases (show L < -1 ∨ (-1 ≤ L ∧ 1000000 < M) ∨ (-1 ≤ L ∧ M ≤ 1000000) by omega) with h4 | ⟨h4, h5⟩ | ⟨h4, h5⟩
            · have hch := chE_price HK.out (by rw [HPR.out]; exact decide_eq_false (by omega))
              have HF : Hid (raE l = 1) := Lib.hid (by rw [H.out, HE.out, HS.out, if_neg (by rw [hch]; decide), hch])
              clear hch
              go_wp2_with fail
              go_ret
              exact ⟨by rw [HF.out]; rfl, hG06⟩
            · have hch := chE_price HK.out (by rw [HPR.out]; exact decide_eq_false (by omega))
              have HF : Hid (raE l = 1) := Lib.hid (by rw [H.out, HE.out, HS.out, if_neg (by rw [hch]; decide), hch])
              clear hch
              go_wp2_with fail
              go_ret
              exact ⟨by rw [HF.out]; rfl, hG06⟩
            · have hch := chE_ok HK.out HSP.out (by rw [HPR.out]; exact decide_eq_true ⟨h4, h5⟩)
              cases k with
              | zero =>
                have HF : Hid (raErr none l = raErr (prevAt l (0 + 1)) (l.drop (0 + 1))) := Lib.hid (by rw [HE.out, HS.out, if_pos hch, if_neg (by simp [raAfter, prevAt]), if_neg (by simp [raHits, prevAt]), prevAt_succ l 0 p HP.out])
                clear hch HS HE HPR HSP
                go_wp2_with fail
                go_roundw
                case rel => exact ⟨0 + 1, by omega, by go_num, HF.out, hG06⟩
                case measure => simp [intOf]; omega
              | succ m =>
                obtain ⟨q, hq2⟩ : ∃ q, l[m]? = some q := ⟨_, List.getElem?_eq_getElem (by omega)⟩
                have HPA : Hid (prevAt l (m + 1) = some q) := Lib.hid (prevAt_succ l m q hq2)
                have HX : Hid (raErr none l = if 0 ≤ cmpR q p then 7 else if raHits (some q) p = true then 13 else raErr (some p) (l.drop (m + 1 + 1))) := Lib.hid (by rw [HE.out, HS.out, if_pos hch, HPA.out]; simp [raAfter])
                have hsub : IntKind.i64.wrap (((m + 1 : Nat) : Int) - 1) = (m : Int) := by rw [show ((m + 1 : Nat) : Int) - 1 = (m : Int) by omega]; rw [IntKind.wrap_i64]; omega
                have hsub2 : IntKind.i64.wrap (m : Int) = (m : Int) := by rw [IntKind.wrap_i64]; omega
                have hsub3 : IntKind.i64.wrap ((m : Int) + 1 - 1) = (m : Int) := by rw [IntKind.wrap_i64]; omega
                have hm0 : (0 : Int) ≤ (m : Int) := Int.natCast_nonneg m
                have hml : (m : Int) < (l.length : Int) := by omega
                have HW := Lib.hid (raRow HR.out hG06 hq2)
                have HG7 := Lib.hid (hG06.alloc (.cells (raC q) 54))
                have d0 := RdR.cell raC_sz HR.out hG06 hq2 0 (.string q.1) rfl
                have d1 := RdR.cell raC_sz HR.out hG06 hq2 1 (.int .i64 q.2.1) rfl
                have d2 := RdR.cell raC_sz HR.out hG06 hq2 2 (.int .i64 q.2.2.1) rfl
                have d3 := RdR.cell raC_sz HR.out hG06 hq2 3 (.int .i64 q.2.2.2.1) rfl
                have d4 := RdR.cell raC_sz HR.out hG06 hq2 4 (.int .i64 q.2.2.2.2.1) rfl
                have d5 := RdR.cell raC_sz HR.out hG06 hq2 5 (.int .i64 q.2.2.2.2.2.1) rfl
                have d6 := RdR.cell raC_sz HR.out hG06 hq2 6 (.int .i64 q.2.2.2.2.2.2) rfl
                simp only [Nat.add_zero] at d0
                clear HW
                have hneg := cmpI_neg p.1 q.1
                have hl1 : Op.bytesLess p.1.toList q.1.toList = decide (cmpI p.1 q.1 < 0) := by rw [less_cL, ByteArray.toList_eq, ByteArray.toList_eq]; rfl
                have he1 := eqB_cmp p.1 q.1
                have hor : cmpR q p = if cmpI q.1 p.1 = 0 then cmpS q.2.1 p.2.1 else cmpI q.1 p.1 := rfl
                have hcs : cmpS q.2.1 p.2.1 = if q.2.1 < p.2.1 then -1 else if p.2.1 < q.2.1 then 1 else 0 := rfl
                clear hq2 hch HS HE HPR HSP
                rcases (show cmpI p.1 q.1 < 0 ∨ 0 < cmpI p.1 q.1 ∨ cmpI p.1 q.1 = 0 by omega) with hc | hc | hc
                · have HF : Hid (raE l = 7) := Lib.hid (by rw [H.out, HX.out, if_pos (by rw [hor, if_neg (by omega)]; omega)])
                  have g1 : Op.bytesLess p.1.toList q.1.toList = true := by rw [hl1]; exact decide_eq_true hc
                  clear hl1 he1 hor hneg hcs
                  go_wp2_with fail
                  go_ret
                  exact ⟨by rw [HF.out]; rfl, HG7.out⟩
                · have g1 : Op.bytesLess p.1.toList q.1.toList = false := by rw [hl1]; exact decide_eq_false (by omega)
                  have g2 : eqB p.1 q.1 = false := by rw [he1]; exact decide_eq_false (by omega)
                  have HF : Hid (raErr none l = raErr (prevAt l (m + 1 + 1)) (l.drop (m + 1 + 1))) := Lib.hid (by rw [HX.out, if_neg (by rw [hor, if_neg (by omega)]; omega), if_neg (by simp [raHits, eqB_com2 q.1 p.1, g2]), prevAt_succ l (m + 1) p HP.out])
                  unfold eqB at g2
                  clear hl1 he1 hor hneg hcs
                  go_wp2_with fail
                  go_roundw
                  case rel => exact ⟨m + 1 + 1, by omega, by go_num, HF.out, HG7.out⟩
                  case measure => simp [intOf]; omega
                · have g1 : Op.bytesLess p.1.toList q.1.toList = false := by rw [hl1]; exact decide_eq_false (by omega)
                  have g2 : eqB p.1 q.1 = true := by rw [he1]; exact decide_eq_true hc
                  have HG2 := Lib.hid g2
                  unfold eqB at g2
                  rcases (show p.2.1 ≤ q.2.1 ∨ (q.2.1 < p.2.1 ∧ p.2.1 < q.2.2.1) ∨ (q.2.1 < p.2.1 ∧ q.2.2.1 ≤ p.2.1) by omega) with h6 | ⟨h6, h7⟩ | ⟨h6, h7⟩
                  · have HF : Hid (raE l = 7) := Lib.hid (by rw [H.out, HX.out, if_pos (by rw [hor, if_pos (by omega), hcs, if_neg (by omega)]; split <;> omega)])
                    clear hl1 he1 hor hneg hcs
                    go_wp2_with fail
                    go_ret
                    exact ⟨by rw [HF.out]; rfl, HG7.out⟩
                  · have HF : Hid (raE l = 13) := Lib.hid (by rw [H.out, HX.out, if_neg (by rw [hor, if_pos (by omega), hcs, if_pos h6]; omega), if_pos (by simp [raHits, eqB_com2 q.1 p.1, HG2.out, h7])])
                    clear hl1 he1 hor hneg hcs
                    go_wp2_with fail
                    go_ret
                    exact ⟨by rw [HF.out]; rfl, HG7.out⟩
                  · have HF : Hid (raErr none l = raErr (prevAt l (m + 1 + 1)) (l.drop (m + 1 + 1))) := Lib.hid (by rw [HX.out, if_neg (by rw [hor, if_pos (by omega), hcs, if_pos h6]; omega), if_neg (by simp [raHits, h7]), prevAt_succ l (m + 1) p HP.out])
                    clear hl1 he1 hor hneg hcs
                    go_wp2_with fail
                    go_roundw
                    case rel => exact ⟨m + 1 + 1, by omega, by go_num, HF.out, HG7.out⟩
                    case measure => simp [intOf]; omega
      · obtain rfl : k = l.length := by omega
        have HE2 : Hid (raE l = 0) := Lib.hid (by rw [H.out, HE.out, List.drop_length]; rfl)
        go_wp2_with fail
        go_ret
        exact ⟨by rw [HE2.out]; rfl, hG⟩
end Go.Proofs.YtddedckehllkoaaDoor

/- The time of a hire: Days, begun, TimeFault, DaysOf. -/
namespace Go.Proofs.YtddedckehllkoaaDoor
open Go.RowKit

def tE (a z : Int) : Int := if 0 ≤ a ∧ a < z ∧ z ≤ 5761439 then (if 172800 < z - a then 2 else 0) else 1
def tN (a z : Int) : Int := if tE a z = 0 then (z - a + 1439) / 1440 else 0
set_option maxRecDepth 100000 in
theorem begun_c (m : Int) (w : World) (h0 : 0 ≤ m) (h1 : m ≤ 5761439) : Calls Tryd.prog 80 #[.int .i64 m, .int .i64 1440] w fun e w' => e = .returned (.int .i64 ((m + 1439) / 1440)) ∧ w = w' := by
  have HF : Hid ((m + 1440 - 1) / 1440 = (m + 1439) / 1440) := Lib.hid (by omega)
  go_enter Tryd.func80, Tryd.ntmps80
  go_wp2_with fail
  go_ret
  exact ⟨ret_int HF.out, rfl⟩
set_option maxRecDepth 100000 in
set_option maxHeartbeats 2000000 in
theorem days_c (a z : Int) (w : World) (ha : bnd a) (hz : bnd z) : Calls Tryd.prog 25 #[.agg #[.int .i64 a, .int .i64 z]] w fun e w' => e = .returned (.tuple #[.int .i64 (tN a z), .int .i64 (tE a z)]) ∧ G w w' none := by
  unfold bnd at ha hz
  have hG : G w (w.alloc (.cells #[.int .i64 a, .int .i64 z] 29)) none := (G.refl w none).alloc _
  have hB := Bk.new w 29 #[.int .i64 a, .int .i64 z]
  by_cases h0 : 0 ≤ a ∧ a < z ∧ z < 5761440
  · obtain ⟨h1, h2, h3⟩ := h0
    have HI := Lib.hid (timB_yes ⟨h1, h2, h3⟩)
    have HT : Hid (tE a z = if 172800 < z - a then 2 else 0) := Lib.hid (by rw [tE, if_pos ⟨h1, h2, by omega⟩])
    have HD : Hid (tE a z = 0 → tN a z = (z - a + 1439) / 1440) := Lib.hid fun h => by rw [tN, if_pos h]
    have HD2 : Hid (tE a z ≠ 0 → tN a z = 0) := Lib.hid fun h => by rw [tN, if_neg h]
    go_enter Tryd.func25, Tryd.ntmps25
    go_wp2_with (refine wpList_load_row rfl 29 _ rfl w.heap.size rfl 29 #[.int .i64 a, .int .i64 z] (0, 0) _ hB Tryd.underlying29 rfl (wi_info a z) ?_)
    refine (isTime_c a z _).mono ?_; rintro e w1 ⟨rfl, hG1⟩
    rw [HI.out]
    have hB1 := hB.quiet hG1
    have hG01 := hG.trans hG1
    have c0 : w1.cell? ⟨w.heap.size, 0, none⟩ = some (.int .i64 a) := hB1.cell 0
    have c1 : w1.cell? ⟨w.heap.size, 1, none⟩ = some (.int .i64 z) := hB1.cell 1
    clear hB hG hG1
    rcases (show 172800 < z - a ∨ z - a ≤ 172800 by omega) with h4 | h4
    · have HE : Hid (tE a z = 2) := Lib.hid (by rw [HT.out, if_pos h4])
      have HN : Hid (tN a z = 0) := Lib.hid (HD2.out (by rw [HE.out]; decide))
      have h5 : 120 < (z - a + 1439) / 1440 := by omega
      go_wp2_with fail
      refine (begun_c _ _ (by omega) (by omega)).mono ?_; rintro e w' ⟨rfl, rfl⟩
      generalize (z - a + 1439) / 1440 = N at h5 ⊢
      go_wp2_with fail
      go_ret2
      exact ⟨by rw [HE.out, HN.out]; rfl, hG01⟩
    · have HE : Hid (tE a z = 0) := Lib.hid (by rw [HT.out, if_neg (by omega)])
      have HN : Hid (tN a z = (z - a + 1439) / 1440) := Lib.hid (HD.out HE.out)
      have h5 : (z - a + 1439) / 1440 ≤ 120 := by omega
      go_wp2_with fail
      refine (begun_c _ _ (by omega) (by omega)).mono ?_; rintro e w' ⟨rfl, rfl⟩
      generalize (z - a + 1439) / 1440 = N at h5 HN ⊢
      go_wp2_with fail
      go_ret2
      exact ⟨by rw [HE.out, HN.out]; rfl, hG01⟩
  · have HE : Hid (tE a z = 1) := Lib.hid (by rw [tE, if_neg (by omega)])
    have HN : Hid (tN a z = 0) := Lib.hid (by rw [tN, if_neg (by rw [HE.out]; decide)])
    have HI := Lib.hid (timB_no h0)
    clear h0
    go_enter Tryd.func25, Tryd.ntmps25
    go_wp2_with (refine wpList_load_row rfl 29 _ rfl w.heap.size rfl 29 #[.int .i64 a, .int .i64 z] (0, 0) _ hB Tryd.underlying29 rfl (wi_info a z) ?_)
    refine (isTime_c a z _).mono ?_; rintro e w1 ⟨rfl, hG1⟩
    rw [HI.out]
    go_wp2_with fail
    go_ret2
    exact ⟨by rw [HE.out, HN.out]; rfl, hG.trans hG1⟩
set_option maxRecDepth 100000 in
set_option maxHeartbeats 2000000 in
theorem timeFault_c (a z : Int) (w : World) (ha : bnd a) (hz : bnd z) : Calls Tryd.prog 29 #[.agg #[.int .i64 a, .int .i64 z]] w fun e w' => e = .returned (.int .i64 (tE a z)) ∧ G w w' none := by
  unfold bnd at ha hz
  have hG : G w (w.alloc (.cells #[.int .i64 a, .int .i64 z] 29)) none := (G.refl w none).alloc _
  rcases (show a < 0 ∨ (0 ≤ a ∧ z ≤ a) ∨ (0 ≤ a ∧ a < z ∧ 5761439 < z) ∨ (0 ≤ a ∧ a < z ∧ z ≤ 5761439) by omega) with h1 | ⟨h1, h2⟩ | ⟨h1, h2, h3⟩ | ⟨h1, h2, h3⟩
  · have HE : Hid (tE a z = 1) := Lib.hid (by rw [tE, if_neg (by omega)])
    go_enter Tryd.func29, Tryd.ntmps29
    go_wp2_with fail
    go_ret
    exact ⟨by rw [HE.out]; rfl, hG⟩
  · have HE : Hid (tE a z = 1) := Lib.hid (by rw [tE, if_neg (by omega)])
    go_enter Tryd.func29, Tryd.ntmps29
    go_wp2_with fail
    go_ret
    exact ⟨by rw [HE.out]; rfl, hG⟩
  · have HE : Hid (tE a z = 1) := Lib.hid (by rw [tE, if_neg (by omega)])
    go_enter Tryd.func29, Tryd.ntmps29
    go_wp2_with fail
    go_ret
    exact ⟨by rw [HE.out]; rfl, hG⟩
  · have HT : Hid (tE a z = if 172800 < z - a then 2 else 0) := Lib.hid (by rw [tE, if_pos ⟨h1, h2, h3⟩])
    rcases (show 172800 < z - a ∨ z - a ≤ 172800 by omega) with h4 | h4
    · have HE : Hid (tE a z = 2) := Lib.hid (by rw [HT.out, if_pos h4])
      go_enter Tryd.func29, Tryd.ntmps29
      go_wp2_with fail
      go_ret
      exact ⟨by rw [HE.out]; rfl, hG⟩
    · have HE : Hid (tE a z = 0) := Lib.hid (by rw [HT.out, if_neg (by omega)])
      go_enter Tryd.func29, Tryd.ntmps29
      go_wp2_with fail
      go_ret
      exact ⟨by rw [HE.out]; rfl, hG⟩
theorem tE_zero {a z : Int} (h : tE a z = 0) : 0 ≤ a ∧ a < z ∧ z ≤ 5761439 ∧ z - a ≤ 172800 := by
  unfold tE at h
  split at h
  · split at h
    · omega
    · omega
  · omega
def DofRel (w : World) (a z : Int) (s3 s4 : Value) (wr : World) : Prop :=
  ∃ j : Nat, s3 = .int .i64 j ∧ s4 = .int .i64 (a + 1440 * j) ∧ (j : Int) ≤ (z - a + 1439) / 1440 ∧ Bk wr w.heap.size 29 #[.int .i64 a, .int .i64 z] ∧ G w wr none
set_option maxRecDepth 100000 in
set_option maxHeartbeats 2000000 in
theorem daysOf_c (a z : Int) (w : World) (h : tE a z = 0) : Calls Tryd.prog 30 #[.agg #[.int .i64 a, .int .i64 z]] w fun e w' => e = .returned (.int .i64 (tN a z)) ∧ G w w' none := by
  have HN : Hid (tN a z = (z - a + 1439) / 1440) := Lib.hid (by rw [tN, if_pos h])
  obtain ⟨h1, h2, h3, h4⟩ := tE_zero h
  clear h
  go_enter Tryd.func30, Tryd.ntmps30
  go_wp2_with fail
  go_loopw [3, 4] (DofRel w a z) (fun s _ _ => ((z - a + 1439) / 1440).toNat - (intOf s).toNat)
  case atStart => exact ⟨0, rfl, by go_num, by omega, Bk.new w _ _, (G.refl _ _).alloc _⟩
  case round =>
    obtain ⟨j, rfl, rfl, hj, hB, hG⟩ := hrel
    have c0 : wr.cell? ⟨w.heap.size, 0, none⟩ = some (.int .i64 a) := hB.cell 0
    have c1 : wr.cell? ⟨w.heap.size, 1, none⟩ = some (.int .i64 z) := hB.cell 1
    by_cases hlt : a + 1440 * (j : Int) < z
    · go_wp2_with fail
      go_roundw
      case rel => exact ⟨j + 1, by go_num, by go_num, by omega, hB, hG⟩
      case measure => simp [intOf]; omega
    · have hjn : (j : Int) = (z - a + 1439) / 1440 := by omega
      go_wp2_with fail
      go_ret
      exact ⟨by rw [HN.out, ← hjn]; rfl, hG⟩
end Go.Proofs.YtddedckehllkoaaDoor
