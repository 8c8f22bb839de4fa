/- Extras: ExtraCost, ExtraOf. -/
import Derived.Test.YtgofeigebldkiaaDoorExq
namespace Go.Proofs.YtgofeigebldkiaaDoor
open Go.RowKit

def ecE (l : List Ext) (k : ByteArray) (d : Int) : Int := if exE l = 0 then (if (l.find? (exF k)).isSome = true then (if inB d 1 120 = true then 0 else 1) else 8) else exE l
def ecN (l : List Ext) (k : ByteArray) (d : Int) : Int := if ecE l k d = 0 then (match l.find? (exF k) with | some x => costF x d | none => 0) else 0
theorem exAt_find (l : List Ext) (k : ByteArray) : (exAt l k = -1 ∧ l.find? (exF k) = none) ∨ ∃ (i : Nat) (p : Ext), exAt l k = (i : Int) ∧ l[i]? = some p ∧ l.find? (exF k) = some p := by
  rcases ixP_find (exF k) l 0 with h | ⟨i, p, h1, h2, h3⟩
  · exact .inl h
  · rw [Nat.zero_add] at h1
    exact .inr ⟨i, p, h1, h2, h3⟩
set_option maxRecDepth 100000 in
set_option maxHeartbeats 4000000 in
theorem extraCost_c (v : Value) (l : List Ext) (k : ByteArray) (d : Int) (w : World) (hr : RdR w 4 exC v l) (hl : ExOk l) (hn : l.length ≤ 1000) :
    Calls Tryd.prog 25 #[v, .string k, .int .i64 d] w fun e w' => e = .returned (.tuple #[.int .i64 (ecN l k d), .int .i64 (ecE l k d)]) ∧ G w w' none := by
  have HR := Lib.hid hr
  clear hr
  by_cases h0 : exE l = 0
  · rcases exAt_find l k with ⟨h1, h2⟩ | ⟨i, p, h1, h2, h3⟩
    · have HE : Hid (ecE l k d = 8) := Lib.hid (by simp [ecE, h0, h2])
      have HN : Hid (ecN l k d = 0) := Lib.hid (by rw [ecN, if_neg (by rw [HE.out]; decide)])
      go_enter Tryd.func25, Tryd.ntmps25
      go_wp2_with fail
      refine (checkExtras_c v l _ HR.out hl hn).mono ?_; rintro e w1 ⟨rfl, hG1⟩
      rw [h0]
      go_wp2_with fail
      refine (indexOfExtra_c v l k _ (HR.out.quiet hG1) hn).mono ?_; rintro e w2 ⟨rfl, hG2⟩
      rw [h1]
      go_wp2_with fail
      go_ret2
      exact ⟨by rw [HE.out, HN.out]; rfl, hG1.trans hG2⟩
    · have hin := exErr_in (exE_zero h0).1 p (List.mem_of_getElem? h2)
      cases hd : inB d 1 120 with
      | false =>
        have HE : Hid (ecE l k d = 1) := Lib.hid (by simp [ecE, h0, h3, hd])
        have HN : Hid (ecN l k d = 0) := Lib.hid (by rw [ecN, if_neg (by rw [HE.out]; decide)])
        clear h2 h3
        go_enter Tryd.func25, Tryd.ntmps25
        go_wp2_with fail
        refine (checkExtras_c v l _ HR.out hl hn).mono ?_; rintro e w1 ⟨rfl, hG1⟩
        rw [h0]
        go_wp2_with fail
        refine (indexOfExtra_c v l k _ (HR.out.quiet hG1) hn).mono ?_; rintro e w2 ⟨rfl, hG2⟩
        rw [h1]
        go_wp2_with fail
        refine (within_c _ _ _ _).mono ?_; rintro e w' ⟨rfl, rfl⟩
        rw [hd]
        go_wp2_with fail
        go_ret2
        exact ⟨by rw [HE.out, HN.out]; rfl, hG1.trans hG2⟩
      | true =>
        have hd2 : 1 ≤ d ∧ d ≤ 120 := by
          unfold inB at hd
          simpa using hd
        have HE : Hid (ecE l k d = 0) := Lib.hid (by simp [ecE, h0, h3, hd])
        have HN : Hid (ecN l k d = costF p d) := Lib.hid (by rw [ecN, if_pos HE.out, h3])
        have HP := Lib.hid h2
        have hil := (List.getElem?_eq_some_iff.1 h2).1
        clear h2 h3
        obtain ⟨d1, d2⟩ := hd2
        obtain ⟨a, cap, rfl, hcap, hm⟩ := RdR.form HR.out
        go_enter Tryd.func25, Tryd.ntmps25
        go_wp2_with fail
        refine (checkExtras_c _ l _ HR.out hl hn).mono ?_; rintro e w1 ⟨rfl, hG1⟩
        rw [h0]
        go_wp2_with fail
        refine (indexOfExtra_c _ l k _ (HR.out.quiet hG1) hn).mono ?_; rintro e w2 ⟨rfl, hG2⟩
        rw [h1]
        have hG02 := hG1.trans hG2
        clear hG1 hG2
        go_wp2_with fail
        refine (within_c _ _ _ _).mono ?_; rintro e w' ⟨rfl, rfl⟩
        rw [hd]
        obtain ⟨bb, bo, rfl, hbb, hrow⟩ := RdR.elem exC_sz HR.out hG02 HP.out
        have HW := Lib.hid hrow
        clear hrow
        go_wp2_with (refine wpList_load_at rfl 106 _ rfl ⟨bb, bo + i * 4, none⟩ rfl (exC p) _ HW.out Tryd.underlying106 rfl (ex_info p) ?_)
        refine (costOfExtra_c p d _ hin (by omega) (by omega)).mono ?_; rintro e w3 ⟨rfl, hG3⟩
        go_wp2_with fail
        go_ret2
        exact ⟨by rw [HE.out, HN.out]; rfl, hG02.trans hG3⟩
  · have HE : Hid (ecE l k d = exE l) := Lib.hid (by simp [ecE, h0])
    have HN : Hid (ecN l k d = 0) := Lib.hid (by rw [ecN, if_neg (by rw [HE.out]; exact h0)])
    have h1 : (exE l != 0) = true := by rw [bne_iff_ne]; exact h0
    clear h0
    go_enter Tryd.func25, Tryd.ntmps25
    go_wp2_with fail
    refine (checkExtras_c v l _ HR.out hl hn).mono ?_; rintro e w1 ⟨rfl, hG1⟩
    go_wp2_with fail
    go_ret2
    exact ⟨by rw [HE.out, HN.out]; rfl, hG1⟩

/-! ### The reference's ExtraOf -/
def accN (day most : Int) : Nat → Int
  | 0 => 0
  | n + 1 => if 0 ≤ most then min (accN day most n + day) most else accN day most n + day
theorem accN_in {day most : Int} (h1 : 0 ≤ day) (h2 : day ≤ 1000000) (h3 : -1 ≤ most) (n : Nat) : 0 ≤ accN day most n ∧ accN day most n ≤ 1000000 * n := by
  induction n with
  | zero => exact ⟨Int.le_refl _, by simp [accN]⟩
  | succ n ih =>
    unfold accN
    split <;> omega
theorem accN_eq {day most : Int} (h1 : 0 ≤ day) (n : Nat) : accN day most n = if 0 ≤ most then min (day * n) most else day * n := by
  induction n with
  | zero => simp [accN]; intro h; omega
  | succ n ih =>
    have e : day * ((n + 1 : Nat) : Int) = day * n + day := by rw [Int.natCast_succ, Int.mul_add, Int.mul_one]
    have e0 : 0 ≤ day * (n : Int) := Int.mul_nonneg h1 (Int.natCast_nonneg n)
    rw [e]
    unfold accN
    rw [ih]
    generalize day * (n : Int) = z at e0
    split <;> omega
def eoF (l : List Ext) (k : ByteArray) (d : Nat) : Int × Bool := match l.find? (exF k) with | some x => (x.2.1 + accN x.2.2.1 x.2.2.2 d, true) | none => (0, false)
def EoRel (w : World) (l : List Ext) (k : ByteArray) (i : Value) (wr : World) : Prop :=
  ∃ n : Nat, n ≤ l.length ∧ i = .int .i64 n ∧ l.find? (exF k) = (l.drop n).find? (exF k) ∧ G w wr none
def AccRel (day most : Int) (d : Nat) (s10 s22 : Value) : Prop := ∃ j : Nat, j ≤ d ∧ s22 = .int .i64 j ∧ s10 = .int .i64 (accN day most j)
set_option maxRecDepth 100000 in
set_option maxHeartbeats 4000000 in
theorem extraOf_c (v : Value) (l : List Ext) (k : ByteArray) (d : Nat) (w : World) (hr : RdR w 4 exC v l) (h0 : exE l = 0) (hd : d ≤ 120) :
    Calls Tryd.prog 31 #[v, .string k, .int .i64 d] w fun e w' => e = .returned (.tuple #[.int .i64 (eoF l k d).1, .bool (eoF l k d).2]) ∧ G w w' none := by
  have HR := Lib.hid hr
  have HIN := Lib.hid (exErr_in (exE_zero h0).1)
  have hn := (exE_zero h0).2
  obtain ⟨a, cap, rfl, hcap, hm⟩ := RdR.form hr
  clear hr h0
  go_enter Tryd.func31, Tryd.ntmps31
  go_wp2_with fail
  go_loopw [13] (EoRel w l k) (fun i _ => l.length - (intOf i).toNat)
  case atStart => exact ⟨0, by omega, rfl, rfl, G.refl _ _⟩
  case round =>
    obtain ⟨n, hnl, rfl, heq, hG⟩ := hrel
    have HE := Lib.hid heq
    clear heq
    by_cases hlt : n < l.length
    · obtain ⟨p, hp⟩ : ∃ p, l[n]? = some p := ⟨_, List.getElem?_eq_getElem hlt⟩
      have HD : Hid (l.find? (exF k) = if exF k p = true then some p else (l.drop (n + 1)).find? (exF k)) := Lib.hid (by
        rw [HE.out, List.drop_eq_getElem_cons hlt, (List.getElem?_eq_some_iff.1 hp).2, List.find?_cons]
        split <;> simp_all)
      have hin := HIN.out p (List.mem_of_getElem? hp)
      obtain ⟨bb, bo, rfl, hbb, hrow⟩ := RdR.elem exC_sz HR.out hG hp
      have HW := Lib.hid hrow
      clear hrow hp
      have hef : exF k p = eqB p.1 k := rfl
      cases he : exF k p with
      | true =>
        have HF : Hid (eoF l k d = (p.2.1 + accN p.2.2.1 p.2.2.2 d, true)) := Lib.hid (by rw [eoF, HD.out, if_pos he])
        rw [he] at hef
        have heq := hef.symm
        unfold eqB at heq
        clear he hef
        obtain ⟨⟨a1, a2⟩, ⟨b1, b2⟩, c1, c2⟩ := hin
        go_wp2_with (refine wpList_load_at rfl 106 _ rfl ⟨bb, bo + n * 4, none⟩ rfl #[.string p.1, .int .i64 p.2.1, .int .i64 p.2.2.1, .int .i64 p.2.2.2] _ HW.out Tryd.underlying106 rfl (ex_info p) ?_)
        have hB5 := Bk.new wr 106 (exC p)
        have hc1 : (wr.alloc (.cells #[.string p.1, .int .i64 p.2.1, .int .i64 p.2.2.1, .int .i64 p.2.2.2] 106)).cell? ⟨wr.heap.size, 1, none⟩ = some (.int .i64 p.2.1) := hB5.cell 1
        have hc2 : (wr.alloc (.cells #[.string p.1, .int .i64 p.2.1, .int .i64 p.2.2.1, .int .i64 p.2.2.2] 106)).cell? ⟨wr.heap.size, 2, none⟩ = some (.int .i64 p.2.2.1) := hB5.cell 2
        have hc3 : (wr.alloc (.cells #[.string p.1, .int .i64 p.2.1, .int .i64 p.2.2.1, .int .i64 p.2.2.2] 106)).cell? ⟨wr.heap.size, 3, none⟩ = some (.int .i64 p.2.2.2) := hB5.cell 3
        have hG3 := hG.alloc (.cells #[.string p.1, .int .i64 p.2.1, .int .i64 p.2.2.1, .int .i64 p.2.2.2] 106)
        generalize wr.alloc (.cells #[.string p.1, .int .i64 p.2.1, .int .i64 p.2.2.1, .int .i64 p.2.2.2] 106) = w3 at hc1 hc2 hc3 hG3 ⊢
        clear hB5 hG HW
        go_loop [10, 22] (AccRel p.2.2.1 p.2.2.2 d) (fun _ i => d - (intOf i).toNat)
        case atStart => exact ⟨0, by omega, rfl, rfl⟩
        case round =>
          obtain ⟨j, hj, rfl, rfl⟩ := hrel
          obtain ⟨z1, z2⟩ := accN_in b1 b2 c1 j (most := p.2.2.2)
          by_cases hjd : j < d
          · by_cases hmo : 0 ≤ p.2.2.2
            · have HA : Hid (accN p.2.2.1 p.2.2.2 (j + 1) = min (accN p.2.2.1 p.2.2.2 j + p.2.2.1) p.2.2.2) := Lib.hid (by show (if _ then _ else _) = _; rw [if_pos hmo])
              go_wp2_with fail
              go_round
              case rel => exact ⟨j + 1, by omega, by go_num, by rw [HA.out]⟩
              case measure => simp [intOf]; omega
            · have HA : Hid (accN p.2.2.1 p.2.2.2 (j + 1) = accN p.2.2.1 p.2.2.2 j + p.2.2.1) := Lib.hid (by show (if _ then _ else _) = _; rw [if_neg hmo])
              have hmo' : p.2.2.2 < 0 := by omega
              clear hmo
              go_wp2_with fail
              go_round
              case rel => exact ⟨j + 1, by omega, by go_num, by rw [HA.out]⟩
              case measure => simp [intOf]; omega
          · obtain rfl : j = d := by omega
            go_wp2_with fail
            go_ret2
            exact ⟨by rw [HF.out]; rfl, hG3⟩
      | false =>
        have HF : Hid (l.find? (exF k) = (l.drop (n + 1)).find? (exF k)) := Lib.hid (by rw [HD.out, if_neg (by simp [he])])
        rw [he] at hef
        have heq := hef.symm
        unfold eqB at heq
        clear he hef
        go_wp2_with (refine wpList_load_at rfl 106 _ rfl ⟨bb, bo + n * 4, none⟩ rfl #[.string p.1, .int .i64 p.2.1, .int .i64 p.2.2.1, .int .i64 p.2.2.2] _ HW.out Tryd.underlying106 rfl (ex_info p) ?_)
        go_roundw
        case rel => exact ⟨n + 1, by omega, by go_num, HF.out, hG.alloc _⟩
        case measure => simp [intOf]; omega
    · obtain rfl : n = l.length := by omega
      have HF : Hid (eoF l k d = (0, false)) := Lib.hid (by rw [eoF, HE.out, List.drop_length]; rfl)
      go_wp2_with fail
      go_ret2
      exact ⟨by rw [HF.out]; rfl, hG⟩
/-- The two agree. -/
theorem eo_cost {l : List Ext} {k : ByteArray} {x : Ext} {d : Int} (h0 : exE l = 0) (hx : l.find? (exF k) = some x) (h1 : 1 ≤ d) : (eoF l k d.toNat).1 = costF x d := by
  obtain ⟨n, rfl⟩ := Int.eq_ofNat_of_zero_le (show 0 ≤ d by omega)
  obtain ⟨_, ⟨b1, _⟩, c1, _⟩ := exErr_in (exE_zero h0).1 x (List.mem_of_find?_eq_some hx)
  rw [eoF, hx, costF]
  show x.2.1 + accN x.2.2.1 x.2.2.2 n = _
  rw [accN_eq b1]
  congr 1
  by_cases h : x.2.2.2 = -1
  · rw [if_pos h, if_neg (by omega)]
  · rw [if_neg h, if_pos (by omega)]
end Go.Proofs.YtgofeigebldkiaaDoor
