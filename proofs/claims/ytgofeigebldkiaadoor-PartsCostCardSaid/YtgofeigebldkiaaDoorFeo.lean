/- Fees: FeeOf, its reference; keyFault. -/
import Derived.Test.YtgofeigebldkiaaDoorFeb
namespace Go.Proofs.YtgofeigebldkiaaDoor
open Go.RowKit

def keyE (s : ByteArray) : Int := if keyB s = true then 0 else 5
set_option maxRecDepth 100000 in
theorem keyFault_c (s : ByteArray) (w : World) (hs : Small s) : Calls Tryd.prog 18 #[.string s] w fun e w' => e = .returned (.int .i64 (keyE s)) ∧ G w w' none := by
  unfold Small at hs
  cases hk : keyB s with
  | true =>
    have HE : Hid (keyE s = 0) := Lib.hid (by rw [keyE, if_pos hk])
    have HK := Lib.hid hk
    clear hk
    go_enter Tryd.func18, Tryd.ntmps18
    go_wp2_with fail
    refine (rkey_c s _ hs).mono ?_; rintro e w1 ⟨rfl, hG1⟩
    rw [HK.out]
    go_wp2_with fail
    refine (when_c _ _ _).mono ?_; rintro e w' ⟨rfl, rfl⟩
    simp only [Bool.not_true, Bool.false_eq_true, if_false]
    go_wp2_with fail
    go_ret
    exact ⟨by rw [HE.out]; rfl, hG1⟩
  | false =>
    have HE : Hid (keyE s = 5) := Lib.hid (by rw [keyE, if_neg (by simp [hk])])
    have HK := Lib.hid hk
    clear hk
    go_enter Tryd.func18, Tryd.ntmps18
    go_wp2_with fail
    refine (rkey_c s _ hs).mono ?_; rintro e w1 ⟨rfl, hG1⟩
    rw [HK.out]
    go_wp2_with fail
    refine (when_c _ _ _).mono ?_; rintro e w' ⟨rfl, rfl⟩
    simp only [Bool.not_false, if_true]
    go_wp2_with fail
    go_ret
    exact ⟨by rw [HE.out]; rfl, hG1⟩
def foE (l : List Fe) (a b : ByteArray) : Int :=
  if feE l = 0 then (if keyB a = false then 5 else if keyB b = false then 5 else if eqB a b = true then 0 else if (l.find? (feF a b)).isSome = true then 0 else 8) else feE l
def foN (l : List Fe) (a b : ByteArray) : Int := if foE l a b = 0 then (match l.find? (feF a b) with | some x => x.2.2 | none => 0) else 0
theorem feE_zero {l : List Fe} (h : feE l = 0) : feErr none l = 0 ∧ l.length ≤ 500 := by
  unfold feE at h
  split at h
  · omega
  · exact ⟨h, by omega⟩
/-- No fee from a station to itself. -/
theorem fe_loop {l : List Fe} {a b : ByteArray} (h0 : feE l = 0) (h : eqB a b = true) : l.find? (feF a b) = none := by
  refine List.find?_eq_none.2 fun x hx hxf => ?_
  unfold feF at hxf
  rw [Bool.and_eq_true, eqB_iff, eqB_iff] at hxf
  exact ((fe_rise (feE_zero h0).1).2.2 x hx).2 (by rw [hxf.1, hxf.2]; exact eqB_iff.1 h)
set_option maxRecDepth 100000 in
set_option maxHeartbeats 4000000 in
theorem feeOf_c (v : Value) (l : List Fe) (a b : ByteArray) (w : World) (hr : RdR w 3 feC v l) (hl : FeOk l) (hn : l.length ≤ 1000) (ha : Small a) (hb : Small b) :
    Calls Tryd.prog 26 #[v, .string a, .string b] w fun e w' => e = .returned (.tuple #[.int .i64 (foN l a b), .int .i64 (foE l a b)]) ∧ G w w' none := by
  have HR := Lib.hid hr
  clear hr
  unfold Small at ha hb
  by_cases h0 : feE l = 0
  · cases hka : keyB a with
    | false =>
      have HE : Hid (foE l a b = 5) := Lib.hid (by simp [foE, h0, hka])
      have HN : Hid (foN l a b = 0) := Lib.hid (by rw [foN, if_neg (by rw [HE.out]; decide)])
      have HK := Lib.hid hka
      clear hka
      go_enter Tryd.func26, Tryd.ntmps26
      go_wp2_with fail
      refine (checkFees_c v l _ HR.out hl hn).mono ?_; rintro e w1 ⟨rfl, hG1⟩
      rw [h0]
      go_wp2_with fail
      refine (isKey_c a _ ha).mono ?_; rintro e w' ⟨rfl, rfl⟩
      rw [HK.out]
      go_wp2_with fail
      go_ret2
      exact ⟨by rw [HE.out, HN.out]; rfl, hG1⟩
    | true =>
      have HK := Lib.hid hka
      clear hka
      cases hkb : keyB b with
      | false =>
        have HE : Hid (foE l a b = 5) := Lib.hid (by simp [foE, h0, HK.out, hkb])
        have HN : Hid (foN l a b = 0) := Lib.hid (by rw [foN, if_neg (by rw [HE.out]; decide)])
        have HK2 := Lib.hid hkb
        clear hkb
        go_enter Tryd.func26, Tryd.ntmps26
        go_wp2_with fail
        refine (checkFees_c v l _ HR.out hl hn).mono ?_; rintro e w1 ⟨rfl, hG1⟩
        rw [h0]
        go_wp2_with fail
        refine (isKey_c a _ ha).mono ?_; rintro e w' ⟨rfl, rfl⟩
        rw [HK.out]
        go_wp2_with fail
        refine (isKey_c b _ hb).mono ?_; rintro e w' ⟨rfl, rfl⟩
        rw [HK2.out]
        go_wp2_with fail
        go_ret2
        exact ⟨by rw [HE.out, HN.out]; rfl, hG1⟩
      | true =>
        have HK2 := Lib.hid hkb
        clear hkb
        cases hq : eqB a b with
        | true =>
          have HE : Hid (foE l a b = 0) := Lib.hid (by simp [foE, h0, HK.out, HK2.out, hq])
          have HN : Hid (foN l a b = 0) := Lib.hid (by rw [foN, if_pos HE.out, fe_loop h0 hq])
          unfold eqB at hq
          go_enter Tryd.func26, Tryd.ntmps26
          go_wp2_with fail
          refine (checkFees_c v l _ HR.out hl hn).mono ?_; rintro e w1 ⟨rfl, hG1⟩
          rw [h0]
          go_wp2_with fail
          refine (isKey_c a _ ha).mono ?_; rintro e w' ⟨rfl, rfl⟩
          rw [HK.out]
          go_wp2_with fail
          refine (isKey_c b _ hb).mono ?_; rintro e w' ⟨rfl, rfl⟩
          rw [HK2.out]
          go_wp2_with fail
          go_ret2
          exact ⟨by rw [HE.out, HN.out]; rfl, hG1⟩
        | false =>
          have HQ := Lib.hid hq
          unfold eqB at hq
          have hri := (fe_rise (feE_zero h0).1).1
          cases hf : l.find? (feF a b) with
          | none =>
            have HE : Hid (foE l a b = 8) := Lib.hid (by simp [foE, h0, HK.out, HK2.out, HQ.out, hf])
            have HN : Hid (foN l a b = 0) := Lib.hid (by rw [foN, if_neg (by rw [HE.out]; decide)])
            go_enter Tryd.func26, Tryd.ntmps26
            go_wp2_with fail
            refine (checkFees_c v l _ HR.out hl hn).mono ?_; rintro e w1 ⟨rfl, hG1⟩
            rw [h0]
            go_wp2_with fail
            refine (isKey_c a _ ha).mono ?_; rintro e w' ⟨rfl, rfl⟩
            rw [HK.out]
            go_wp2_with fail
            refine (isKey_c b _ hb).mono ?_; rintro e w' ⟨rfl, rfl⟩
            rw [HK2.out]
            go_wp2_with fail
            refine (bsFe_c v l a b _ (HR.out.quiet hG1) (by omega) hri).mono ?_; rintro e w2 ⟨i, rfl, _, hG2⟩
            rw [hf]
            go_wp2_with fail
            go_ret2
            exact ⟨by rw [HE.out, HN.out]; rfl, hG1.trans hG2⟩
          | some q =>
            have HE : Hid (foE l a b = 0) := Lib.hid (by simp [foE, h0, HK.out, HK2.out, HQ.out, hf])
            have HN : Hid (foN l a b = q.2.2) := Lib.hid (by rw [foN, if_pos HE.out, hf])
            obtain ⟨ad, cap, rfl, hcap, hm⟩ := RdR.form HR.out
            go_enter Tryd.func26, Tryd.ntmps26
            go_wp2_with fail
            refine (checkFees_c _ l _ HR.out hl hn).mono ?_; rintro e w1 ⟨rfl, hG1⟩
            rw [h0]
            go_wp2_with fail
            refine (isKey_c a _ ha).mono ?_; rintro e w' ⟨rfl, rfl⟩
            rw [HK.out]
            go_wp2_with fail
            refine (isKey_c b _ hb).mono ?_; rintro e w' ⟨rfl, rfl⟩
            rw [HK2.out]
            go_wp2_with fail
            refine (bsFe_c _ l a b _ (HR.out.quiet hG1) (by omega) hri).mono ?_; rintro e w2 ⟨i, rfl, hfi, hG2⟩
            have hp := hfi q hf
            have hil := (List.getElem?_eq_some_iff.1 hp).1
            have hG02 := hG1.trans hG2
            obtain ⟨bb, bo, rfl, hbb, _⟩ := RdR.elem feC_sz HR.out hG02 hp
            have d2 := RdR.cell feC_sz HR.out hG02 hp 2 (.int .i64 q.2.2) rfl
            rw [hf]
            clear hp hfi hf
            go_wp2_with fail
            go_ret2
            exact ⟨by rw [HE.out, HN.out]; rfl, hG02⟩
  · have HE : Hid (foE l a b = feE l) := Lib.hid (by simp [foE, h0])
    have HN : Hid (foN l a b = 0) := Lib.hid (by rw [foN, if_neg (by rw [HE.out]; exact h0)])
    have h1 : (feE l != 0) = true := by rw [bne_iff_ne]; exact h0
    clear h0
    go_enter Tryd.func26, Tryd.ntmps26
    go_wp2_with fail
    refine (checkFees_c v l _ HR.out hl hn).mono ?_; rintro e w1 ⟨rfl, hG1⟩
    go_wp2_with fail
    go_ret2
    exact ⟨by rw [HE.out, HN.out]; rfl, hG1⟩
/-! ### The reference's FeeFrom -/
def ffF (l : List Fe) (a b : ByteArray) : Int × Bool := match l.find? (feF a b) with | some x => (x.2.2, true) | none => (0, eqB a b)
def FfRel (w : World) (l : List Fe) (a b : ByteArray) (i : Value) (wr : World) : Prop :=
  ∃ n : Nat, n ≤ l.length ∧ i = .int .i64 n ∧ l.find? (feF a b) = (l.drop n).find? (feF a b) ∧ G w wr none
set_option maxRecDepth 100000 in
set_option maxHeartbeats 4000000 in
theorem feeFrom_c (v : Value) (l : List Fe) (a b : ByteArray) (w : World) (hr : RdR w 3 feC v l) (hn : l.length ≤ 1000) :
    Calls Tryd.prog 32 #[v, .string a, .string b] w fun e w' => e = .returned (.tuple #[.int .i64 (ffF l a b).1, .bool (ffF l a b).2]) ∧ G w w' none := by
  have HR := Lib.hid hr
  obtain ⟨ad, cap, rfl, hcap, hm⟩ := RdR.form hr
  clear hr
  go_enter Tryd.func32, Tryd.ntmps32
  go_wp2_with fail
  go_loopw [12] (FfRel w l a b) (fun i _ => l.length - (intOf i).toNat)
  case atStart => exact ⟨0, by omega, rfl, rfl, G.refl _ _⟩
  case round =>
    obtain ⟨n, hnl, rfl, heq, hG⟩ := hrel
    have HE := Lib.hid heq
    clear heq
    by_cases hlt : n < l.length
    · obtain ⟨p, hp⟩ : ∃ p, l[n]? = some p := ⟨_, List.getElem?_eq_getElem hlt⟩
      have HD : Hid (l.find? (feF a b) = if feF a b p = true then some p else (l.drop (n + 1)).find? (feF a b)) := Lib.hid (by
        rw [HE.out, List.drop_eq_getElem_cons hlt, (List.getElem?_eq_some_iff.1 hp).2, List.find?_cons]
        split <;> simp_all)
      obtain ⟨bb, bo, rfl, hbb, hrow⟩ := RdR.elem feC_sz HR.out hG hp
      have HW := Lib.hid hrow
      clear hrow hp
      have hef : feF a b p = (eqB p.1 a && eqB p.2.1 b) := rfl
      have HEF := Lib.hid hef
      clear hef
      cases h1 : eqB p.1 a with
      | false =>
        have HF : Hid (l.find? (feF a b) = (l.drop (n + 1)).find? (feF a b)) := Lib.hid (by rw [HD.out, if_neg (by simp [HEF.out, h1])])
        unfold eqB at h1
        go_wp2_with (refine wpList_load_at rfl 110 _ rfl ⟨bb, bo + n * 3, none⟩ rfl #[.string p.1, .string p.2.1, .int .i64 p.2.2] _ HW.out Tryd.underlying110 rfl (fe_info p) ?_)
        go_roundw
        case rel => exact ⟨n + 1, by omega, by go_num, HF.out, hG.alloc _⟩
        case measure => simp [intOf]; omega
      | true =>
        have H1 := Lib.hid h1
        unfold eqB at h1
        cases h2 : eqB p.2.1 b with
        | false =>
          have HF : Hid (l.find? (feF a b) = (l.drop (n + 1)).find? (feF a b)) := Lib.hid (by rw [HD.out, if_neg (by simp [HEF.out, h2])])
          unfold eqB at h2
          go_wp2_with (refine wpList_load_at rfl 110 _ rfl ⟨bb, bo + n * 3, none⟩ rfl #[.string p.1, .string p.2.1, .int .i64 p.2.2] _ HW.out Tryd.underlying110 rfl (fe_info p) ?_)
          go_roundw
          case rel => exact ⟨n + 1, by omega, by go_num, HF.out, hG.alloc _⟩
          case measure => simp [intOf]; omega
        | true =>
          have HF : Hid (ffF l a b = (p.2.2, true)) := Lib.hid (by rw [ffF, HD.out, if_pos (by simp [HEF.out, H1.out, h2])])
          unfold eqB at h2
          go_wp2_with (refine wpList_load_at rfl 110 _ rfl ⟨bb, bo + n * 3, none⟩ rfl #[.string p.1, .string p.2.1, .int .i64 p.2.2] _ HW.out Tryd.underlying110 rfl (fe_info p) ?_)
          go_ret2
          exact ⟨by rw [HF.out]; rfl, hG.alloc _⟩
    · obtain rfl : n = l.length := by omega
      have HF : Hid (ffF l a b = (0, eqB a b)) := Lib.hid (by rw [ffF, HE.out, List.drop_length]; rfl)
      cases hq : eqB a b with
      | true =>
        rw [hq] at HF
        unfold eqB at hq
        go_wp2_with fail
        go_ret2
        exact ⟨by rw [HF.out]; rfl, hG⟩
      | false =>
        rw [hq] at HF
        unfold eqB at hq
        go_wp2_with fail
        go_ret2
        exact ⟨by rw [HF.out]; rfl, hG⟩
end Go.Proofs.YtgofeigebldkiaaDoor
