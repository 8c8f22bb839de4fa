/- Rates: RateOn; the reference's RateAt. -/
import Derived.Test.YtgofeigebldkiaaDoorRae
namespace Go.Proofs.YtgofeigebldkiaaDoor
open Go.RowKit

theorem ra_oneB (r : Ra) : (raC r).all (·.oneCell') = true := by simp [raC, Value.oneCell']
def roE (l : List Ra) (k : ByteArray) (d : Int) : Int := if raE l = 0 then (if keyB k = false then 5 else if inB d 0 4000 = false then 1 else if (l.find? (raF k d)).isSome = true then 0 else 8) else raE l
def raG (o : Option Ra) : Ra := match o with | some x => x | none => raZ
def roN (l : List Ra) (k : ByteArray) (d : Int) : Ra := if roE l k d = 0 then raG (l.find? (raF k d)) else raZ
set_option maxRecDepth 100000 in
set_option maxHeartbeats 4000000 in
theorem rateOn_c (v : Value) (l : List Ra) (k : ByteArray) (d : Int) (w : World) (hr : RdR w 7 raC v l) (hl : RaOk l) (hn : l.length ≤ 1000) (hk : Small k) :
    Calls Tryd.prog 12 #[v, .string k, .int .i64 d] w fun e w' => e = .returned (.tuple #[.agg (raC (roN l k d)), .int .i64 (roE l k d)]) ∧ G w w' none := by
  have HR := Lib.hid hr
  unfold Small at hk
  have HRL : Hid (RdR (w.alloc (.cells (raC raZ) 37)) 7 raC v l) := Lib.hid (hr.quiet ((G.refl w none).alloc _))
  have hB0 := Bk.new w 37 (raC raZ)
  have hG0 : G w (w.alloc (.cells (raC raZ) 37)) none := (G.refl w none).alloc _
  clear hr
  by_cases h0 : raE l = 0
  · cases hkk : keyB k with
    | false =>
      have HE : Hid (roE l k d = 5) := Lib.hid (by simp [roE, h0, hkk])
      have HN : Hid (roN l k d = raZ) := Lib.hid (by rw [roN, if_neg (by rw [HE.out]; decide)])
      have HK := Lib.hid hkk
      clear hkk
      go_enter Tryd.func12, Tryd.ntmps12
      go_wp2_with fail
      refine (checkRates_c v l _ HRL.out hl hn).mono ?_; rintro e w1 ⟨rfl, hG1⟩
      have hB1 := hB0.quiet hG1
      have hG01 := hG0.trans hG1
      clear hB0 hG0 hG1
      rw [h0]
      go_wp2_with fail
      refine (isKey_c k _ hk).mono ?_; rintro e w' ⟨rfl, rfl⟩
      rw [HK.out]
      go_wp2_with (refine wpList_store_row rfl 37 _ _ rfl w.heap.size (raC raZ) rfl rfl 37 _ hB1 (ra_info raZ) rfl (ra_oneB raZ) ?_)
      refine bodyPost_ret (results_cell_two rfl _ _ w.heap.size 37 (raC raZ) (0, 0) _ rfl (hB1.setRow _) Tryd.underlying37 rfl (ra_info raZ)) rfl ?_
      exact ⟨by rw [HE.out, HN.out]; rfl, hG01.setRow (.inl (Nat.le_refl _)) _⟩
    | true =>
      have HK := Lib.hid hkk
      clear hkk
      cases hd : inB d 0 4000 with
      | false =>
        have HE : Hid (roE l k d = 1) := Lib.hid (by simp [roE, h0, HK.out, hd])
        have HN : Hid (roN l k d = raZ) := Lib.hid (by rw [roN, if_neg (by rw [HE.out]; decide)])
        have HD := Lib.hid hd
        clear hd
        go_enter Tryd.func12, Tryd.ntmps12
        go_wp2_with fail
        refine (checkRates_c v l _ HRL.out hl hn).mono ?_; rintro e w1 ⟨rfl, hG1⟩
        have hB1 := hB0.quiet hG1
        have hG01 := hG0.trans hG1
        clear hB0 hG0 hG1
        rw [h0]
        go_wp2_with fail
        refine (isKey_c k _ hk).mono ?_; rintro e w' ⟨rfl, rfl⟩
        rw [HK.out]
        go_wp2_with fail
        refine (within_c _ _ _ _).mono ?_; rintro e w' ⟨rfl, rfl⟩
        rw [HD.out]
        go_wp2_with (refine wpList_store_row rfl 37 _ _ rfl w.heap.size (raC raZ) rfl rfl 37 _ hB1 (ra_info raZ) rfl (ra_oneB raZ) ?_)
        refine bodyPost_ret (results_cell_two rfl _ _ w.heap.size 37 (raC raZ) (0, 0) _ rfl (hB1.setRow _) Tryd.underlying37 rfl (ra_info raZ)) rfl ?_
        exact ⟨by rw [HE.out, HN.out]; rfl, hG01.setRow (.inl (Nat.le_refl _)) _⟩
      | true =>
        have HD := Lib.hid hd
        clear hd
        rcases ixP_find (raF k d) l 0 with ⟨hi, hf⟩ | ⟨i, p, hi, hp, hf⟩
        · have HE : Hid (roE l k d = 8) := Lib.hid (by simp [roE, h0, HK.out, HD.out, hf])
          have HN : Hid (roN l k d = raZ) := Lib.hid (by rw [roN, if_neg (by rw [HE.out]; decide)])
          have HP : Hid (raPtr v (ixP (raF k d) l 0) = .pointer none) := Lib.hid (by rw [show ixP (raF k d) l 0 = -1 from hi]; unfold raPtr; split <;> simp_all)
          clear hi hf
          go_enter Tryd.func12, Tryd.ntmps12
          go_wp2_with fail
          refine (checkRates_c v l _ HRL.out hl hn).mono ?_; rintro e w1 ⟨rfl, hG1⟩
          have hB1 := hB0.quiet hG1
          have hG01 := hG0.trans hG1
          clear hB0 hG0 hG1
          rw [h0]
          go_wp2_with fail
          refine (isKey_c k _ hk).mono ?_; rintro e w' ⟨rfl, rfl⟩
          rw [HK.out]
          go_wp2_with fail
          refine (within_c _ _ _ _).mono ?_; rintro e w' ⟨rfl, rfl⟩
          rw [HD.out]
          go_wp2_with fail
          refine (seasonOn_c v l k d _ (HR.out.quiet hG01) hn).mono ?_; rintro e w' ⟨rfl, rfl⟩
          rw [HP.out]
          go_wp2_with (refine wpList_store_row rfl 37 _ _ rfl w.heap.size (raC raZ) rfl rfl 37 _ hB1 (ra_info raZ) rfl (ra_oneB raZ) ?_)
          refine bodyPost_ret (results_cell_two rfl _ _ w.heap.size 37 (raC raZ) (0, 0) _ rfl (hB1.setRow _) Tryd.underlying37 rfl (ra_info raZ)) rfl ?_
          exact ⟨by rw [HE.out, HN.out]; rfl, hG01.setRow (.inl (Nat.le_refl _)) _⟩
        · have HE : Hid (roE l k d = 0) := Lib.hid (by simp [roE, h0, HK.out, HD.out, hf])
          have HN : Hid (roN l k d = p) := Lib.hid (by rw [roN, if_pos HE.out, hf]; rfl)
          obtain ⟨ad, cap, rfl, hcap, hm⟩ := RdR.form HR.out
          obtain ⟨bb, bo, rfl, hbb, _⟩ := RdR.elem raC_sz HR.out (G.refl w none) hp
          have HP : Hid (raPtr (.slice (some ⟨bb, bo, none⟩) l.length cap) (ixP (raF k d) l 0) = .pointer (some ⟨bb, bo + i * 7, none⟩)) := Lib.hid (by rw [show ixP (raF k d) l 0 = ((0 + i : Nat) : Int) from hi, Nat.zero_add]; rfl)
          have HPP := Lib.hid hp
          clear hi hf hp
          go_enter Tryd.func12, Tryd.ntmps12
          go_wp2_with fail
          refine (checkRates_c _ l _ HRL.out hl hn).mono ?_; rintro e w1 ⟨rfl, hG1⟩
          have hB1 := hB0.quiet hG1
          have hG01 := hG0.trans hG1
          clear hB0 hG0 hG1
          have HW := Lib.hid (raRow HR.out hG01 HPP.out)
          rw [h0]
          go_wp2_with fail
          refine (isKey_c k _ hk).mono ?_; rintro e w' ⟨rfl, rfl⟩
          rw [HK.out]
          go_wp2_with fail
          refine (within_c _ _ _ _).mono ?_; rintro e w' ⟨rfl, rfl⟩
          rw [HD.out]
          go_wp2_with fail
          refine (seasonOn_c _ l k d _ (HR.out.quiet hG01) hn).mono ?_; rintro e w' ⟨rfl, rfl⟩
          rw [HP.out]
          go_wp2_with (first | (refine wpList_load_at rfl 37 _ rfl ⟨bb, bo + i * 7, none⟩ rfl #[.string p.1, .int .i64 p.2.1, .int .i64 p.2.2.1, .int .i64 p.2.2.2.1, .int .i64 p.2.2.2.2.1, .int .i64 p.2.2.2.2.2.1, .int .i64 p.2.2.2.2.2.2] _ HW.out Tryd.underlying37 rfl (ra_info p) ?_) | (refine wpList_store_row rfl 37 _ _ rfl w.heap.size (raC p) rfl rfl 37 _ hB1 (ra_info p) rfl (ra_oneB p) ?_))
          refine bodyPost_ret (results_cell_two rfl _ _ w.heap.size 37 (raC p) (0, 0) _ rfl (hB1.setRow _) Tryd.underlying37 rfl (ra_info p)) rfl ?_
          exact ⟨by rw [HE.out, HN.out]; rfl, hG01.setRow (.inl (Nat.le_refl _)) _⟩
  · have HE : Hid (roE l k d = raE l) := Lib.hid (by simp [roE, h0])
    have HN : Hid (roN l k d = raZ) := Lib.hid (by rw [roN, if_neg (by rw [HE.out]; exact h0)])
    have h1 : (raE l != 0) = true := by rw [bne_iff_ne]; exact h0
    clear h0
    go_enter Tryd.func12, Tryd.ntmps12
    go_wp2_with fail
    refine (checkRates_c v l _ HRL.out hl hn).mono ?_; rintro e w1 ⟨rfl, hG1⟩
    have hB1 := hB0.quiet hG1
    have hG01 := hG0.trans hG1
    clear hB0 hG0 hG1
    go_wp2_with (refine wpList_store_row rfl 37 _ _ rfl w.heap.size (raC raZ) rfl rfl 37 _ hB1 (ra_info raZ) rfl (ra_oneB raZ) ?_)
    refine bodyPost_ret (results_cell_two rfl _ _ w.heap.size 37 (raC raZ) (0, 0) _ rfl (hB1.setRow _) Tryd.underlying37 rfl (ra_info raZ)) rfl ?_
    exact ⟨by rw [HE.out, HN.out]; rfl, hG01.setRow (.inl (Nat.le_refl _)) _⟩
/-! ### The reference's RateAt -/
def RatRel (w : World) (l : List Ra) (k : ByteArray) (d : Int) (i : Value) (wr : World) : Prop :=
  ∃ n : Nat, n ≤ l.length ∧ i = .int .i64 n ∧ l.find? (raF k d) = (l.drop n).find? (raF k d) ∧ Bk wr w.heap.size 37 (raC raZ) ∧ G w wr none
set_option maxRecDepth 100000 in
set_option maxHeartbeats 4000000 in
theorem rateAt_c (v : Value) (l : List Ra) (k : ByteArray) (d : Int) (w : World) (hr : RdR w 7 raC v l) (hl : RaOk l) (hn : l.length ≤ 1000) :
    Calls Tryd.prog 20 #[v, .string k, .int .i64 d] w fun e w' => e = .returned (.tuple #[.agg (raC (raG (l.find? (raF k d)))), .bool (l.find? (raF k d)).isSome]) ∧ G w w' none := by
  have HR := Lib.hid hr
  obtain ⟨ad, cap, rfl, hcap, hm⟩ := RdR.form hr
  clear hr
  go_enter Tryd.func20, Tryd.ntmps20
  go_wp2_with fail
  go_loopw [12] (RatRel w l k d) (fun i _ => l.length - (intOf i).toNat)
  case atStart => exact ⟨0, by omega, rfl, rfl, Bk.new w _ _, (G.refl _ _).alloc _⟩
  case round =>
    obtain ⟨n, hnl, rfl, heq, hB, hG⟩ := hrel
    have HE := Lib.hid heq
    clear heq
    by_cases hlt : n < l.length
    · obtain ⟨p, hp⟩ : ∃ p, l[n]? = some p := ⟨_, List.getElem?_eq_getElem hlt⟩
      have HD : Hid (l.find? (raF k d) = if raF k d p = true then some p else (l.drop (n + 1)).find? (raF k d)) := Lib.hid (by
        rw [HE.out, List.drop_eq_getElem_cons hlt, (List.getElem?_eq_some_iff.1 hp).2, List.find?_cons]
        split <;> simp_all)
      obtain ⟨bb, bo, rfl, hbb, _⟩ := RdR.elem raC_sz HR.out hG hp
      have HW := Lib.hid (raRow HR.out hG hp)
      have hpb := hl p (List.mem_of_getElem? hp)
      have hp1 := hpb.2.1
      have hp2 := hpb.2.2.1
      unfold bnd at hp1 hp2
      have HEF : Hid (raF k d p = (eqB p.1 k && inB d p.2.1 (p.2.2.1 - 1))) := Lib.hid (by
        unfold raF inB
        rw [show decide (d < p.2.2.1) = decide (d ≤ p.2.2.1 - 1) by rw [Bool.eq_iff_iff]; simp; omega])
      have hw : IntKind.i64.wrap (p.2.2.1 - 1) = p.2.2.1 - 1 := by rw [IntKind.wrap_i64]; omega
      have hBn := Bk.new wr 37 (raC p)
      have hB1 := hB.alloc (.cells (raC p) 37)
      have hG1 := hG.alloc (.cells (raC p) 37)
      clear hp hpb hB hG
      cases h1 : eqB p.1 k with
      | false =>
        have HF : Hid (l.find? (raF k d) = (l.drop (n + 1)).find? (raF k d)) := Lib.hid (by rw [HD.out, if_neg (by simp [HEF.out, h1])])
        unfold eqB at h1
        clear HD HEF
        go_wp2_with (refine wpList_load_at rfl 37 _ rfl ⟨bb, bo + n * 7, none⟩ rfl #[.string p.1, .int .i64 p.2.1, .int .i64 p.2.2.1, .int .i64 p.2.2.2.1, .int .i64 p.2.2.2.2.1, .int .i64 p.2.2.2.2.2.1, .int .i64 p.2.2.2.2.2.2] _ HW.out Tryd.underlying37 rfl (ra_info p) ?_)
        go_roundw
        case rel => exact ⟨n + 1, by omega, by go_num, HF.out, hB1, hG1⟩
        case measure => simp [intOf]; omega
      | true =>
        have H1 := Lib.hid h1
        unfold eqB at h1
        cases h2 : inB d p.2.1 (p.2.2.1 - 1) with
        | false =>
          have HF : Hid (l.find? (raF k d) = (l.drop (n + 1)).find? (raF k d)) := Lib.hid (by rw [HD.out, if_neg (by simp [HEF.out, h2])])
          clear HD HEF
          go_wp2_with (refine wpList_load_at rfl 37 _ rfl ⟨bb, bo + n * 7, none⟩ rfl #[.string p.1, .int .i64 p.2.1, .int .i64 p.2.2.1, .int .i64 p.2.2.2.1, .int .i64 p.2.2.2.2.1, .int .i64 p.2.2.2.2.2.1, .int .i64 p.2.2.2.2.2.2] _ HW.out Tryd.underlying37 rfl (ra_info p) ?_)
          refine (in_c _ _ _ _).mono ?_; rintro e w' ⟨rfl, rfl⟩
          rw [h2]
          go_wp2_with fail
          go_roundw
          case rel => exact ⟨n + 1, by omega, by go_num, HF.out, hB1, hG1⟩
          case measure => simp [intOf]; omega
        | true =>
          have HF : Hid (l.find? (raF k d) = some p) := Lib.hid (by rw [HD.out, if_pos (by rw [HEF.out, H1.out, h2]; rfl)])
          clear HD HEF
          go_wp2_with (refine wpList_load_at rfl 37 _ rfl ⟨bb, bo + n * 7, none⟩ rfl #[.string p.1, .int .i64 p.2.1, .int .i64 p.2.2.1, .int .i64 p.2.2.2.1, .int .i64 p.2.2.2.2.1, .int .i64 p.2.2.2.2.2.1, .int .i64 p.2.2.2.2.2.2] _ HW.out Tryd.underlying37 rfl (ra_info p) ?_)
          refine (in_c _ _ _ _).mono ?_; rintro e w' ⟨rfl, rfl⟩
          rw [h2]
          go_wp2_with (first | (refine wpList_load_row rfl 37 _ rfl wr.heap.size rfl 37 (raC p) (0, 0) _ hBn Tryd.underlying37 rfl (ra_info p) ?_) | (refine wpList_store_row rfl 37 _ _ rfl w.heap.size (raC p) rfl rfl 37 _ hB1 (ra_info p) rfl (ra_oneB p) ?_))
          refine bodyPost_ret (results_cell_two rfl _ _ w.heap.size 37 (raC p) (0, 0) _ rfl (hB1.setRow _) Tryd.underlying37 rfl (ra_info p)) rfl ?_
          exact ⟨by rw [HF.out]; rfl, hG1.setRow (.inl (Nat.le_refl _)) _⟩
    · obtain rfl : n = l.length := by omega
      have HF : Hid (l.find? (raF k d) = none) := Lib.hid (by rw [HE.out, List.drop_length]; rfl)
      go_wp2_with (refine wpList_store_row rfl 37 _ _ rfl w.heap.size (raC raZ) rfl rfl 37 _ hB (ra_info raZ) rfl (ra_oneB raZ) ?_)
      refine bodyPost_ret (results_cell_two rfl _ _ w.heap.size 37 (raC raZ) (0, 0) _ rfl (hB.setRow _) Tryd.underlying37 rfl (ra_info raZ)) rfl ?_
      exact ⟨by rw [HF.out]; rfl, hG.setRow (.inl (Nat.le_refl _)) _⟩
end Go.Proofs.YtgofeigebldkiaaDoor
