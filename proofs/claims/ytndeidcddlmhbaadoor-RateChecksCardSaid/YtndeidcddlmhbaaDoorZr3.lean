/- Rao, Raf, Tim. -/
import Derived.Test.YtndeidcddlmhbaaDoorZr2
import Derived.Test.YtndeidcddlmhbaaDoorZr1
/- Rates: RateOn; the reference's RateAt. -/
namespace Go.Proofs.YtndeidcddlmhbaaDoor
open Go.RowKit

theorem ra_oneB (r : Ra) : (raC r).all (·.oneCell') = true := by simp [raC, Value.oneCell']
def roE (l : List Ra) (k : ByteArray) (d : Int) : Int := if raE l = 0 then (if keyB k = false then 5 else if inB d 0 4000 = false then 1 else if (l.find? (raF k d)).isSome = true then 0 else 8) else raE l
def raG (o : Option Ra) : Ra := match o with | some x => x | none => raZ
def roN (l : List Ra) (k : ByteArray) (d : Int) : Ra := if roE l k d = 0 then raG (l.find? (raF k d)) else raZ
set_option maxRecDepth 100000 in
set_option maxHeartbeats 4000000 in
theorem rateOn_c (v : Value) (l : List Ra) (k : ByteArray) (d : Int) (w : World) (hr : RdR w 7 raC v l) (hl : RaOk l) (hn : l.length ≤ 1000) (hk : Small k) :
    Calls Tryd.prog 45 #[v, .string k, .int .i64 d] w fun e w' => e = .returned (.tuple #[.agg (raC (roN l k d)), .int .i64 (roE l k d)]) ∧ G w w' none := by
  have HR := Lib.hid hr
  unfold Small at hk
  have HRL : Hid (RdR (w.alloc (.cells (raC raZ) 79)) 7 raC v l) := Lib.hid (hr.quiet ((G.refl w none).alloc _))
  have hB0 := Bk.new w 79 (raC raZ)
  have hG0 : G w (w.alloc (.cells (raC raZ) 79)) none := (G.refl w none).alloc _
  clear hr
  by_cases h0 : raE l = 0
  · cases hkk : keyB k with
    | false =>
      have HE : Hid (roE l k d = 5) := Lib.hid (by simp [roE, h0, hkk])
      have HN : Hid (roN l k d = raZ) := Lib.hid (by rw [roN, if_neg (by rw [HE.out]; decide)])
      have HK := Lib.hid hkk
      clear hkk
      go_enter Tryd.func45, Tryd.ntmps45
      go_wp2_with fail
      refine (checkRates_c v l _ HRL.out hl hn).mono ?_; rintro e w1 ⟨rfl, hG1⟩
      have hB1 := hB0.quiet hG1
      have hG01 := hG0.trans hG1
      clear hB0 hG0 hG1
      rw [h0]
      go_wp2_with fail
      refine (isKey_c k _ hk).mono ?_; rintro e w' ⟨rfl, rfl⟩
      rw [HK.out]
      go_wp2_with (refine wpList_store_row rfl 79 _ _ rfl w.heap.size (raC raZ) rfl rfl 79 _ hB1 (ra_info raZ) rfl (ra_oneB raZ) ?_)
      refine bodyPost_ret (results_cell_two rfl _ _ w.heap.size 79 (raC raZ) (0, 0) _ rfl (hB1.setRow _) Tryd.underlying79 rfl (ra_info raZ)) rfl ?_
      exact ⟨by rw [HE.out, HN.out]; rfl, hG01.setRow (.inl (Nat.le_refl _)) _⟩
    | true =>
      have HK := Lib.hid hkk
      clear hkk
      cases hd : inB d 0 4000 with
      | false =>
        have HE : Hid (roE l k d = 1) := Lib.hid (by simp [roE, h0, HK.out, hd])
        have HN : Hid (roN l k d = raZ) := Lib.hid (by rw [roN, if_neg (by rw [HE.out]; decide)])
        have HD := Lib.hid hd
        clear hd
        go_enter Tryd.func45, Tryd.ntmps45
        go_wp2_with fail
        refine (checkRates_c v l _ HRL.out hl hn).mono ?_; rintro e w1 ⟨rfl, hG1⟩
        have hB1 := hB0.quiet hG1
        have hG01 := hG0.trans hG1
        clear hB0 hG0 hG1
        rw [h0]
        go_wp2_with fail
        refine (isKey_c k _ hk).mono ?_; rintro e w' ⟨rfl, rfl⟩
        rw [HK.out]
        go_wp2_with fail
        refine (within_c _ _ _ _).mono ?_; rintro e w' ⟨rfl, rfl⟩
        rw [HD.out]
        go_wp2_with (refine wpList_store_row rfl 79 _ _ rfl w.heap.size (raC raZ) rfl rfl 79 _ hB1 (ra_info raZ) rfl (ra_oneB raZ) ?_)
        refine bodyPost_ret (results_cell_two rfl _ _ w.heap.size 79 (raC raZ) (0, 0) _ rfl (hB1.setRow _) Tryd.underlying79 rfl (ra_info raZ)) rfl ?_
        exact ⟨by rw [HE.out, HN.out]; rfl, hG01.setRow (.inl (Nat.le_refl _)) _⟩
      | true =>
        have HD := Lib.hid hd
        clear hd
        rcases ixP_find (raF k d) l 0 with ⟨hi, hf⟩ | ⟨i, p, hi, hp, hf⟩
        · have HE : Hid (roE l k d = 8) := Lib.hid (by simp [roE, h0, HK.out, HD.out, hf])
          have HN : Hid (roN l k d = raZ) := Lib.hid (by rw [roN, if_neg (by rw [HE.out]; decide)])
          have HP : Hid (raPtr v (ixP (raF k d) l 0) = .pointer none) := Lib.hid (by rw [show ixP (raF k d) l 0 = -1 from hi]; unfold raPtr; split <;> simp_all)
          clear hi hf
          go_enter Tryd.func45, Tryd.ntmps45
          go_wp2_with fail
          refine (checkRates_c v l _ HRL.out hl hn).mono ?_; rintro e w1 ⟨rfl, hG1⟩
          have hB1 := hB0.quiet hG1
          have hG01 := hG0.trans hG1
          clear hB0 hG0 hG1
          rw [h0]
          go_wp2_with fail
          refine (isKey_c k _ hk).mono ?_; rintro e w' ⟨rfl, rfl⟩
          rw [HK.out]
          go_wp2_with fail
          refine (within_c _ _ _ _).mono ?_; rintro e w' ⟨rfl, rfl⟩
          rw [HD.out]
          go_wp2_with fail
          refine (seasonOn_c v l k d _ (HR.out.quiet hG01) hn).mono ?_; rintro e w' ⟨rfl, rfl⟩
          rw [HP.out]
          go_wp2_with (refine wpList_store_row rfl 79 _ _ rfl w.heap.size (raC raZ) rfl rfl 79 _ hB1 (ra_info raZ) rfl (ra_oneB raZ) ?_)
          refine bodyPost_ret (results_cell_two rfl _ _ w.heap.size 79 (raC raZ) (0, 0) _ rfl (hB1.setRow _) Tryd.underlying79 rfl (ra_info raZ)) rfl ?_
          exact ⟨by rw [HE.out, HN.out]; rfl, hG01.setRow (.inl (Nat.le_refl _)) _⟩
        · have HE : Hid (roE l k d = 0) := Lib.hid (by simp [roE, h0, HK.out, HD.out, hf])
          have HN : Hid (roN l k d = p) := Lib.hid (by rw [roN, if_pos HE.out, hf]; rfl)
          obtain ⟨ad, cap, rfl, hcap, hm⟩ := RdR.form HR.out
          obtain ⟨bb, bo, rfl, hbb, _⟩ := RdR.elem raC_sz HR.out (G.refl w none) hp
          have HP : Hid (raPtr (.slice (some ⟨bb, bo, none⟩) l.length cap) (ixP (raF k d) l 0) = .pointer (some ⟨bb, bo + i * 7, none⟩)) := Lib.hid (by rw [show ixP (raF k d) l 0 = ((0 + i : Nat) : Int) from hi, Nat.zero_add]; rfl)
          have HPP := Lib.hid hp
          clear hi hf hp
          go_enter Tryd.func45, Tryd.ntmps45
          go_wp2_with fail
          refine (checkRates_c _ l _ HRL.out hl hn).mono ?_; rintro e w1 ⟨rfl, hG1⟩
          have hB1 := hB0.quiet hG1
          have hG01 := hG0.trans hG1
          clear hB0 hG0 hG1
          have HW := Lib.hid (raRow HR.out hG01 HPP.out)
          rw [h0]
          go_wp2_with fail
          refine (isKey_c k _ hk).mono ?_; rintro e w' ⟨rfl, rfl⟩
          rw [HK.out]
          go_wp2_with fail
          refine (within_c _ _ _ _).mono ?_; rintro e w' ⟨rfl, rfl⟩
          rw [HD.out]
          go_wp2_with fail
          refine (seasonOn_c _ l k d _ (HR.out.quiet hG01) hn).mono ?_; rintro e w' ⟨rfl, rfl⟩
          rw [HP.out]
          go_wp2_with (first | (refine wpList_load_at rfl 79 _ rfl ⟨bb, bo + i * 7, none⟩ rfl #[.string p.1, .int .i64 p.2.1, .int .i64 p.2.2.1, .int .i64 p.2.2.2.1, .int .i64 p.2.2.2.2.1, .int .i64 p.2.2.2.2.2.1, .int .i64 p.2.2.2.2.2.2] _ HW.out Tryd.underlying79 rfl (ra_info p) ?_) | (refine wpList_store_row rfl 79 _ _ rfl w.heap.size (raC p) rfl rfl 79 _ hB1 (ra_info p) rfl (ra_oneB p) ?_))
          refine bodyPost_ret (results_cell_two rfl _ _ w.heap.size 79 (raC p) (0, 0) _ rfl (hB1.setRow _) Tryd.underlying79 rfl (ra_info p)) rfl ?_
          exact ⟨by rw [HE.out, HN.out]; rfl, hG01.setRow (.inl (Nat.le_refl _)) _⟩
  · have HE : Hid (roE l k d = raE l) := Lib.hid (by simp [roE, h0])
    have HN : Hid (roN l k d = raZ) := Lib.hid (by rw [roN, if_neg (by rw [HE.out]; exact h0)])
    have h1 : (raE l != 0) = true := by rw [bne_iff_ne]; exact h0
    clear h0
    go_enter Tryd.func45, Tryd.ntmps45
    go_wp2_with fail
    refine (checkRates_c v l _ HRL.out hl hn).mono ?_; rintro e w1 ⟨rfl, hG1⟩
    have hB1 := hB0.quiet hG1
    have hG01 := hG0.trans hG1
    clear hB0 hG0 hG1
    go_wp2_with (refine wpList_store_row rfl 79 _ _ rfl w.heap.size (raC raZ) rfl rfl 79 _ hB1 (ra_info raZ) rfl (ra_oneB raZ) ?_)
    refine bodyPost_ret (results_cell_two rfl _ _ w.heap.size 79 (raC raZ) (0, 0) _ rfl (hB1.setRow _) Tryd.underlying79 rfl (ra_info raZ)) rfl ?_
    exact ⟨by rw [HE.out, HN.out]; rfl, hG01.setRow (.inl (Nat.le_refl _)) _⟩
/-! ### The reference's RateAt -/
def RatRel (w : World) (l : List Ra) (k : ByteArray) (d : Int) (i : Value) (wr : World) : Prop :=
  ∃ n : Nat, n ≤ l.length ∧ i = .int .i64 n ∧ l.find? (raF k d) = (l.drop n).find? (raF k d) ∧ Bk wr w.heap.size 79 (raC raZ) ∧ G w wr none
set_option maxRecDepth 100000 in
set_option maxHeartbeats 4000000 in
theorem rateAt_c (v : Value) (l : List Ra) (k : ByteArray) (d : Int) (w : World) (hr : RdR w 7 raC v l) (hl : RaOk l) (hn : l.length ≤ 1000) :
    Calls Tryd.prog 49 #[v, .string k, .int .i64 d] w fun e w' => e = .returned (.tuple #[.agg (raC (raG (l.find? (raF k d)))), .bool (l.find? (raF k d)).isSome]) ∧ G w w' none := by
  have HR := Lib.hid hr
  obtain ⟨ad, cap, rfl, hcap, hm⟩ := RdR.form hr
  clear hr
  go_enter Tryd.func49, Tryd.ntmps49
  go_wp2_with fail
  go_loopw [12] (RatRel w l k d) (fun i _ => l.length - (intOf i).toNat)
  case atStart => exact ⟨0, by omega, rfl, rfl, Bk.new w _ _, (G.refl _ _).alloc _⟩
  case round =>
    obtain ⟨n, hnl, rfl, heq, hB, hG⟩ := hrel
    have HE := Lib.hid heq
    clear heq
    by_cases hlt : n < l.length
    · obtain ⟨p, hp⟩ : ∃ p, l[n]? = some p := ⟨_, List.getElem?_eq_getElem hlt⟩
      have HD : Hid (l.find? (raF k d) = if raF k d p = true then some p else (l.drop (n + 1)).find? (raF k d)) := Lib.hid (by
        rw [HE.out, List.drop_eq_getElem_cons hlt, (List.getElem?_eq_some_iff.1 hp).2, List.find?_cons]
        split <;> simp_all)
      obtain ⟨bb, bo, rfl, hbb, _⟩ := RdR.elem raC_sz HR.out hG hp
      have HW := Lib.hid (raRow HR.out hG hp)
      have hpb := hl p (List.mem_of_getElem? hp)
      have hp1 := hpb.2.1
      have hp2 := hpb.2.2.1
      unfold bnd at hp1 hp2
      have HEF : Hid (raF k d p = (eqB p.1 k && inB d p.2.1 (p.2.2.1 - 1))) := Lib.hid (by
        unfold raF inB
        rw [show decide (d < p.2.2.1) = decide (d ≤ p.2.2.1 - 1) by rw [Bool.eq_iff_iff]; simp; omega])
      have hw : IntKind.i64.wrap (p.2.2.1 - 1) = p.2.2.1 - 1 := by rw [IntKind.wrap_i64]; omega
      have hBn := Bk.new wr 79 (raC p)
      have hB1 := hB.alloc (.cells (raC p) 79)
      have hG1 := hG.alloc (.cells (raC p) 79)
      clear hp hpb hB hG
      cases h1 : eqB p.1 k with
      | false =>
        have HF : Hid (l.find? (raF k d) = (l.drop (n + 1)).find? (raF k d)) := Lib.hid (by rw [HD.out, if_neg (by simp [HEF.out, h1])])
        unfold eqB at h1
        clear HD HEF
        go_wp2_with (refine wpList_load_at rfl 79 _ rfl ⟨bb, bo + n * 7, none⟩ rfl #[.string p.1, .int .i64 p.2.1, .int .i64 p.2.2.1, .int .i64 p.2.2.2.1, .int .i64 p.2.2.2.2.1, .int .i64 p.2.2.2.2.2.1, .int .i64 p.2.2.2.2.2.2] _ HW.out Tryd.underlying79 rfl (ra_info p) ?_)
        go_roundw
        case rel => exact ⟨n + 1, by omega, by go_num, HF.out, hB1, hG1⟩
        case measure => simp [intOf]; omega
      | true =>
        have H1 := Lib.hid h1
        unfold eqB at h1
        cases h2 : inB d p.2.1 (p.2.2.1 - 1) with
        | false =>
          have HF : Hid (l.find? (raF k d) = (l.drop (n + 1)).find? (raF k d)) := Lib.hid (by rw [HD.out, if_neg (by simp [HEF.out, h2])])
          clear HD HEF
          go_wp2_with (refine wpList_load_at rfl 79 _ rfl ⟨bb, bo + n * 7, none⟩ rfl #[.string p.1, .int .i64 p.2.1, .int .i64 p.2.2.1, .int .i64 p.2.2.2.1, .int .i64 p.2.2.2.2.1, .int .i64 p.2.2.2.2.2.1, .int .i64 p.2.2.2.2.2.2] _ HW.out Tryd.underlying79 rfl (ra_info p) ?_)
          refine (in_c _ _ _ _).mono ?_; rintro e w' ⟨rfl, rfl⟩
          rw [h2]
          go_wp2_with fail
          go_roundw
          case rel => exact ⟨n + 1, by omega, by go_num, HF.out, hB1, hG1⟩
          case measure => simp [intOf]; omega
        | true =>
          have HF : Hid (l.find? (raF k d) = some p) := Lib.hid (by rw [HD.out, if_pos (by rw [HEF.out, H1.out, h2]; rfl)])
          clear HD HEF
          go_wp2_with (refine wpList_load_at rfl 79 _ rfl ⟨bb, bo + n * 7, none⟩ rfl #[.string p.1, .int .i64 p.2.1, .int .i64 p.2.2.1, .int .i64 p.2.2.2.1, .int .i64 p.2.2.2.2.1, .int .i64 p.2.2.2.2.2.1, .int .i64 p.2.2.2.2.2.2] _ HW.out Tryd.underlying79 rfl (ra_info p) ?_)
          refine (in_c _ _ _ _).mono ?_; rintro e w' ⟨rfl, rfl⟩
          rw [h2]
          go_wp2_with (first | (refine wpList_load_row rfl 79 _ rfl wr.heap.size rfl 79 (raC p) (0, 0) _ hBn Tryd.underlying79 rfl (ra_info p) ?_) | (refine wpList_store_row rfl 79 _ _ rfl w.heap.size (raC p) rfl rfl 79 _ hB1 (ra_info p) rfl (ra_oneB p) ?_))
          refine bodyPost_ret (results_cell_two rfl _ _ w.heap.size 79 (raC p) (0, 0) _ rfl (hB1.setRow _) Tryd.underlying79 rfl (ra_info p)) rfl ?_
          exact ⟨by rw [HF.out]; rfl, hG1.setRow (.inl (Nat.le_refl _)) _⟩
    · obtain rfl : n = l.length := by omega
      have HF : Hid (l.find? (raF k d) = none) := Lib.hid (by rw [HE.out, List.drop_length]; rfl)
      go_wp2_with (refine wpList_store_row rfl 79 _ _ rfl w.heap.size (raC raZ) rfl rfl 79 _ hB (ra_info raZ) rfl (ra_oneB raZ) ?_)
      refine bodyPost_ret (results_cell_two rfl _ _ w.heap.size 79 (raC raZ) (0, 0) _ rfl (hB.setRow _) Tryd.underlying79 rfl (ra_info raZ)) rfl ?_
      exact ⟨by rw [HF.out]; rfl, hG.setRow (.inl (Nat.le_refl _)) _⟩
end Go.Proofs.YtndeidcddlmhbaaDoor

/- Rates: the reference's RatesFault. -/
namespace Go.Proofs.YtndeidcddlmhbaaDoor
open Go.RowKit

theorem eqB_com2 (a b : ByteArray) : eqB a b = eqB b a := by
  cases h : eqB b a with
  | true => exact eqB_iff.2 (eqB_iff.1 h).symm
  | false =>
    cases k : eqB a b with
    | false => rfl
    | true => rw [← eqB_iff.1 k, eqB_iff.2 rfl] at h; exact h
theorem priceB_iff (h d e v : Int) : priceB h d e v = decide (-1 ≤ min (min (min h d) e) v ∧ max (max (max h d) e) v ≤ 1000000) := by
  unfold priceB inB
  rw [Bool.eq_iff_iff]
  simp only [Bool.and_eq_true, decide_eq_true_eq]
  omega
theorem chE_key {x : Ra} (h : keyB x.1 = false) : chE x = 5 := by rw [chE, if_pos h]
theorem chE_span {x : Ra} (h : keyB x.1 = true) (h2 : spanB x.2.1 x.2.2.1 = false) : chE x = 1 := by rw [chE, if_neg (by simp [h]), if_pos h2]
theorem chE_price {x : Ra} (h : keyB x.1 = true) (h2 : priceB x.2.2.2.1 x.2.2.2.2.1 x.2.2.2.2.2.1 x.2.2.2.2.2.2 = false) : chE x = 1 := by
  rw [chE, if_neg (by simp [h])]
  cases hs : spanB x.2.1 x.2.2.1 with
  | false => rfl
  | true => rw [h2]; rfl
theorem chE_ok {x : Ra} (h : keyB x.1 = true) (h1 : spanB x.2.1 x.2.2.1 = true) (h2 : priceB x.2.2.2.1 x.2.2.2.2.1 x.2.2.2.2.2.1 x.2.2.2.2.2.2 = true) : chE x = 0 := by
  rw [chE, if_neg (by simp [h]), if_neg (by simp [h1]), if_neg (by simp [h2])]
theorem min4 (x y z u : Int) (w : World) : (Builtin.min_ #[3, 3, 3, 3] 3 #[.int .i64 x, .int .i64 y, .int .i64 z, .int .i64 u]).run Tryd.prog w = .ok (.int .i64 (min (min (min x y) z) u)) w := by
  have e : ∀ a b : Int, (if b < a then b else a) = min a b := fun a b => by
    rw [Int.min_def]
    split <;> split <;> omega
  simp [Builtin.min_, Builtin.min2, e]
theorem max4 (x y z u : Int) (w : World) : (Builtin.max_ #[3, 3, 3, 3] 3 #[.int .i64 x, .int .i64 y, .int .i64 z, .int .i64 u]).run Tryd.prog w = .ok (.int .i64 (max (max (max x y) z) u)) w := by
  have e : ∀ a b : Int, (if a < b then b else a) = max a b := fun a b => by
    rw [Int.max_def]
    split <;> split <;> omega
  simp [Builtin.max_, Builtin.max2, e]
set_option maxRecDepth 100000 in
set_option maxHeartbeats 4000000 in
theorem ratesFault_c (v : Value) (l : List Ra) (w : World) (hr : RdR w 7 raC v l) (hl : RaOk l) (hn : l.length ≤ 1000) :
    Calls Tryd.prog 46 #[v] w fun e w' => e = .returned (.int .i64 (raE l)) ∧ G w w' none := by
  have HR := Lib.hid hr
  obtain ⟨a, cap, rfl, hcap, hm⟩ := RdR.form hr
  clear hr
  by_cases h30 : 200 < l.length
  · have H := Lib.hid (show raE l = 2 by simp [raE, h30])
    go_enter Tryd.func46, Tryd.ntmps46
    go_wp2_with fail
    go_ret
    exact ⟨by rw [H.out]; rfl, G.refl _ _⟩
  · have H := Lib.hid (show raE l = raErr none l by simp [raE, h30])
    go_enter Tryd.func46, Tryd.ntmps46
    go_wp2_with fail
    go_loopw [13] (RaRel w l) (fun i _ => l.length - (intOf i).toNat)
    case atStart => exact ⟨0, by omega, rfl, rfl, G.refl _ _⟩
    case round =>
      obtain ⟨k, hkl, rfl, heq, hG⟩ := hrel
      have HE := Lib.hid heq
      clear heq
      by_cases hk : k < l.length
      · obtain ⟨p, hp⟩ : ∃ p, l[k]? = some p := ⟨_, List.getElem?_eq_getElem hk⟩
        have hdrop : l.drop k = p :: l.drop (k + 1) := by rw [List.drop_eq_getElem_cons hk, ← (List.getElem?_eq_some_iff.1 hp).2]
        have hpl := hl p (List.mem_of_getElem? hp)
        obtain ⟨bb, bo, rfl, hbb, _⟩ := RdR.elem raC_sz HR.out hG hp
        have HW := Lib.hid (raRow HR.out hG hp)
        have HP := Lib.hid hp
        have hs1 := hpl.1
        unfold Small at hs1
        have HS : Hid (raErr (prevAt l k) (l.drop k) = if chE p = 0 then (if raAfter (prevAt l k) p = true then 7 else if raHits (prevAt l k) p = true then 13 else raErr (some p) (l.drop (k + 1))) else chE p) := Lib.hid (by rw [hdrop]; rfl)
        have HB5 := Lib.hid (Bk.new wr 79 (raC p))
        have HG5 := Lib.hid (hG.alloc (.cells (raC p) 79))
        clear hdrop hp hpl
        go_wp2_with (refine wpList_load_at rfl 79 _ rfl ⟨bb, bo + k * 7, none⟩ rfl #[.string p.1, .int .i64 p.2.1, .int .i64 p.2.2.1, .int .i64 p.2.2.2.1, .int .i64 p.2.2.2.2.1, .int .i64 p.2.2.2.2.2.1, .int .i64 p.2.2.2.2.2.2] _ HW.out Tryd.underlying79 rfl (ra_info p) ?_)
        have hB5 : Bk (wr.alloc (.cells #[.string p.1, .int .i64 p.2.1, .int .i64 p.2.2.1, .int .i64 p.2.2.2.1, .int .i64 p.2.2.2.2.1, .int .i64 p.2.2.2.2.2.1, .int .i64 p.2.2.2.2.2.2] 79)) wr.heap.size 79 (raC p) := HB5.out
        have hG5 : G w (wr.alloc (.cells #[.string p.1, .int .i64 p.2.1, .int .i64 p.2.2.1, .int .i64 p.2.2.2.1, .int .i64 p.2.2.2.2.1, .int .i64 p.2.2.2.2.2.1, .int .i64 p.2.2.2.2.2.2] 79)) none := HG5.out
        clear HB5 HG5 HW hG
        have hg5 := hB5.lt
        generalize wr.alloc (.cells #[.string p.1, .int .i64 p.2.1, .int .i64 p.2.2.1, .int .i64 p.2.2.2.1, .int .i64 p.2.2.2.2.1, .int .i64 p.2.2.2.2.2.1, .int .i64 p.2.2.2.2.2.2] 79) = w5 at hB5 hG5 hg5 ⊢
        generalize wr.heap.size = g at hB5 hg5 ⊢
        have c0 : w5.cell? ⟨g, 0, none⟩ = some (.string p.1) := hB5.cell 0
        have c1 : w5.cell? ⟨g, 1, none⟩ = some (.int .i64 p.2.1) := hB5.cell 1
        have c2 : w5.cell? ⟨g, 2, none⟩ = some (.int .i64 p.2.2.1) := hB5.cell 2
        have c3 : w5.cell? ⟨g, 3, none⟩ = some (.int .i64 p.2.2.2.1) := hB5.cell 3
        have c4 : w5.cell? ⟨g, 4, none⟩ = some (.int .i64 p.2.2.2.2.1) := hB5.cell 4
        have c5 : w5.cell? ⟨g, 5, none⟩ = some (.int .i64 p.2.2.2.2.2.1) := hB5.cell 5
        have c6 : w5.cell? ⟨g, 6, none⟩ = some (.int .i64 p.2.2.2.2.2.2) := hB5.cell 6
        obtain ⟨L, hL⟩ : ∃ L, min (min (min p.2.2.2.1 p.2.2.2.2.1) p.2.2.2.2.2.1) p.2.2.2.2.2.2 = L := ⟨_, rfl⟩
        obtain ⟨M, hM⟩ : ∃ M, max (max (max p.2.2.2.1 p.2.2.2.2.1) p.2.2.2.2.2.1) p.2.2.2.2.2.2 = M := ⟨_, rfl⟩
        have hmin := fun w : World => min4 p.2.2.2.1 p.2.2.2.2.1 p.2.2.2.2.2.1 p.2.2.2.2.2.2 w
        have hmax := fun w : World => max4 p.2.2.2.1 p.2.2.2.2.1 p.2.2.2.2.2.1 p.2.2.2.2.2.2 w
        rw [hL] at hmin
        rw [hM] at hmax
        have HPR : Hid (priceB p.2.2.2.1 p.2.2.2.2.1 p.2.2.2.2.2.1 p.2.2.2.2.2.2 = decide (-1 ≤ L ∧ M ≤ 1000000)) := Lib.hid (by rw [priceB_iff, hL, hM])
        clear hL hM
        go_quiet (fail)
        have hGd := hG5.drewN nq
        have hBd := hB5.drewN nq
        clear hG5 hB5 hmin hmax c3 c4 c5 c6
        go_wp2_with fail
        refine (rkey_c _ _ hs1).mono ?_; rintro e w6 ⟨rfl, hG6⟩
        have hG06 := hGd.trans hG6
        have hB6 := hBd.quiet hG6
        clear hGd hBd hG6 c0 c1 c2
        have c0 : w6.cell? ⟨g, 0, none⟩ = some (.string p.1) := hB6.cell 0
        have c1 : w6.cell? ⟨g, 1, none⟩ = some (.int .i64 p.2.1) := hB6.cell 1
        have c2 : w6.cell? ⟨g, 2, none⟩ = some (.int .i64 p.2.2.1) := hB6.cell 2
        have hg6 := hB6.lt
        cases hkb : keyB p.1 with
        | false =>
          have hch := chE_key hkb
          have HF : Hid (raE l = 5) := Lib.hid (by rw [H.out, HE.out, HS.out, if_neg (by rw [hch]; decide), hch])
          clear hch hkb
          go_wp2_with fail
          go_ret
          exact ⟨by rw [HF.out]; rfl, hG06⟩
        | true =>
          have HK := Lib.hid hkb
          clear hkb
          rcases (show p.2.1 < 0 ∨ (0 ≤ p.2.1 ∧ p.2.2.1 ≤ p.2.1) ∨ (0 ≤ p.2.1 ∧ p.2.1 < p.2.2.1 ∧ 4001 < p.2.2.1) ∨ (0 ≤ p.2.1 ∧ p.2.1 < p.2.2.1 ∧ p.2.2.1 ≤ 4001) by omega) with h1 | ⟨h1, h2⟩ | ⟨h1, h2, h3⟩ | ⟨h1, h2, h3⟩
          · have hch := chE_span HK.out (by rw [spanB, decide_eq_false (show ¬ 0 ≤ p.2.1 by omega)]; rfl)
            have HF : Hid (raE l = 1) := Lib.hid (by rw [H.out, HE.out, HS.out, if_neg (by rw [hch]; decide), hch])
            clear hch
            go_wp2_with fail
            go_ret
            exact ⟨by rw [HF.out]; rfl, hG06⟩
          · have hch := chE_span HK.out (by rw [spanB, decide_eq_false (show ¬ p.2.1 < p.2.2.1 by omega)]; simp)
            have HF : Hid (raE l = 1) := Lib.hid (by rw [H.out, HE.out, HS.out, if_neg (by rw [hch]; decide), hch])
            clear hch
            go_wp2_with fail
            go_ret
            exact ⟨by rw [HF.out]; rfl, hG06⟩
          · have hch := chE_span HK.out (by rw [spanB, decide_eq_false (show ¬ p.2.2.1 ≤ 4001 by omega)]; simp)
            have HF : Hid (raE l = 1) := Lib.hid (by rw [H.out, HE.out, HS.out, if_neg (by rw [hch]; decide), hch])
            clear hch
            go_wp2_with fail
            go_ret
            exact ⟨by rw [HF.out]; rfl, hG06⟩
          · have HSP : Hid (spanB p.2.1 p.2.2.1 = true) := Lib.hid (by simp [spanB, h1, h2, h3])
            rcases (show L < -1 ∨ (-1 ≤ L ∧ 1000000 < M) ∨ (-1 ≤ L ∧ M ≤ 1000000) by omega) with h4 | ⟨h4, h5⟩ | ⟨h4, h5⟩
            · have hch := chE_price HK.out (by rw [HPR.out]; exact decide_eq_false (by omega))
              have HF : Hid (raE l = 1) := Lib.hid (by rw [H.out, HE.out, HS.out, if_neg (by rw [hch]; decide), hch])
              clear hch
              go_wp2_with fail
              go_ret
              exact ⟨by rw [HF.out]; rfl, hG06⟩
            · have hch := chE_price HK.out (by rw [HPR.out]; exact decide_eq_false (by omega))
              have HF : Hid (raE l = 1) := Lib.hid (by rw [H.out, HE.out, HS.out, if_neg (by rw [hch]; decide), hch])
              clear hch
              go_wp2_with fail
              go_ret
              exact ⟨by rw [HF.out]; rfl, hG06⟩
            · have hch := chE_ok HK.out HSP.out (by rw [HPR.out]; exact decide_eq_true ⟨h4, h5⟩)
              cases k with
              | zero =>
                have HF : Hid (raErr none l = raErr (prevAt l (0 + 1)) (l.drop (0 + 1))) := Lib.hid (by rw [HE.out, HS.out, if_pos hch, if_neg (by simp [raAfter, prevAt]), if_neg (by simp [raHits, prevAt]), prevAt_succ l 0 p HP.out])
                clear hch HS HE HPR HSP
                go_wp2_with fail
                go_roundw
                case rel => exact ⟨0 + 1, by omega, by go_num, HF.out, hG06⟩
                case measure => simp [intOf]; omega
              | succ m =>
                obtain ⟨q, hq2⟩ : ∃ q, l[m]? = some q := ⟨_, List.getElem?_eq_getElem (by omega)⟩
                have HPA : Hid (prevAt l (m + 1) = some q) := Lib.hid (prevAt_succ l m q hq2)
                have HX : Hid (raErr none l = if 0 ≤ cmpR q p then 7 else if raHits (some q) p = true then 13 else raErr (some p) (l.drop (m + 1 + 1))) := Lib.hid (by rw [HE.out, HS.out, if_pos hch, HPA.out]; simp [raAfter])
                have hsub : IntKind.i64.wrap (((m + 1 : Nat) : Int) - 1) = (m : Int) := by rw [show ((m + 1 : Nat) : Int) - 1 = (m : Int) by omega]; rw [IntKind.wrap_i64]; omega
                have hsub2 : IntKind.i64.wrap (m : Int) = (m : Int) := by rw [IntKind.wrap_i64]; omega
                have hsub3 : IntKind.i64.wrap ((m : Int) + 1 - 1) = (m : Int) := by rw [IntKind.wrap_i64]; omega
                have hm0 : (0 : Int) ≤ (m : Int) := Int.natCast_nonneg m
                have hml : (m : Int) < (l.length : Int) := by omega
                have HW := Lib.hid (raRow HR.out hG06 hq2)
                have HG7 := Lib.hid (hG06.alloc (.cells (raC q) 79))
                have d0 := RdR.cell raC_sz HR.out hG06 hq2 0 (.string q.1) rfl
                have d1 := RdR.cell raC_sz HR.out hG06 hq2 1 (.int .i64 q.2.1) rfl
                have d2 := RdR.cell raC_sz HR.out hG06 hq2 2 (.int .i64 q.2.2.1) rfl
                have d3 := RdR.cell raC_sz HR.out hG06 hq2 3 (.int .i64 q.2.2.2.1) rfl
                have d4 := RdR.cell raC_sz HR.out hG06 hq2 4 (.int .i64 q.2.2.2.2.1) rfl
                have d5 := RdR.cell raC_sz HR.out hG06 hq2 5 (.int .i64 q.2.2.2.2.2.1) rfl
                have d6 := RdR.cell raC_sz HR.out hG06 hq2 6 (.int .i64 q.2.2.2.2.2.2) rfl
                simp only [Nat.add_zero] at d0
                clear HW
                have hneg := cmpI_neg p.1 q.1
                have hl1 : Op.bytesLess p.1.toList q.1.toList = decide (cmpI p.1 q.1 < 0) := by rw [less_cL, ByteArray.toList_eq, ByteArray.toList_eq]; rfl
                have he1 := eqB_cmp p.1 q.1
                have hor : cmpR q p = if cmpI q.1 p.1 = 0 then cmpS q.2.1 p.2.1 else cmpI q.1 p.1 := rfl
                have hcs : cmpS q.2.1 p.2.1 = if q.2.1 < p.2.1 then -1 else if p.2.1 < q.2.1 then 1 else 0 := rfl
                clear hq2 hch HS HE HPR HSP
                rcases (show cmpI p.1 q.1 < 0 ∨ 0 < cmpI p.1 q.1 ∨ cmpI p.1 q.1 = 0 by omega) with hc | hc | hc
                · have HF : Hid (raE l = 7) := Lib.hid (by rw [H.out, HX.out, if_pos (by rw [hor, if_neg (by omega)]; omega)])
                  have g1 : Op.bytesLess p.1.toList q.1.toList = true := by rw [hl1]; exact decide_eq_true hc
                  clear hl1 he1 hor hneg hcs
                  go_wp2_with fail
                  go_ret
                  exact ⟨by rw [HF.out]; rfl, HG7.out⟩
                · have g1 : Op.bytesLess p.1.toList q.1.toList = false := by rw [hl1]; exact decide_eq_false (by omega)
                  have g2 : eqB p.1 q.1 = false := by rw [he1]; exact decide_eq_false (by omega)
                  have HF : Hid (raErr none l = raErr (prevAt l (m + 1 + 1)) (l.drop (m + 1 + 1))) := Lib.hid (by rw [HX.out, if_neg (by rw [hor, if_neg (by omega)]; omega), if_neg (by simp [raHits, eqB_com2 q.1 p.1, g2]), prevAt_succ l (m + 1) p HP.out])
                  unfold eqB at g2
                  clear hl1 he1 hor hneg hcs
                  go_wp2_with fail
                  go_roundw
                  case rel => exact ⟨m + 1 + 1, by omega, by go_num, HF.out, HG7.out⟩
                  case measure => simp [intOf]; omega
                · have g1 : Op.bytesLess p.1.toList q.1.toList = false := by rw [hl1]; exact decide_eq_false (by omega)
                  have g2 : eqB p.1 q.1 = true := by rw [he1]; exact decide_eq_true hc
                  have HG2 := Lib.hid g2
                  unfold eqB at g2
                  rcases (show p.2.1 ≤ q.2.1 ∨ (q.2.1 < p.2.1 ∧ p.2.1 < q.2.2.1) ∨ (q.2.1 < p.2.1 ∧ q.2.2.1 ≤ p.2.1) by omega) with h6 | ⟨h6, h7⟩ | ⟨h6, h7⟩
                  · have HF : Hid (raE l = 7) := Lib.hid (by rw [H.out, HX.out, if_pos (by rw [hor, if_pos (by omega), hcs, if_neg (by omega)]; split <;> omega)])
                    clear hl1 he1 hor hneg hcs
                    go_wp2_with fail
                    go_ret
                    exact ⟨by rw [HF.out]; rfl, HG7.out⟩
                  · have HF : Hid (raE l = 13) := Lib.hid (by rw [H.out, HX.out, if_neg (by rw [hor, if_pos (by omega), hcs, if_pos h6]; omega), if_pos (by simp [raHits, eqB_com2 q.1 p.1, HG2.out, h7])])
                    clear hl1 he1 hor hneg hcs
                    go_wp2_with fail
                    go_ret
                    exact ⟨by rw [HF.out]; rfl, HG7.out⟩
                  · have HF : Hid (raErr none l = raErr (prevAt l (m + 1 + 1)) (l.drop (m + 1 + 1))) := Lib.hid (by rw [HX.out, if_neg (by rw [hor, if_pos (by omega), hcs, if_pos h6]; omega), if_neg (by simp [raHits, h7]), prevAt_succ l (m + 1) p HP.out])
                    clear hl1 he1 hor hneg hcs
                    go_wp2_with fail
                    go_roundw
                    case rel => exact ⟨m + 1 + 1, by omega, by go_num, HF.out, HG7.out⟩
                    case measure => simp [intOf]; omega
      · obtain rfl : k = l.length := by omega
        have HE2 : Hid (raE l = 0) := Lib.hid (by rw [H.out, HE.out, List.drop_length]; rfl)
        go_wp2_with fail
        go_ret
        exact ⟨by rw [HE2.out]; rfl, hG⟩
end Go.Proofs.YtndeidcddlmhbaaDoor

/- The time of a hire: Days, begun, TimeFault, DaysOf. -/
namespace Go.Proofs.YtndeidcddlmhbaaDoor
open Go.RowKit

def tE (a z : Int) : Int := if 0 ≤ a ∧ a < z ∧ z ≤ 5761439 then (if 172800 < z - a then 2 else 0) else 1
def tN (a z : Int) : Int := if tE a z = 0 then (z - a + 1439) / 1440 else 0
set_option maxRecDepth 100000 in
theorem begun_c (m : Int) (w : World) (h0 : 0 ≤ m) (h1 : m ≤ 5761439) : Calls Tryd.prog 100 #[.int .i64 m, .int .i64 1440] w fun e w' => e = .returned (.int .i64 ((m + 1439) / 1440)) ∧ w = w' := by
  have HF : Hid ((m + 1440 - 1) / 1440 = (m + 1439) / 1440) := Lib.hid (by omega)
  go_enter Tryd.func100, Tryd.ntmps100
  go_wp2_with fail
  go_ret
  exact ⟨ret_int HF.out, rfl⟩
set_option maxRecDepth 100000 in
set_option maxHeartbeats 2000000 in
theorem days_c (a z : Int) (w : World) (ha : bnd a) (hz : bnd z) : Calls Tryd.prog 44 #[.agg #[.int .i64 a, .int .i64 z]] w fun e w' => e = .returned (.tuple #[.int .i64 (tN a z), .int .i64 (tE a z)]) ∧ G w w' none := by
  unfold bnd at ha hz
  have hG : G w (w.alloc (.cells #[.int .i64 a, .int .i64 z] 29)) none := (G.refl w none).alloc _
  have hB := Bk.new w 29 #[.int .i64 a, .int .i64 z]
  by_cases h0 : 0 ≤ a ∧ a < z ∧ z < 5761440
  · obtain ⟨h1, h2, h3⟩ := h0
    have HI := Lib.hid (timB_yes ⟨h1, h2, h3⟩)
    have HT : Hid (tE a z = if 172800 < z - a then 2 else 0) := Lib.hid (by rw [tE, if_pos ⟨h1, h2, by omega⟩])
    have HD : Hid (tE a z = 0 → tN a z = (z - a + 1439) / 1440) := Lib.hid fun h => by rw [tN, if_pos h]
    have HD2 : Hid (tE a z ≠ 0 → tN a z = 0) := Lib.hid fun h => by rw [tN, if_neg h]
    go_enter Tryd.func44, Tryd.ntmps44
    go_wp2_with (refine wpList_load_row rfl 29 _ rfl w.heap.size rfl 29 #[.int .i64 a, .int .i64 z] (0, 0) _ hB Tryd.underlying29 rfl (wi_info a z) ?_)
    refine (isTime_c a z _).mono ?_; rintro e w1 ⟨rfl, hG1⟩
    rw [HI.out]
    have hB1 := hB.quiet hG1
    have hG01 := hG.trans hG1
    have c0 : w1.cell? ⟨w.heap.size, 0, none⟩ = some (.int .i64 a) := hB1.cell 0
    have c1 : w1.cell? ⟨w.heap.size, 1, none⟩ = some (.int .i64 z) := hB1.cell 1
    clear hB hG hG1
    rcases (show 172800 < z - a ∨ z - a ≤ 172800 by omega) with h4 | h4
    · have HE : Hid (tE a z = 2) := Lib.hid (by rw [HT.out, if_pos h4])
      have HN : Hid (tN a z = 0) := Lib.hid (HD2.out (by rw [HE.out]; decide))
      have h5 : 120 < (z - a + 1439) / 1440 := by omega
      go_wp2_with fail
      refine (begun_c _ _ (by omega) (by omega)).mono ?_; rintro e w' ⟨rfl, rfl⟩
      generalize (z - a + 1439) / 1440 = N at h5 ⊢
      go_wp2_with fail
      go_ret2
      exact ⟨by rw [HE.out, HN.out]; rfl, hG01⟩
    · have HE : Hid (tE a z = 0) := Lib.hid (by rw [HT.out, if_neg (by omega)])
      have HN : Hid (tN a z = (z - a + 1439) / 1440) := Lib.hid (HD.out HE.out)
      have h5 : (z - a + 1439) / 1440 ≤ 120 := by omega
      go_wp2_with fail
      refine (begun_c _ _ (by omega) (by omega)).mono ?_; rintro e w' ⟨rfl, rfl⟩
      generalize (z - a + 1439) / 1440 = N at h5 HN ⊢
      go_wp2_with fail
      go_ret2
      exact ⟨by rw [HE.out, HN.out]; rfl, hG01⟩
  · have HE : Hid (tE a z = 1) := Lib.hid (by rw [tE, if_neg (by omega)])
    have HN : Hid (tN a z = 0) := Lib.hid (by rw [tN, if_neg (by rw [HE.out]; decide)])
    have HI := Lib.hid (timB_no h0)
    clear h0
    go_enter Tryd.func44, Tryd.ntmps44
    go_wp2_with (refine wpList_load_row rfl 29 _ rfl w.heap.size rfl 29 #[.int .i64 a, .int .i64 z] (0, 0) _ hB Tryd.underlying29 rfl (wi_info a z) ?_)
    refine (isTime_c a z _).mono ?_; rintro e w1 ⟨rfl, hG1⟩
    rw [HI.out]
    go_wp2_with fail
    go_ret2
    exact ⟨by rw [HE.out, HN.out]; rfl, hG.trans hG1⟩
set_option maxRecDepth 100000 in
set_option maxHeartbeats 2000000 in
theorem timeFault_c (a z : Int) (w : World) (ha : bnd a) (hz : bnd z) : Calls Tryd.prog 41 #[.agg #[.int .i64 a, .int .i64 z]] w fun e w' => e = .returned (.int .i64 (tE a z)) ∧ G w w' none := by
  unfold bnd at ha hz
  have hG : G w (w.alloc (.cells #[.int .i64 a, .int .i64 z] 29)) none := (G.refl w none).alloc _
  rcases (show a < 0 ∨ (0 ≤ a ∧ z ≤ a) ∨ (0 ≤ a ∧ a < z ∧ 5761439 < z) ∨ (0 ≤ a ∧ a < z ∧ z ≤ 5761439) by omega) with h1 | ⟨h1, h2⟩ | ⟨h1, h2, h3⟩ | ⟨h1, h2, h3⟩
  · have HE : Hid (tE a z = 1) := Lib.hid (by rw [tE, if_neg (by omega)])
    go_enter Tryd.func41, Tryd.ntmps41
    go_wp2_with fail
    go_ret
    exact ⟨by rw [HE.out]; rfl, hG⟩
  · have HE : Hid (tE a z = 1) := Lib.hid (by rw [tE, if_neg (by omega)])
    go_enter Tryd.func41, Tryd.ntmps41
    go_wp2_with fail
    go_ret
    exact ⟨by rw [HE.out]; rfl, hG⟩
  · have HE : Hid (tE a z = 1) := Lib.hid (by rw [tE, if_neg (by omega)])
    go_enter Tryd.func41, Tryd.ntmps41
    go_wp2_with fail
    go_ret
    exact ⟨by rw [HE.out]; rfl, hG⟩
  · have HT : Hid (tE a z = if 172800 < z - a then 2 else 0) := Lib.hid (by rw [tE, if_pos ⟨h1, h2, h3⟩])
    rcases (show 172800 < z - a ∨ z - a ≤ 172800 by omega) with h4 | h4
    · have HE : Hid (tE a z = 2) := Lib.hid (by rw [HT.out, if_pos h4])
      go_enter Tryd.func41, Tryd.ntmps41
      go_wp2_with fail
      go_ret
      exact ⟨by rw [HE.out]; rfl, hG⟩
    · have HE : Hid (tE a z = 0) := Lib.hid (by rw [HT.out, if_neg (by omega)])
      go_enter Tryd.func41, Tryd.ntmps41
      go_wp2_with fail
      go_ret
      exact ⟨by rw [HE.out]; rfl, hG⟩
theorem tE_zero {a z : Int} (h : tE a z = 0) : 0 ≤ a ∧ a < z ∧ z ≤ 5761439 ∧ z - a ≤ 172800 := by
  unfold tE at h
  split at h
  · split at h
    · omega
    · omega
  · omega
def DofRel (w : World) (a z : Int) (s3 s4 : Value) (wr : World) : Prop :=
  ∃ j : Nat, s3 = .int .i64 j ∧ s4 = .int .i64 (a + 1440 * j) ∧ (j : Int) ≤ (z - a + 1439) / 1440 ∧ Bk wr w.heap.size 29 #[.int .i64 a, .int .i64 z] ∧ G w wr none
set_option maxRecDepth 100000 in
set_option maxHeartbeats 2000000 in
theorem daysOf_c (a z : Int) (w : World) (h : tE a z = 0) : Calls Tryd.prog 48 #[.agg #[.int .i64 a, .int .i64 z]] w fun e w' => e = .returned (.int .i64 (tN a z)) ∧ G w w' none := by
  have HN : Hid (tN a z = (z - a + 1439) / 1440) := Lib.hid (by rw [tN, if_pos h])
  obtain ⟨h1, h2, h3, h4⟩ := tE_zero h
  clear h
  go_enter Tryd.func48, Tryd.ntmps48
  go_wp2_with fail
  go_loopw [3, 4] (DofRel w a z) (fun s _ _ => ((z - a + 1439) / 1440).toNat - (intOf s).toNat)
  case atStart => exact ⟨0, rfl, by go_num, by omega, Bk.new w _ _, (G.refl _ _).alloc _⟩
  case round =>
    obtain ⟨j, rfl, rfl, hj, hB, hG⟩ := hrel
    have c0 : wr.cell? ⟨w.heap.size, 0, none⟩ = some (.int .i64 a) := hB.cell 0
    have c1 : wr.cell? ⟨w.heap.size, 1, none⟩ = some (.int .i64 z) := hB.cell 1
    by_cases hlt : a + 1440 * (j : Int) < z
    · go_wp2_with fail
      go_roundw
      case rel => exact ⟨j + 1, by go_num, by go_num, by omega, hB, hG⟩
      case measure => simp [intOf]; omega
    · have hjn : (j : Int) = (z - a + 1439) / 1440 := by omega
      go_wp2_with fail
      go_ret
      exact ⟨by rw [HN.out, ← hjn]; rfl, hG⟩
end Go.Proofs.YtndeidcddlmhbaaDoor
