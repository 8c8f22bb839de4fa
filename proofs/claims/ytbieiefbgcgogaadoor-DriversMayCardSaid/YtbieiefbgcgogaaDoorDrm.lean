/- Drivers: MayOf, May. -/
import Derived.Test.YtbieiefbgcgogaaDoorDri
import Derived.Test.YtbieiefbgcgogaaDoorTim
namespace Go.Proofs.YtbieiefbgcgogaaDoor
open Go.RowKit

def agLast (s : ByteArray) : Int → List Ag → Int
  | acc, [] => acc
  | acc, x :: r => agLast s (if x.1.toList == s.toList then x.2 else acc) r
def mayB (p : Dr) (m a z : Int) : Bool := decide (p.2.2.1 ≤ a / 1440) && (decide ((z - 1) / 1440 < p.2.2.2) && decide (m ≤ a / 1440 - p.2.1))
theorem drT_b {p : Dr} (h : drT p = true) : -50000 ≤ p.2.1 ∧ p.2.1 ≤ 4000 ∧ -50000 ≤ p.2.2.1 ∧ p.2.2.1 ≤ p.2.2.2 ∧ p.2.2.2 ≤ 50000 := by
  simp only [drT, inB, Bool.and_eq_true, decide_eq_true_eq] at h
  omega
def MofRel (w : World) (l : List Ag) (s : ByteArray) (m i : Value) (wr : World) : Prop :=
  ∃ (k : Nat) (acc : Int), k ≤ l.length ∧ i = .int .i64 k ∧ m = .int .i64 acc ∧ agLast s 0 l = agLast s acc (l.drop k) ∧ G w wr none
set_option maxRecDepth 100000 in
set_option maxHeartbeats 4000000 in
theorem mayOf_c (p : Dr) (v : Value) (l : List Ag) (s : ByteArray) (a z : Int) (w : World) (hr : RdR w 2 agC v l) (hn : l.length ≤ 1000) (hp : drT p = true) (ht : tE a z = 0) :
    Calls Tryd.prog 41 #[.agg (drC p), v, .string s, .agg #[.int .i64 a, .int .i64 z]] w fun e w' => e = .returned (.bool (mayB p (agLast s 0 l) a z)) ∧ G w w' none := by
  obtain ⟨t1, t2, t3, -⟩ := tE_zero ht
  obtain ⟨d1, d2, d3, d4, d5⟩ := drT_b hp
  clear hp ht
  have hD := (Bk.new w 75 (drC p)).alloc (.cells #[.int .i64 a, .int .i64 z] 31)
  have hW := Bk.newAt (w := w.alloc (.cells (drC p) 75)) (b := w.heap.size + 1) (by simp) 31 #[.int .i64 a, .int .i64 z]
  have hG := ((G.refl w none).alloc (.cells (drC p) 75)).alloc (.cells #[.int .i64 a, .int .i64 z] 31)
  have HR := Lib.hid (hr.quiet hG)
  obtain ⟨ad, cap, rfl, hcap, hm⟩ := RdR.form hr
  clear hr
  obtain ⟨p1, p2, p3, p4⟩ := p
  simp only [drC] at hD hW hG HR ⊢
  dsimp only at d1 d2 d3 d4 d5
  go_enter Tryd.func41, Tryd.ntmps41
  go_upto_region 1 with fail
  generalize (w.alloc (.cells #[.string p1, .int .i64 p2, .int .i64 p3, .int .i64 p4] 75)).alloc (.cells #[.int .i64 a, .int .i64 z] 31) = w2 at hD hW hG HR ⊢
  have c0 : w2.cell? ⟨w.heap.size + 1, 0, none⟩ = some (.int .i64 a) := hW.cell 0
  have c1 : w2.cell? ⟨w.heap.size + 1, 1, none⟩ = some (.int .i64 z) := hW.cell 1
  obtain ⟨f, hf⟩ : ∃ f, a / 1440 = f := ⟨_, rfl⟩
  obtain ⟨g, hg⟩ : ∃ g, (z - 1) / 1440 = g := ⟨_, rfl⟩
  have hfb : 0 ≤ f ∧ f ≤ 4001 := by omega
  have hgb : f ≤ g ∧ g ≤ 4001 := by omega
  have hw1 : IntKind.i64.wrap (z - 1) = z - 1 := by rw [IntKind.wrap_i64]; omega
  have hw2 : IntKind.i64.wrap (a.tdiv 1440) = f := by rw [Int.tdiv_eq_ediv_of_nonneg t1, hf, IntKind.wrap_i64]; omega
  have hw3 : IntKind.i64.wrap ((z - 1).tdiv 1440) = g := by rw [Int.tdiv_eq_ediv_of_nonneg (by omega), hg, IntKind.wrap_i64]; omega
  have HM : Hid (mayB (p1, p2, p3, p4) (agLast s 0 l) a z = (decide (p3 ≤ f) && (decide (g < p4) && decide (agLast s 0 l ≤ f - p2)))) := Lib.hid (by rw [← hf, ← hg]; rfl)
  go_quiet (fail)
  have hGq := hG.drewN nq
  have hDq := hD.drewN nq
  have HRq := Lib.hid (HR.out.quiet ((G.refl _ none).drewN nq))
  clear hG hD hW c0 c1 hw1 hw2 hw3 HR hf hg t1 t2 t3
  generalize w2.drewN nq = w3 at hGq hDq HRq ⊢
  have HDD := Lib.hid hDq
  clear hDq
  go_wp2_with fail
  go_loopw [11, 23] (MofRel w3 l s) (fun _ i _ => l.length - (intOf i).toNat)
  case atStart => exact ⟨0, 0, by omega, rfl, rfl, rfl, G.refl _ _⟩
  case round =>
    obtain ⟨k, acc, hkl, rfl, rfl, heq, hGr⟩ := hrel
    have HE := Lib.hid heq
    clear heq
    by_cases hk : k < l.length
    · obtain ⟨q, hq⟩ : ∃ q, l[k]? = some q := ⟨_, List.getElem?_eq_getElem hk⟩
      have HS : Hid (agLast s 0 l = agLast s (if q.1.toList == s.toList then q.2 else acc) (l.drop (k + 1))) := Lib.hid (by
        rw [HE.out, List.drop_eq_getElem_cons hk, (List.getElem?_eq_some_iff.1 hq).2]; rfl)
      obtain ⟨bb, bo, rfl, -, -⟩ := RdR.elem agC_sz HRq.out hGr hq
      have HW := Lib.hid (agRow HRq.out hGr hq)
      have HK := Lib.hid hk
      have hG5 := hGr.alloc (.cells #[.string q.1, .int .i64 q.2] 116)
      clear hq hGr
      cases he : (q.1.toList == s.toList) with
      | true =>
        have HF : Hid (agLast s 0 l = agLast s q.2 (l.drop (k + 1))) := Lib.hid (by rw [HS.out, if_pos he])
        go_wp2_with (refine wpList_load_at rfl 116 _ rfl ⟨bb, bo + k * 2, none⟩ rfl #[.string q.1, .int .i64 q.2] _ HW.out Tryd.underlying116 rfl (ag_info q) ?_)
        go_roundw
        case rel => exact ⟨k + 1, q.2, by omega, by go_num, rfl, HF.out, hG5⟩
        case measure => have := HK.out; simp [intOf]; omega
      | false =>
        have HF : Hid (agLast s 0 l = agLast s acc (l.drop (k + 1))) := Lib.hid (by rw [HS.out, if_neg (by simp [he])])
        go_wp2_with (refine wpList_load_at rfl 116 _ rfl ⟨bb, bo + k * 2, none⟩ rfl #[.string q.1, .int .i64 q.2] _ HW.out Tryd.underlying116 rfl (ag_info q) ?_)
        go_roundw
        case rel => exact ⟨k + 1, acc, by omega, by go_num, rfl, HF.out, hG5⟩
        case measure => have := HK.out; simp [intOf]; omega
    · obtain rfl : k = l.length := by omega
      have HF : Hid (agLast s 0 l = acc) := Lib.hid (by rw [HE.out, List.drop_length]; rfl)
      have hD := HDD.out.quiet hGr
      have hG := hGq.trans hGr
      have c1 : wr.cell? ⟨w.heap.size, 1, none⟩ = some (.int .i64 p2) := hD.cell 1
      have c2 : wr.cell? ⟨w.heap.size, 2, none⟩ = some (.int .i64 p3) := hD.cell 2
      have c3 : wr.cell? ⟨w.heap.size, 3, none⟩ = some (.int .i64 p4) := hD.cell 3
      have hw4 : IntKind.i64.wrap (p4 - 1) = p4 - 1 := by rw [IntKind.wrap_i64]; omega
      have hw5 : IntKind.i64.wrap (f - p2) = f - p2 := by rw [IntKind.wrap_i64]; omega
      have HM2 : Hid (mayB (p1, p2, p3, p4) (agLast s 0 l) a z = (decide (p3 ≤ f) && (decide (g < p4) && decide (acc ≤ f - p2)))) := Lib.hid (by rw [HM.out, HF.out])
      clear HM HF HE
      go_wp2_with fail
      refine (in_c _ _ _ _).mono ?_; rintro e w' ⟨rfl, rfl⟩
      cases k1 : inB f p3 (p4 - 1) with
      | false =>
        have hn1 : ¬ (p3 ≤ f ∧ f ≤ p4 - 1) := by simpa [inB] using k1
        have HF : Hid (mayB (p1, p2, p3, p4) (agLast s 0 l) a z = false) := Lib.hid (by
          rw [HM2.out]
          simp only [Bool.and_eq_false_iff, decide_eq_false_iff_not]
          omega)
        clear k1 hn1 HM2
        go_wp2_with fail
        go_ret
        exact ⟨ret_bool HF.out.symm, hG⟩
      | true =>
        have hn1 : p3 ≤ f ∧ f ≤ p4 - 1 := by simpa [inB] using k1
        clear k1
        go_wp2_with fail
        refine (in_c _ _ _ _).mono ?_; rintro e w' ⟨rfl, rfl⟩
        cases k2 : inB g p3 (p4 - 1) with
        | false =>
          have hn2 : ¬ (p3 ≤ g ∧ g ≤ p4 - 1) := by simpa [inB] using k2
          have HF : Hid (mayB (p1, p2, p3, p4) (agLast s 0 l) a z = false) := Lib.hid (by
            rw [HM2.out]
            simp only [Bool.and_eq_false_iff, decide_eq_false_iff_not]
            omega)
          clear k2 hn2 HM2 hn1
          go_wp2_with fail
          go_ret
          exact ⟨ret_bool HF.out.symm, hG⟩
        | true =>
          have hn2 : p3 ≤ g ∧ g ≤ p4 - 1 := by simpa [inB] using k2
          have HF : Hid (mayB (p1, p2, p3, p4) (agLast s 0 l) a z = decide (acc ≤ f - p2)) := Lib.hid (by
            rw [HM2.out, decide_eq_true hn1.1, decide_eq_true (show g < p4 by omega)]
            rfl)
          clear k2 hn2 HM2 hn1
          by_cases k3 : acc ≤ f - p2
          · have HF2 : Hid (mayB (p1, p2, p3, p4) (agLast s 0 l) a z = true) := Lib.hid (by rw [HF.out, decide_eq_true k3])
            go_wp2_with fail
            go_ret
            exact ⟨ret_bool HF2.out.symm, hG⟩
          · go_wp2_with fail
            go_ret
            exact ⟨ret_bool HF.out.symm, hG⟩
end Go.Proofs.YtbieiefbgcgogaaDoor
