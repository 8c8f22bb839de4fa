/- Clr, Pck, GenL. -/
import Derived.Test.YtdcofbciebkfkaaDoorZm4
import Derived.Test.YtdcofbciebkfkaaDoorZm1
import Derived.Test.YtdcofbciebkfkaaDoorZm2
import Derived.Laws.ResultCell
/- The reference's clashes. Written by genclr.py. -/
namespace Go.Proofs.YtdcofbciebkfkaaDoor
open Go.RowKit

set_option maxRecDepth 100000 in
theorem meet_c (a b c d : Int) (w : World) : Calls Tryd.prog 111 #[.agg #[.int .i64 a, .int .i64 b], .agg #[.int .i64 c, .int .i64 d]] w fun e w' => e = .returned (.bool (decide (max a c < min b d))) ∧ G w w' none := by
  by_cases h : max a c < min b d
  · rw [decide_eq_true h]
    go_enter Tryd.func111, Tryd.ntmps111
    go_wp2_with fail
    go_ret
    exact ⟨by simp [h], ((G.refl _ _).alloc _).alloc _⟩
  · rw [decide_eq_false h]
    go_enter Tryd.func111, Tryd.ntmps111
    go_wp2_with fail
    go_ret
    exact ⟨by simp [h], ((G.refl _ _).alloc _).alloc _⟩
def C4Rel (w9 : World) (aD : Lg → Lg → Bool) (x : Lg) (lb : List Lg) (c0 d0 : Int) (s8 s9 i : Value) (wr : World) : Prop :=
  ∃ (j : Nat) (c d : Int), j ≤ lb.length ∧ s8 = .int .i64 c ∧ s9 = .int .i64 d ∧ i = .int .i64 j ∧ ckF alV x lb c0 = ckF alV x (lb.drop j) c ∧ ckF aD x lb d0 = ckF aD x (lb.drop j) d ∧ G w9 wr none
def C3Rel (w7 : World) (aD : Lg → Lg → Bool) (la lb : List Lg) (s8 s9 i : Value) (wr : World) : Prop :=
  ∃ (k : Nat) (c d : Int), k ≤ la.length ∧ s8 = .int .i64 c ∧ s9 = .int .i64 d ∧ i = .int .i64 k ∧ ckV alV lb la 5761440 = ckV alV lb (la.drop k) c ∧ ckV aD lb la 5761440 = ckV aD lb (la.drop k) d ∧ G w7 wr none
set_option maxRecDepth 100000 in
set_option maxHeartbeats 40000000 in
theorem clashesOfR_c (u : Value) (L : List Hx) (w3 : World) (hr : HxR w3 u L) (hl : HxOk L) (hn : L.length ≤ 5) (he : haE L = 0) :
    Calls Tryd.prog 45 #[u] w3 fun e w' => ∃ v', e = .returned v' ∧ RdR w' 4 ksC v' (clAll L) ∧ G w3 w' none := by
  obtain ⟨hall, -⟩ := haE_all he
  obtain ⟨a, cap, rfl, hcap, hm⟩ := RdR.form hr.1
  obtain ⟨RS, hRS'⟩ : ∃ RS, clAll L = RS := ⟨_, rfl⟩
  have hRS : Hid (RS = clAll L) := Lib.hid hRS'.symm
  rw [hRS']
  clear hRS'
  have HRR := Lib.hid hr.1
  have HX := Lib.hid hr.2
  clear hr he
  go_enter Tryd.func45, Tryd.ntmps45
  go_wp2_with fail
  go_loopw [3, 19] (CoRel w3 L) (fun _ i _ => L.length - (intOf i).toNat)
  case atStart => exact ⟨0, [], by omega, rfl, rfl, by simp, World.ownsRow_nil _ _ _ _, G.refl _ _⟩
  case round =>
    obtain ⟨k, acc, hk, rfl, heq, hacc, hown, hGr⟩ := hrel
    have HEQ := Lib.hid heq
    clear heq
    by_cases hlt : k < L.length
    · obtain ⟨⟨ph, ⟨pa, pc⟩, pl⟩, hp⟩ : ∃ p, L[k]? = some p := ⟨_, List.getElem?_eq_getElem hlt⟩
      obtain ⟨R, hR⟩ : ∃ R, L.drop (k + 1) = R := ⟨_, rfl⟩
      have HR := Lib.hid hR
      have hpL := List.mem_of_getElem? hp
      have hp0 : hiE ph pl = 0 := hall _ hpL
      have hp1 := (hiE_pos hp0).1
      have hp20 := (hiE_pos hp0).2
      obtain ⟨b3, o3, rfl, -, -⟩ := RdR.elem lgC_sz (show RdR w3 9 lgC (.slice pa pl.length pc) pl from HX.out _ hpL) (G.refl _ none) (List.getElem?_eq_getElem hp1)
      have HD : Hid (clAll L = acc ++ (clRow (ph, (some ⟨b3, o3, none⟩, pc), pl) R ++ clAll (L.drop (k + 1)))) := Lib.hid (by
        rw [HEQ.out, List.drop_eq_getElem_cons hlt, (List.getElem?_eq_some_iff.1 hp).2, hR]; rfl)
      obtain ⟨bb, bo, rfl, -, -⟩ := RdR.elem hxC_sz HRR.out hGr hp
      have HRL : Hid (R.length = L.length - (k + 1)) := Lib.hid (by rw [← hR]; exact List.length_drop)
      have hrd := RdR.drop hxC_sz HRR.out (k + 1) (by omega)
      rw [hR] at hrd
      have HW := Lib.hid (hxRow HRR.out hGr hp)
      have HK := Lib.hid hlt
      have hB5 : Bk (wr.alloc (.cells #[.string ph.1, .string ph.2.1, .int .i64 ph.2.2.1, .int .i64 ph.2.2.2, .slice (some ⟨b3, o3, none⟩) pl.length pc] 33)) wr.heap.size 33 #[.string ph.1, .string ph.2.1, .int .i64 ph.2.2.1, .int .i64 ph.2.2.2, .slice (some ⟨b3, o3, none⟩) pl.length pc] := Bk.new _ _ _
      have hG5 := hGr.alloc (.cells #[.string ph.1, .string ph.2.1, .int .i64 ph.2.2.1, .int .i64 ph.2.2.2, .slice (some ⟨b3, o3, none⟩) pl.length pc] 33)
      have hown5 := OwnX.alloc hown (.cells #[.string ph.1, .string ph.2.1, .int .i64 ph.2.2.1, .int .i64 ph.2.2.2, .slice (some ⟨b3, o3, none⟩) pl.length pc] 33)
      clear hp hGr hown hR
      go_upto_region 5 with (refine wpList_load_at rfl 33 _ rfl ⟨bb, bo + k * 5, none⟩ rfl #[.string ph.1, .string ph.2.1, .int .i64 ph.2.2.1, .int .i64 ph.2.2.2, .slice (some ⟨b3, o3, none⟩) pl.length pc] _ HW.out Tryd.underlying33 rfl (hi_info ph _) ?_)
      generalize wr.alloc (.cells #[.string ph.1, .string ph.2.1, .int .i64 ph.2.2.1, .int .i64 ph.2.2.2, .slice (some ⟨b3, o3, none⟩) pl.length pc] 33) = w5 at hB5 hG5 hown5 ⊢
      generalize wr.heap.size = gA at hB5 ⊢
      have hkw : IntKind.i64.wrap ((k : Int) + 1) = ((k + 1 : Nat) : Int) := by rw [IntKind.wrap_i64]; omega
      have hk1 : ((k + 1 : Nat) : Int) ≤ (L.length : Int) := by omega
      have hk0 : (0 : Int) ≤ ((k + 1 : Nat) : Int) := by omega
      by_cases hcap2 : cap = k + 1
      · have hRz : R.length = 0 := by have := HRL.out; omega
        have HR0 : Hid (R = []) := Lib.hid (List.eq_nil_of_length_eq_zero hRz)
        have hn0 : L.length - (k + 1) = 0 := by have := HRL.out; omega
        clear hrd hRz
        go_wp2_with fail
        go_loopw [3, 29] (fun s3 i wr => i = .int .i64 0 ∧ OwnKs wr w3.heap.size s3 acc ∧ G w3 wr none) (fun _ _ _ => 0)
        case atStart => exact ⟨rfl, hown5, hG5⟩
        case round =>
          clear hown5 hB5 hG5
          obtain ⟨rfl, hown6, hG6⟩ := hrel
          go_wp2_with fail
          go_roundw
          case rel => exact ⟨k + 1, acc, by omega, by go_num, by rw [HD.out, HR.out, HR0.out]; rfl, by omega, hown6, hG6⟩
          case measure => have := HK.out; simp [intOf]; omega
      · rw [if_neg hcap2] at hrd
        simp only [Option.map_some, add_at] at hrd
        have hn1 : L.length - (k + 1) = R.length := by have := HRL.out; omega
        rw [hn1] at hrd
        have HRD := Lib.hid hrd
        clear hrd
        go_wp2_with fail
        go_loopw [3, 29] (CiRel w3 gA (ph, (some ⟨b3, o3, none⟩, pc), pl) R acc) (fun _ i _ => R.length - (intOf i).toNat)
        case atStart => exact ⟨0, [], by omega, rfl, rfl, by simp, by rw [List.append_nil]; exact hown5, hB5, hG5⟩
        case round =>
          clear hown5 hB5 hG5
          obtain ⟨j, acc2, hj, rfl, heq2, hal2, hown6, hB6, hG6⟩ := hrel
          have HQ2 := Lib.hid heq2
          clear heq2
          by_cases hjl : j < R.length
          · obtain ⟨⟨qh, ⟨qa, qc⟩, ql⟩, hq⟩ : ∃ q, R[j]? = some q := ⟨_, List.getElem?_eq_getElem hjl⟩
            have hqL := List.mem_of_mem_drop (i := k + 1) (by rw [HR.out]; exact List.mem_of_getElem? hq)
            have hq0 : hiE qh ql = 0 := hall _ hqL
            have HDQ : Hid (clRow (ph, (some ⟨b3, o3, none⟩, pc), pl) R = (acc2 ++ rlOf ph qh pl ql) ++ clRow (ph, (some ⟨b3, o3, none⟩, pc), pl) (R.drop (j + 1))) := Lib.hid (by
              rw [HQ2.out, List.drop_eq_getElem_cons hjl, (List.getElem?_eq_some_iff.1 hq).2, List.append_assoc, rlOf_eq ph qh pl ql hp0 hq0]; rfl)
            have hln2 : Hid ((rlOf ph qh pl ql).length ≤ 2) := Lib.hid (by rw [rlOf_eq ph qh pl ql hp0 hq0]; exact clOf_len _ _ _ _)
            have hLq : RdR wr 9 lgC (.slice qa ql.length qc) ql := Rd.quiet (HX.out _ hqL) hG6
            have hLp : RdR wr 9 lgC (.slice (some ⟨b3, o3, none⟩) pl.length pc) pl := Rd.quiet (HX.out _ hpL) hG6
            have hq1 := (hiE_pos hq0).1
            have hq20 := (hiE_pos hq0).2
            obtain ⟨b4, o4, rfl, -, -⟩ := RdR.elem lgC_sz hLq (G.refl _ none) (List.getElem?_eq_getElem hq1)
            have HW2 := Lib.hid (hxRow HRD.out hG6 hq)
            have HJ := Lib.hid hjl
            have hB7 := hB6.alloc (.cells #[.string qh.1, .string qh.2.1, .int .i64 qh.2.2.1, .int .i64 qh.2.2.2, .slice (some ⟨b4, o4, none⟩) ql.length qc] 33)
            have hN7 := Bk.new wr 33 #[.string qh.1, .string qh.2.1, .int .i64 qh.2.2.1, .int .i64 qh.2.2.2, .slice (some ⟨b4, o4, none⟩) ql.length qc]
            have hG7 := hG6.alloc (.cells #[.string qh.1, .string qh.2.1, .int .i64 qh.2.2.1, .int .i64 qh.2.2.2, .slice (some ⟨b4, o4, none⟩) ql.length qc] 33)
            have hq7 := (G.refl wr none).alloc (.cells #[.string qh.1, .string qh.2.1, .int .i64 qh.2.2.1, .int .i64 qh.2.2.2, .slice (some ⟨b4, o4, none⟩) ql.length qc] 33)
            have hown7 := OwnX.alloc hown6 (.cells #[.string qh.1, .string qh.2.1, .int .i64 qh.2.2.1, .int .i64 qh.2.2.2, .slice (some ⟨b4, o4, none⟩) ql.length qc] 33)
            have hLq7 := Rd.quiet hLq hq7
            have hLp7 := Rd.quiet hLp hq7
            clear hq hB6 hG6 hown6 hLq hLp hq7
            go_upto_region 9 with (refine wpList_load_at rfl 33 _ rfl ⟨bb, bo + (k + 1) * 5 + j * 5, none⟩ rfl #[.string qh.1, .string qh.2.1, .int .i64 qh.2.2.1, .int .i64 qh.2.2.2, .slice (some ⟨b4, o4, none⟩) ql.length qc] _ HW2.out Tryd.underlying33 rfl (hi_info qh _) ?_)
            generalize wr.alloc (.cells #[.string qh.1, .string qh.2.1, .int .i64 qh.2.2.1, .int .i64 qh.2.2.2, .slice (some ⟨b4, o4, none⟩) ql.length qc] 33) = w7 at hB7 hN7 hG7 hown7 hLq7 hLp7 ⊢
            generalize wr.heap.size = gB at hN7 ⊢
            have HBA : Hid (Bk w7 gA 33 #[.string ph.1, .string ph.2.1, .int .i64 ph.2.2.1, .int .i64 ph.2.2.2, .slice (some ⟨b3, o3, none⟩) pl.length pc]) := Lib.hid hB7
            have HBB := Lib.hid hN7
            have HG7 := Lib.hid hG7
            have HOWN := Lib.hid hown7
            have HLp := Lib.hid hLp7
            have HLq := Lib.hid hLq7
            have cA4 : w7.cell? ⟨gA, 4, none⟩ = some (.slice (some ⟨b3, o3, none⟩) pl.length pc) := HBA.out.cell 4
            clear hB7 hN7 hG7 hown7 hLq7 hLp7
            go_wp2_with fail
            go_loopw [8, 9, 36] (C3Rel w7 (alD ph qh) pl ql) (fun _ _ i _ => pl.length - (intOf i).toNat)
            case atStart => exact ⟨0, 5761440, 5761440, by omega, rfl, rfl, rfl, rfl, rfl, G.refl _ _⟩
            case round =>
              clear cA4
              obtain ⟨k3, cc, dd, hk3, rfl, rfl, rfl, hv3, hd3, hG3⟩ := hrel
              have HV3 := Lib.hid hv3
              have HD3 := Lib.hid hd3
              clear hv3 hd3
              by_cases hlt3 : k3 < pl.length
              · obtain ⟨x, hx⟩ : ∃ x, pl[k3]? = some x := ⟨_, List.getElem?_eq_getElem hlt3⟩
                have HPV : Hid (ckV alV ql pl 5761440 = ckV alV ql (pl.drop (k3 + 1)) (ckF alV x ql cc)) := Lib.hid (by
                  rw [HV3.out, List.drop_eq_getElem_cons hlt3, (List.getElem?_eq_some_iff.1 hx).2]; rfl)
                have HPD : Hid (ckV (alD ph qh) ql pl 5761440 = ckV (alD ph qh) ql (pl.drop (k3 + 1)) (ckF (alD ph qh) x ql dd)) := Lib.hid (by
                  rw [HD3.out, List.drop_eq_getElem_cons hlt3, (List.getElem?_eq_some_iff.1 hx).2]; rfl)
                have HWx := Lib.hid (lgRow HLp.out hG3 hx)
                have HK3 := Lib.hid hlt3
                have hBx : Bk (wr.alloc (.cells #[.string x.1, .int .i64 x.2.1.1, .string x.2.1.2.1, .int .i64 x.2.1.2.2.1, .int .i64 x.2.1.2.2.2, .int .i64 x.2.2.1, .string x.2.2.2.1, .int .i64 x.2.2.2.2.1, .int .i64 x.2.2.2.2.2] 79)) wr.heap.size 79 #[.string x.1, .int .i64 x.2.1.1, .string x.2.1.2.1, .int .i64 x.2.1.2.2.1, .int .i64 x.2.1.2.2.2, .int .i64 x.2.2.1, .string x.2.2.2.1, .int .i64 x.2.2.2.2.1, .int .i64 x.2.2.2.2.2] := Bk.new _ _ _
                have hG9 := hG3.alloc (.cells #[.string x.1, .int .i64 x.2.1.1, .string x.2.1.2.1, .int .i64 x.2.1.2.2.1, .int .i64 x.2.1.2.2.2, .int .i64 x.2.2.1, .string x.2.2.2.1, .int .i64 x.2.2.2.2.1, .int .i64 x.2.2.2.2.2] 79)
                clear hx hG3
                go_upto_region 12 with (refine wpList_load_at rfl 79 _ rfl ⟨b3, o3 + k3 * 9, none⟩ rfl #[.string x.1, .int .i64 x.2.1.1, .string x.2.1.2.1, .int .i64 x.2.1.2.2.1, .int .i64 x.2.1.2.2.2, .int .i64 x.2.2.1, .string x.2.2.2.1, .int .i64 x.2.2.2.2.1, .int .i64 x.2.2.2.2.2] _ HWx.out Tryd.underlying79 rfl (lg_info x) ?_)
                generalize wr.alloc (.cells #[.string x.1, .int .i64 x.2.1.1, .string x.2.1.2.1, .int .i64 x.2.1.2.2.1, .int .i64 x.2.1.2.2.2, .int .i64 x.2.2.1, .string x.2.2.2.1, .int .i64 x.2.2.2.2.1, .int .i64 x.2.2.2.2.2] 79) = w9 at hBx hG9 ⊢
                generalize wr.heap.size = gx at hBx ⊢
                have HBx := Lib.hid hBx
                have c4 : w9.cell? ⟨gB, 4, none⟩ = some (.slice (some ⟨b4, o4, none⟩) ql.length qc) := (HBB.out.quiet hG9).cell 4
                clear hBx
                go_wp2_with fail
                go_loopw [8, 9, 43] (C4Rel w9 (alD ph qh) x ql cc dd) (fun _ _ i _ => ql.length - (intOf i).toNat)
                case atStart => exact ⟨0, cc, dd, by omega, rfl, rfl, rfl, rfl, rfl, G.refl _ _⟩
                case round =>
                  clear c4
                  obtain ⟨j4, c, d, hj4, rfl, rfl, rfl, hv4, hd4, hG4⟩ := hrel
                  have HV4 := Lib.hid hv4
                  have HD4 := Lib.hid hd4
                  clear hv4 hd4
                  by_cases hlt4 : j4 < ql.length
                  · obtain ⟨y, hy⟩ : ∃ y, ql[j4]? = some y := ⟨_, List.getElem?_eq_getElem hlt4⟩
                    have HQV : Hid (ckF alV x ql cc = ckF alV x (ql.drop (j4 + 1)) (ckS alV x y c)) := Lib.hid (by
                      rw [HV4.out, List.drop_eq_getElem_cons hlt4, (List.getElem?_eq_some_iff.1 hy).2]; rfl)
                    have HQD : Hid (ckF (alD ph qh) x ql dd = ckF (alD ph qh) x (ql.drop (j4 + 1)) (ckS (alD ph qh) x y d)) := Lib.hid (by
                      rw [HD4.out, List.drop_eq_getElem_cons hlt4, (List.getElem?_eq_some_iff.1 hy).2]; rfl)
                    have HWy := Lib.hid (lgRow HLq.out (hG9.trans hG4) hy)
                    have HJ4 := Lib.hid hlt4
                    have hBy : Bk (wr.alloc (.cells #[.string y.1, .int .i64 y.2.1.1, .string y.2.1.2.1, .int .i64 y.2.1.2.2.1, .int .i64 y.2.1.2.2.2, .int .i64 y.2.2.1, .string y.2.2.2.1, .int .i64 y.2.2.2.2.1, .int .i64 y.2.2.2.2.2] 79)) wr.heap.size 79 #[.string y.1, .int .i64 y.2.1.1, .string y.2.1.2.1, .int .i64 y.2.1.2.2.1, .int .i64 y.2.1.2.2.2, .int .i64 y.2.2.1, .string y.2.2.2.1, .int .i64 y.2.2.2.2.1, .int .i64 y.2.2.2.2.2] := Bk.new _ _ _
                    have hBx := (HBx.out.quiet hG4).alloc (.cells #[.string y.1, .int .i64 y.2.1.1, .string y.2.1.2.1, .int .i64 y.2.1.2.2.1, .int .i64 y.2.1.2.2.2, .int .i64 y.2.2.1, .string y.2.2.2.1, .int .i64 y.2.2.2.2.1, .int .i64 y.2.2.2.2.2] 79)
                    have hG10 := hG4.alloc (.cells #[.string y.1, .int .i64 y.2.1.1, .string y.2.1.2.1, .int .i64 y.2.1.2.2.1, .int .i64 y.2.1.2.2.2, .int .i64 y.2.2.1, .string y.2.2.2.1, .int .i64 y.2.2.2.2.1, .int .i64 y.2.2.2.2.2] 79)
                    clear hy hG4
                    go_upto_region 15 with (refine wpList_load_at rfl 79 _ rfl ⟨b4, o4 + j4 * 9, none⟩ rfl #[.string y.1, .int .i64 y.2.1.1, .string y.2.1.2.1, .int .i64 y.2.1.2.2.1, .int .i64 y.2.1.2.2.2, .int .i64 y.2.2.1, .string y.2.2.2.1, .int .i64 y.2.2.2.2.1, .int .i64 y.2.2.2.2.2] _ HWy.out Tryd.underlying79 rfl (lg_info y) ?_)
                    generalize wr.alloc (.cells #[.string y.1, .int .i64 y.2.1.1, .string y.2.1.2.1, .int .i64 y.2.1.2.2.1, .int .i64 y.2.1.2.2.2, .int .i64 y.2.2.1, .string y.2.2.2.1, .int .i64 y.2.2.2.2.1, .int .i64 y.2.2.2.2.2] 79) = w10 at hBy hBx hG10 ⊢
                    generalize wr.heap.size = gy at hBy ⊢
                    have HXY := Lib.hid (fun w' (q : G w10 w' none) => And.intro (hBx.quiet q) (hBy.quiet q))
                    clear hBx hBy
                    go_cut [14, 15] from 44 to 76 (fun s14 s15 w' => MeW w10 x y s14 s15 w')
                    case first =>
                      have hG0 := (G.refl w10 none).drew
                      refine wp_region_held_drew (S := (fun w' : World => w'.cell? ⟨gx, 0, none⟩ = some (.string x.1) ∧ w'.cell? ⟨gx, 1, none⟩ = some (.int .i64 x.2.1.1) ∧ w'.cell? ⟨gx, 2, none⟩ = some (.string x.2.1.2.1) ∧ w'.cell? ⟨gx, 3, none⟩ = some (.int .i64 x.2.1.2.2.1) ∧ w'.cell? ⟨gx, 4, none⟩ = some (.int .i64 x.2.1.2.2.2) ∧ w'.cell? ⟨gx, 5, none⟩ = some (.int .i64 x.2.2.1) ∧ w'.cell? ⟨gx, 6, none⟩ = some (.string x.2.2.2.1) ∧ w'.cell? ⟨gx, 7, none⟩ = some (.int .i64 x.2.2.2.2.1) ∧ w'.cell? ⟨gx, 8, none⟩ = some (.int .i64 x.2.2.2.2.2) ∧ w'.cell? ⟨gy, 0, none⟩ = some (.string y.1) ∧ w'.cell? ⟨gy, 1, none⟩ = some (.int .i64 y.2.1.1) ∧ w'.cell? ⟨gy, 2, none⟩ = some (.string y.2.1.2.1) ∧ w'.cell? ⟨gy, 3, none⟩ = some (.int .i64 y.2.1.2.2.1) ∧ w'.cell? ⟨gy, 4, none⟩ = some (.int .i64 y.2.1.2.2.2) ∧ w'.cell? ⟨gy, 5, none⟩ = some (.int .i64 y.2.2.1) ∧ w'.cell? ⟨gy, 6, none⟩ = some (.string y.2.2.2.1) ∧ w'.cell? ⟨gy, 7, none⟩ = some (.int .i64 y.2.2.2.2.1) ∧ w'.cell? ⟨gy, 8, none⟩ = some (.int .i64 y.2.2.2.2.2))) (by kernel_rfl) ?_ (fun hHeld => ?_)
                      · exact ⟨(HXY.out _ hG0).1.cell 0, (HXY.out _ hG0).1.cell 1, (HXY.out _ hG0).1.cell 2, (HXY.out _ hG0).1.cell 3, (HXY.out _ hG0).1.cell 4, (HXY.out _ hG0).1.cell 5, (HXY.out _ hG0).1.cell 6, (HXY.out _ hG0).1.cell 7, (HXY.out _ hG0).1.cell 8, (HXY.out _ hG0).2.cell 0, (HXY.out _ hG0).2.cell 1, (HXY.out _ hG0).2.cell 2, (HXY.out _ hG0).2.cell 3, (HXY.out _ hG0).2.cell 4, (HXY.out _ hG0).2.cell 5, (HXY.out _ hG0).2.cell 6, (HXY.out _ hG0).2.cell 7, (HXY.out _ hG0).2.cell 8⟩
                      generalize w10.drew = wd at hHeld hG0 ⊢
                      refine wpAnyH_take (i := 0) (oi := { dst := some 47, op := Op.load 79 (Operand.tmp 11), type := 79, pos := _, after := #[], guard := none }) (v := ?_) rfl (by kernel_rfl) (by kernel_rfl) (by kernel_rfl) (fun _ _ _ h => h) (Or.inl ⟨by rfl, ?_⟩) (by assumption) ?_
                      rotate_left
                      · (intro w hSw; obtain ⟨s0, s1, s2, s3, s4, s5, s6, s7, s8, s9, s10, s11, s12, s13, s14, s15, s16, s17⟩ := hSw; (go_simp <;> with_reducible rfl))
                      try simp only [Act.put, List.setIfInBounds_toArray, List.set_cons_zero, List.set_cons_succ]
                      refine wpAnyH_take (i := 2) (oi := { dst := some 49, op := Op.load 79 (Operand.tmp 13), type := 79, pos := _, after := #[], guard := none }) (v := ?_) rfl (by kernel_rfl) (by kernel_rfl) (by kernel_rfl) (fun _ _ _ h => h) (Or.inl ⟨by rfl, ?_⟩) (by assumption) ?_
                      rotate_left
                      · (intro w hSw; obtain ⟨s0, s1, s2, s3, s4, s5, s6, s7, s8, s9, s10, s11, s12, s13, s14, s15, s16, s17⟩ := hSw; (go_simp <;> with_reducible rfl))
                      try simp only [Act.put, List.setIfInBounds_toArray, List.set_cons_zero, List.set_cons_succ]
                      refine wpAnyH_ready (rs := [1, 4, 5]) (by kernel_rfl) (by simp) ?_
                      refine (AllReadyH.cons (o := { dst := some 48, op := Op.call { callee := Callee.value (Operand.func 109), args := #[Operand.tmp 47], argTypes := #[79] }, type := 30, pos := _, after := #[{ on := 0, ground := Ground.data }], guard := none }) rfl (fun K hK => ?_) (AllReadyH.cons (o := { dst := some 14, op := Op.alloc 30, type := 0, pos := _, after := #[], guard := none }) rfl (fun K hK => ?_) (AllReadyH.cons (o := { dst := some 15, op := Op.alloc 30, type := 0, pos := _, after := #[], guard := none }) rfl (fun K hK => ?_) AllReadyH.nil)))
                      · go_simp
                        refine (lastsR_c x _).mono ?_
                        rintro e w1_x ⟨rfl, hh⟩
                        have hG1 := hG0.trans hh
                        clear hh
                        refine hK.out _ _ ?_ (fun hHeld => ?_)
                        · exact ⟨(HXY.out _ hG1).1.cell 0, (HXY.out _ hG1).1.cell 1, (HXY.out _ hG1).1.cell 2, (HXY.out _ hG1).1.cell 3, (HXY.out _ hG1).1.cell 4, (HXY.out _ hG1).1.cell 5, (HXY.out _ hG1).1.cell 6, (HXY.out _ hG1).1.cell 7, (HXY.out _ hG1).1.cell 8, (HXY.out _ hG1).2.cell 0, (HXY.out _ hG1).2.cell 1, (HXY.out _ hG1).2.cell 2, (HXY.out _ hG1).2.cell 3, (HXY.out _ hG1).2.cell 4, (HXY.out _ hG1).2.cell 5, (HXY.out _ hG1).2.cell 6, (HXY.out _ hG1).2.cell 7, (HXY.out _ hG1).2.cell 8⟩
                        clear hK K
                        try simp only [Act.put, List.setIfInBounds_toArray, List.set_cons_zero, List.set_cons_succ]
                        refine wpAnyH_ready (rs := [3, 4, 5]) (by kernel_rfl) (by simp) ?_
                        refine (AllReadyH.cons (o := { dst := some 50, op := Op.call { callee := Callee.value (Operand.func 109), args := #[Operand.tmp 49], argTypes := #[79] }, type := 30, pos := _, after := #[{ on := 2, ground := Ground.data }, { on := 1, ground := Ground.chain }], guard := none }) rfl (fun K hK => ?_) (AllReadyH.cons (o := { dst := some 14, op := Op.alloc 30, type := 0, pos := _, after := #[], guard := none }) rfl (fun K hK => ?_) (AllReadyH.cons (o := { dst := some 15, op := Op.alloc 30, type := 0, pos := _, after := #[], guard := none }) rfl (fun K hK => ?_) AllReadyH.nil)))
                        · go_simp
                          refine (lastsR_c y _).mono ?_
                          rintro e w2_y ⟨rfl, hh⟩
                          have hG2 := hG1.trans hh
                          clear hh
                          refine hK.out _ _ ?_ (fun hHeld => ?_)
                          · exact ⟨(HXY.out _ hG2).1.cell 0, (HXY.out _ hG2).1.cell 1, (HXY.out _ hG2).1.cell 2, (HXY.out _ hG2).1.cell 3, (HXY.out _ hG2).1.cell 4, (HXY.out _ hG2).1.cell 5, (HXY.out _ hG2).1.cell 6, (HXY.out _ hG2).1.cell 7, (HXY.out _ hG2).1.cell 8, (HXY.out _ hG2).2.cell 0, (HXY.out _ hG2).2.cell 1, (HXY.out _ hG2).2.cell 2, (HXY.out _ hG2).2.cell 3, (HXY.out _ hG2).2.cell 4, (HXY.out _ hG2).2.cell 5, (HXY.out _ hG2).2.cell 6, (HXY.out _ hG2).2.cell 7, (HXY.out _ hG2).2.cell 8⟩
                          clear hK K
                          try simp only [Act.put, List.setIfInBounds_toArray, List.set_cons_zero, List.set_cons_succ]
                          refine wpAnyH_ready (rs := [4, 5]) (by kernel_rfl) (by simp) ?_
                          refine (AllReadyH.cons (o := { dst := some 14, op := Op.alloc 30, type := 0, pos := _, after := #[], guard := none }) rfl (fun K hK => ?_) (AllReadyH.cons (o := { dst := some 15, op := Op.alloc 30, type := 0, pos := _, after := #[], guard := none }) rfl (fun K hK => ?_) AllReadyH.nil))
                          · go_simp
                            have hG3 := hG2.alloc (.cells #[.int .i64 0, .int .i64 0] 30)
                            have hA3 := Bk.new w2_y 30 #[.int .i64 0, .int .i64 0]
                            have hlA : w10.heap.size ≤ w2_y.heap.size := hG2.size
                            generalize w2_y.alloc (.cells #[.int .i64 0, .int .i64 0] 30) = w3_A at hG3 hA3 ⊢
                            generalize w2_y.heap.size = gA at hA3 hlA ⊢
                            refine hK.out _ _ ?_ (fun hHeld => ?_)
                            · exact ⟨(HXY.out _ hG3).1.cell 0, (HXY.out _ hG3).1.cell 1, (HXY.out _ hG3).1.cell 2, (HXY.out _ hG3).1.cell 3, (HXY.out _ hG3).1.cell 4, (HXY.out _ hG3).1.cell 5, (HXY.out _ hG3).1.cell 6, (HXY.out _ hG3).1.cell 7, (HXY.out _ hG3).1.cell 8, (HXY.out _ hG3).2.cell 0, (HXY.out _ hG3).2.cell 1, (HXY.out _ hG3).2.cell 2, (HXY.out _ hG3).2.cell 3, (HXY.out _ hG3).2.cell 4, (HXY.out _ hG3).2.cell 5, (HXY.out _ hG3).2.cell 6, (HXY.out _ hG3).2.cell 7, (HXY.out _ hG3).2.cell 8⟩
                            clear hK K
                            try simp only [Act.put, List.setIfInBounds_toArray, List.set_cons_zero, List.set_cons_succ]
                            refine wpAnyH_ready (rs := [5]) (by kernel_rfl) (by simp) ?_
                            refine (AllReadyH.cons (o := { dst := some 15, op := Op.alloc 30, type := 0, pos := _, after := #[], guard := none }) rfl (fun K hK => ?_) AllReadyH.nil)
                            go_simp
                            have hG4 := hG3.alloc (.cells #[.int .i64 0, .int .i64 0] 30)
                            have hB4 := Bk.new w3_A 30 #[.int .i64 0, .int .i64 0]
                            have hlB : w10.heap.size ≤ w3_A.heap.size := hG3.size
                            have hne : gA ≠ w3_A.heap.size := Nat.ne_of_lt hA3.lt
                            have hA4 := hA3.alloc (.cells #[.int .i64 0, .int .i64 0] 30)
                            generalize w3_A.alloc (.cells #[.int .i64 0, .int .i64 0] 30) = w4_B at hG4 hB4 hA4 ⊢
                            generalize w3_A.heap.size = gB at hB4 hlB hne ⊢
                            refine hK.out _ _ ?_ (fun hHeld => ?_)
                            · exact ⟨(HXY.out _ hG4).1.cell 0, (HXY.out _ hG4).1.cell 1, (HXY.out _ hG4).1.cell 2, (HXY.out _ hG4).1.cell 3, (HXY.out _ hG4).1.cell 4, (HXY.out _ hG4).1.cell 5, (HXY.out _ hG4).1.cell 6, (HXY.out _ hG4).1.cell 7, (HXY.out _ hG4).1.cell 8, (HXY.out _ hG4).2.cell 0, (HXY.out _ hG4).2.cell 1, (HXY.out _ hG4).2.cell 2, (HXY.out _ hG4).2.cell 3, (HXY.out _ hG4).2.cell 4, (HXY.out _ hG4).2.cell 5, (HXY.out _ hG4).2.cell 6, (HXY.out _ hG4).2.cell 7, (HXY.out _ hG4).2.cell 8⟩
                            clear hK K
                            try simp only [Act.put, List.setIfInBounds_toArray, List.set_cons_zero, List.set_cons_succ]
                            refine wpAnyH_ready (rs := [6]) (by kernel_rfl) (by simp) ?_
                            refine (AllReadyH.cons (o := { dst := none, op := Op.store 30 (Operand.tmp 14) (Operand.tmp 48), type := 0, pos := _, after := #[{ on := 4, ground := Ground.data }, { on := 1, ground := Ground.data }, { on := 3, ground := Ground.chain }, { on := 0, ground := Ground.phase }, { on := 1, ground := Ground.phase }, { on := 2, ground := Ground.textOnly Departure.lateStores }, { on := 3, ground := Ground.textOnly Departure.lateStoresUnsure }, { on := 4, ground := Ground.phase }, { on := 5, ground := Ground.phase }], guard := none }) rfl (fun K hK => ?_) AllReadyH.nil)
                            refine st_wp rfl (wp_store_row 30 _ _ rfl (gA) #[.int .i64 x.2.1.1, .int .i64 (toL x)] rfl rfl 30 _ hA4 (wi_info _ _) rfl (wi_one _ _) ?_)
                            have hG5 := hG4.setRow (g := gA) (.inl hlA) #[.int .i64 x.2.1.1, .int .i64 (toL x)]
                            have hA5 := hA4.setRow #[.int .i64 x.2.1.1, .int .i64 (toL x)]
                            have hB5 := hB4.farRow (k := gA) (by omega) #[.int .i64 x.2.1.1, .int .i64 (toL x)]
                            refine hK.out _ _ ?_ (fun hHeld => ?_)
                            · exact ⟨(HXY.out _ hG5).1.cell 0, (HXY.out _ hG5).1.cell 1, (HXY.out _ hG5).1.cell 2, (HXY.out _ hG5).1.cell 3, (HXY.out _ hG5).1.cell 4, (HXY.out _ hG5).1.cell 5, (HXY.out _ hG5).1.cell 6, (HXY.out _ hG5).1.cell 7, (HXY.out _ hG5).1.cell 8, (HXY.out _ hG5).2.cell 0, (HXY.out _ hG5).2.cell 1, (HXY.out _ hG5).2.cell 2, (HXY.out _ hG5).2.cell 3, (HXY.out _ hG5).2.cell 4, (HXY.out _ hG5).2.cell 5, (HXY.out _ hG5).2.cell 6, (HXY.out _ hG5).2.cell 7, (HXY.out _ hG5).2.cell 8⟩
                            clear hK K
                            try simp only [Act.put, List.setIfInBounds_toArray, List.set_cons_zero, List.set_cons_succ]
                            refine wpAnyH_ready (rs := [7]) (by kernel_rfl) (by simp) ?_
                            refine (AllReadyH.cons (o := { dst := none, op := Op.store 30 (Operand.tmp 15) (Operand.tmp 50), type := 0, pos := _, after := #[{ on := 5, ground := Ground.data }, { on := 3, ground := Ground.data }, { on := 6, ground := Ground.chain }, { on := 0, ground := Ground.phase }, { on := 1, ground := Ground.phase }, { on := 2, ground := Ground.phase }, { on := 3, ground := Ground.phase }, { on := 4, ground := Ground.phase }, { on := 5, ground := Ground.phase }, { on := 6, ground := Ground.phase }], guard := none }) rfl (fun K hK => ?_) AllReadyH.nil)
                            refine st_wp rfl (wp_store_row 30 _ _ rfl (gB) #[.int .i64 y.2.1.1, .int .i64 (toL y)] rfl rfl 30 _ hB5 (wi_info _ _) rfl (wi_one _ _) ?_)
                            have hG6 := hG5.setRow (g := gB) (.inl hlB) #[.int .i64 y.2.1.1, .int .i64 (toL y)]
                            have hB6 := hB5.setRow #[.int .i64 y.2.1.1, .int .i64 (toL y)]
                            have hA6 := hA5.farRow (k := gB) (by omega) #[.int .i64 y.2.1.1, .int .i64 (toL y)]
                            refine hK.out _ _ ?_ (fun hHeld => ?_)
                            · exact ⟨(HXY.out _ hG6).1.cell 0, (HXY.out _ hG6).1.cell 1, (HXY.out _ hG6).1.cell 2, (HXY.out _ hG6).1.cell 3, (HXY.out _ hG6).1.cell 4, (HXY.out _ hG6).1.cell 5, (HXY.out _ hG6).1.cell 6, (HXY.out _ hG6).1.cell 7, (HXY.out _ hG6).1.cell 8, (HXY.out _ hG6).2.cell 0, (HXY.out _ hG6).2.cell 1, (HXY.out _ hG6).2.cell 2, (HXY.out _ hG6).2.cell 3, (HXY.out _ hG6).2.cell 4, (HXY.out _ hG6).2.cell 5, (HXY.out _ hG6).2.cell 6, (HXY.out _ hG6).2.cell 7, (HXY.out _ hG6).2.cell 8⟩
                            clear hK K
                            try simp only [Act.put, List.setIfInBounds_toArray, List.set_cons_zero, List.set_cons_succ]
                            refine wpAnyH_done (by kernel_rfl) ?_ _
                            go_wp2_with fail
                            go_meet
                            case rel => exact ⟨_, _, rfl, rfl, hA6, hB6, hG6⟩
                          · go_simp
                            have hG3 := hG2.alloc (.cells #[.int .i64 0, .int .i64 0] 30)
                            have hB3 := Bk.new w2_y 30 #[.int .i64 0, .int .i64 0]
                            have hlB : w10.heap.size ≤ w2_y.heap.size := hG2.size
                            generalize w2_y.alloc (.cells #[.int .i64 0, .int .i64 0] 30) = w3_B at hG3 hB3 ⊢
                            generalize w2_y.heap.size = gB at hB3 hlB ⊢
                            refine hK.out _ _ ?_ (fun hHeld => ?_)
                            · exact ⟨(HXY.out _ hG3).1.cell 0, (HXY.out _ hG3).1.cell 1, (HXY.out _ hG3).1.cell 2, (HXY.out _ hG3).1.cell 3, (HXY.out _ hG3).1.cell 4, (HXY.out _ hG3).1.cell 5, (HXY.out _ hG3).1.cell 6, (HXY.out _ hG3).1.cell 7, (HXY.out _ hG3).1.cell 8, (HXY.out _ hG3).2.cell 0, (HXY.out _ hG3).2.cell 1, (HXY.out _ hG3).2.cell 2, (HXY.out _ hG3).2.cell 3, (HXY.out _ hG3).2.cell 4, (HXY.out _ hG3).2.cell 5, (HXY.out _ hG3).2.cell 6, (HXY.out _ hG3).2.cell 7, (HXY.out _ hG3).2.cell 8⟩
                            clear hK K
                            try simp only [Act.put, List.setIfInBounds_toArray, List.set_cons_zero, List.set_cons_succ]
                            refine wpAnyH_ready (rs := [4]) (by kernel_rfl) (by simp) ?_
                            refine (AllReadyH.cons (o := { dst := some 14, op := Op.alloc 30, type := 0, pos := _, after := #[], guard := none }) rfl (fun K hK => ?_) AllReadyH.nil)
                            go_simp
                            have hG4 := hG3.alloc (.cells #[.int .i64 0, .int .i64 0] 30)
                            have hA4 := Bk.new w3_B 30 #[.int .i64 0, .int .i64 0]
                            have hlA : w10.heap.size ≤ w3_B.heap.size := hG3.size
                            have hne : gB ≠ w3_B.heap.size := Nat.ne_of_lt hB3.lt
                            have hB4 := hB3.alloc (.cells #[.int .i64 0, .int .i64 0] 30)
                            generalize w3_B.alloc (.cells #[.int .i64 0, .int .i64 0] 30) = w4_A at hG4 hA4 hB4 ⊢
                            generalize w3_B.heap.size = gA at hA4 hlA hne ⊢
                            refine hK.out _ _ ?_ (fun hHeld => ?_)
                            · exact ⟨(HXY.out _ hG4).1.cell 0, (HXY.out _ hG4).1.cell 1, (HXY.out _ hG4).1.cell 2, (HXY.out _ hG4).1.cell 3, (HXY.out _ hG4).1.cell 4, (HXY.out _ hG4).1.cell 5, (HXY.out _ hG4).1.cell 6, (HXY.out _ hG4).1.cell 7, (HXY.out _ hG4).1.cell 8, (HXY.out _ hG4).2.cell 0, (HXY.out _ hG4).2.cell 1, (HXY.out _ hG4).2.cell 2, (HXY.out _ hG4).2.cell 3, (HXY.out _ hG4).2.cell 4, (HXY.out _ hG4).2.cell 5, (HXY.out _ hG4).2.cell 6, (HXY.out _ hG4).2.cell 7, (HXY.out _ hG4).2.cell 8⟩
                            clear hK K
                            try simp only [Act.put, List.setIfInBounds_toArray, List.set_cons_zero, List.set_cons_succ]
                            refine wpAnyH_ready (rs := [6]) (by kernel_rfl) (by simp) ?_
                            refine (AllReadyH.cons (o := { dst := none, op := Op.store 30 (Operand.tmp 14) (Operand.tmp 48), type := 0, pos := _, after := #[{ on := 4, ground := Ground.data }, { on := 1, ground := Ground.data }, { on := 3, ground := Ground.chain }, { on := 0, ground := Ground.phase }, { on := 1, ground := Ground.phase }, { on := 2, ground := Ground.textOnly Departure.lateStores }, { on := 3, ground := Ground.textOnly Departure.lateStoresUnsure }, { on := 4, ground := Ground.phase }, { on := 5, ground := Ground.phase }], guard := none }) rfl (fun K hK => ?_) AllReadyH.nil)
                            refine st_wp rfl (wp_store_row 30 _ _ rfl (gA) #[.int .i64 x.2.1.1, .int .i64 (toL x)] rfl rfl 30 _ hA4 (wi_info _ _) rfl (wi_one _ _) ?_)
                            have hG5 := hG4.setRow (g := gA) (.inl hlA) #[.int .i64 x.2.1.1, .int .i64 (toL x)]
                            have hA5 := hA4.setRow #[.int .i64 x.2.1.1, .int .i64 (toL x)]
                            have hB5 := hB4.farRow (k := gA) (by omega) #[.int .i64 x.2.1.1, .int .i64 (toL x)]
                            refine hK.out _ _ ?_ (fun hHeld => ?_)
                            · exact ⟨(HXY.out _ hG5).1.cell 0, (HXY.out _ hG5).1.cell 1, (HXY.out _ hG5).1.cell 2, (HXY.out _ hG5).1.cell 3, (HXY.out _ hG5).1.cell 4, (HXY.out _ hG5).1.cell 5, (HXY.out _ hG5).1.cell 6, (HXY.out _ hG5).1.cell 7, (HXY.out _ hG5).1.cell 8, (HXY.out _ hG5).2.cell 0, (HXY.out _ hG5).2.cell 1, (HXY.out _ hG5).2.cell 2, (HXY.out _ hG5).2.cell 3, (HXY.out _ hG5).2.cell 4, (HXY.out _ hG5).2.cell 5, (HXY.out _ hG5).2.cell 6, (HXY.out _ hG5).2.cell 7, (HXY.out _ hG5).2.cell 8⟩
                            clear hK K
                            try simp only [Act.put, List.setIfInBounds_toArray, List.set_cons_zero, List.set_cons_succ]
                            refine wpAnyH_ready (rs := [7]) (by kernel_rfl) (by simp) ?_
                            refine (AllReadyH.cons (o := { dst := none, op := Op.store 30 (Operand.tmp 15) (Operand.tmp 50), type := 0, pos := _, after := #[{ on := 5, ground := Ground.data }, { on := 3, ground := Ground.data }, { on := 6, ground := Ground.chain }, { on := 0, ground := Ground.phase }, { on := 1, ground := Ground.phase }, { on := 2, ground := Ground.phase }, { on := 3, ground := Ground.phase }, { on := 4, ground := Ground.phase }, { on := 5, ground := Ground.phase }, { on := 6, ground := Ground.phase }], guard := none }) rfl (fun K hK => ?_) AllReadyH.nil)
                            refine st_wp rfl (wp_store_row 30 _ _ rfl (gB) #[.int .i64 y.2.1.1, .int .i64 (toL y)] rfl rfl 30 _ hB5 (wi_info _ _) rfl (wi_one _ _) ?_)
                            have hG6 := hG5.setRow (g := gB) (.inl hlB) #[.int .i64 y.2.1.1, .int .i64 (toL y)]
                            have hB6 := hB5.setRow #[.int .i64 y.2.1.1, .int .i64 (toL y)]
                            have hA6 := hA5.farRow (k := gB) (by omega) #[.int .i64 y.2.1.1, .int .i64 (toL y)]
                            refine hK.out _ _ ?_ (fun hHeld => ?_)
                            · exact ⟨(HXY.out _ hG6).1.cell 0, (HXY.out _ hG6).1.cell 1, (HXY.out _ hG6).1.cell 2, (HXY.out _ hG6).1.cell 3, (HXY.out _ hG6).1.cell 4, (HXY.out _ hG6).1.cell 5, (HXY.out _ hG6).1.cell 6, (HXY.out _ hG6).1.cell 7, (HXY.out _ hG6).1.cell 8, (HXY.out _ hG6).2.cell 0, (HXY.out _ hG6).2.cell 1, (HXY.out _ hG6).2.cell 2, (HXY.out _ hG6).2.cell 3, (HXY.out _ hG6).2.cell 4, (HXY.out _ hG6).2.cell 5, (HXY.out _ hG6).2.cell 6, (HXY.out _ hG6).2.cell 7, (HXY.out _ hG6).2.cell 8⟩
                            clear hK K
                            try simp only [Act.put, List.setIfInBounds_toArray, List.set_cons_zero, List.set_cons_succ]
                            refine wpAnyH_done (by kernel_rfl) ?_ _
                            go_wp2_with fail
                            go_meet
                            case rel => exact ⟨_, _, rfl, rfl, hA6, hB6, hG6⟩
                        · go_simp
                          have hG2 := hG1.alloc (.cells #[.int .i64 0, .int .i64 0] 30)
                          have hA2 := Bk.new w1_x 30 #[.int .i64 0, .int .i64 0]
                          have hlA : w10.heap.size ≤ w1_x.heap.size := hG1.size
                          generalize w1_x.alloc (.cells #[.int .i64 0, .int .i64 0] 30) = w2_A at hG2 hA2 ⊢
                          generalize w1_x.heap.size = gA at hA2 hlA ⊢
                          refine hK.out _ _ ?_ (fun hHeld => ?_)
                          · exact ⟨(HXY.out _ hG2).1.cell 0, (HXY.out _ hG2).1.cell 1, (HXY.out _ hG2).1.cell 2, (HXY.out _ hG2).1.cell 3, (HXY.out _ hG2).1.cell 4, (HXY.out _ hG2).1.cell 5, (HXY.out _ hG2).1.cell 6, (HXY.out _ hG2).1.cell 7, (HXY.out _ hG2).1.cell 8, (HXY.out _ hG2).2.cell 0, (HXY.out _ hG2).2.cell 1, (HXY.out _ hG2).2.cell 2, (HXY.out _ hG2).2.cell 3, (HXY.out _ hG2).2.cell 4, (HXY.out _ hG2).2.cell 5, (HXY.out _ hG2).2.cell 6, (HXY.out _ hG2).2.cell 7, (HXY.out _ hG2).2.cell 8⟩
                          clear hK K
                          try simp only [Act.put, List.setIfInBounds_toArray, List.set_cons_zero, List.set_cons_succ]
                          refine wpAnyH_ready (rs := [3, 5]) (by kernel_rfl) (by simp) ?_
                          refine (AllReadyH.cons (o := { dst := some 50, op := Op.call { callee := Callee.value (Operand.func 109), args := #[Operand.tmp 49], argTypes := #[79] }, type := 30, pos := _, after := #[{ on := 2, ground := Ground.data }, { on := 1, ground := Ground.chain }], guard := none }) rfl (fun K hK => ?_) (AllReadyH.cons (o := { dst := some 15, op := Op.alloc 30, type := 0, pos := _, after := #[], guard := none }) rfl (fun K hK => ?_) AllReadyH.nil))
                          · go_simp
                            refine (lastsR_c y _).mono ?_
                            rintro e w3_y ⟨rfl, hh⟩
                            have hG3 := hG2.trans hh
                            have hA3 := hA2.quiet hh
                            clear hh
                            refine hK.out _ _ ?_ (fun hHeld => ?_)
                            · exact ⟨(HXY.out _ hG3).1.cell 0, (HXY.out _ hG3).1.cell 1, (HXY.out _ hG3).1.cell 2, (HXY.out _ hG3).1.cell 3, (HXY.out _ hG3).1.cell 4, (HXY.out _ hG3).1.cell 5, (HXY.out _ hG3).1.cell 6, (HXY.out _ hG3).1.cell 7, (HXY.out _ hG3).1.cell 8, (HXY.out _ hG3).2.cell 0, (HXY.out _ hG3).2.cell 1, (HXY.out _ hG3).2.cell 2, (HXY.out _ hG3).2.cell 3, (HXY.out _ hG3).2.cell 4, (HXY.out _ hG3).2.cell 5, (HXY.out _ hG3).2.cell 6, (HXY.out _ hG3).2.cell 7, (HXY.out _ hG3).2.cell 8⟩
                            clear hK K
                            try simp only [Act.put, List.setIfInBounds_toArray, List.set_cons_zero, List.set_cons_succ]
                            refine wpAnyH_ready (rs := [5]) (by kernel_rfl) (by simp) ?_
                            refine (AllReadyH.cons (o := { dst := some 15, op := Op.alloc 30, type := 0, pos := _, after := #[], guard := none }) rfl (fun K hK => ?_) AllReadyH.nil)
                            go_simp
                            have hG4 := hG3.alloc (.cells #[.int .i64 0, .int .i64 0] 30)
                            have hB4 := Bk.new w3_y 30 #[.int .i64 0, .int .i64 0]
                            have hlB : w10.heap.size ≤ w3_y.heap.size := hG3.size
                            have hne : gA ≠ w3_y.heap.size := Nat.ne_of_lt hA3.lt
                            have hA4 := hA3.alloc (.cells #[.int .i64 0, .int .i64 0] 30)
                            generalize w3_y.alloc (.cells #[.int .i64 0, .int .i64 0] 30) = w4_B at hG4 hB4 hA4 ⊢
                            generalize w3_y.heap.size = gB at hB4 hlB hne ⊢
                            refine hK.out _ _ ?_ (fun hHeld => ?_)
                            · exact ⟨(HXY.out _ hG4).1.cell 0, (HXY.out _ hG4).1.cell 1, (HXY.out _ hG4).1.cell 2, (HXY.out _ hG4).1.cell 3, (HXY.out _ hG4).1.cell 4, (HXY.out _ hG4).1.cell 5, (HXY.out _ hG4).1.cell 6, (HXY.out _ hG4).1.cell 7, (HXY.out _ hG4).1.cell 8, (HXY.out _ hG4).2.cell 0, (HXY.out _ hG4).2.cell 1, (HXY.out _ hG4).2.cell 2, (HXY.out _ hG4).2.cell 3, (HXY.out _ hG4).2.cell 4, (HXY.out _ hG4).2.cell 5, (HXY.out _ hG4).2.cell 6, (HXY.out _ hG4).2.cell 7, (HXY.out _ hG4).2.cell 8⟩
                            clear hK K
                            try simp only [Act.put, List.setIfInBounds_toArray, List.set_cons_zero, List.set_cons_succ]
                            refine wpAnyH_ready (rs := [6]) (by kernel_rfl) (by simp) ?_
                            refine (AllReadyH.cons (o := { dst := none, op := Op.store 30 (Operand.tmp 14) (Operand.tmp 48), type := 0, pos := _, after := #[{ on := 4, ground := Ground.data }, { on := 1, ground := Ground.data }, { on := 3, ground := Ground.chain }, { on := 0, ground := Ground.phase }, { on := 1, ground := Ground.phase }, { on := 2, ground := Ground.textOnly Departure.lateStores }, { on := 3, ground := Ground.textOnly Departure.lateStoresUnsure }, { on := 4, ground := Ground.phase }, { on := 5, ground := Ground.phase }], guard := none }) rfl (fun K hK => ?_) AllReadyH.nil)
                            refine st_wp rfl (wp_store_row 30 _ _ rfl (gA) #[.int .i64 x.2.1.1, .int .i64 (toL x)] rfl rfl 30 _ hA4 (wi_info _ _) rfl (wi_one _ _) ?_)
                            have hG5 := hG4.setRow (g := gA) (.inl hlA) #[.int .i64 x.2.1.1, .int .i64 (toL x)]
                            have hA5 := hA4.setRow #[.int .i64 x.2.1.1, .int .i64 (toL x)]
                            have hB5 := hB4.farRow (k := gA) (by omega) #[.int .i64 x.2.1.1, .int .i64 (toL x)]
                            refine hK.out _ _ ?_ (fun hHeld => ?_)
                            · exact ⟨(HXY.out _ hG5).1.cell 0, (HXY.out _ hG5).1.cell 1, (HXY.out _ hG5).1.cell 2, (HXY.out _ hG5).1.cell 3, (HXY.out _ hG5).1.cell 4, (HXY.out _ hG5).1.cell 5, (HXY.out _ hG5).1.cell 6, (HXY.out _ hG5).1.cell 7, (HXY.out _ hG5).1.cell 8, (HXY.out _ hG5).2.cell 0, (HXY.out _ hG5).2.cell 1, (HXY.out _ hG5).2.cell 2, (HXY.out _ hG5).2.cell 3, (HXY.out _ hG5).2.cell 4, (HXY.out _ hG5).2.cell 5, (HXY.out _ hG5).2.cell 6, (HXY.out _ hG5).2.cell 7, (HXY.out _ hG5).2.cell 8⟩
                            clear hK K
                            try simp only [Act.put, List.setIfInBounds_toArray, List.set_cons_zero, List.set_cons_succ]
                            refine wpAnyH_ready (rs := [7]) (by kernel_rfl) (by simp) ?_
                            refine (AllReadyH.cons (o := { dst := none, op := Op.store 30 (Operand.tmp 15) (Operand.tmp 50), type := 0, pos := _, after := #[{ on := 5, ground := Ground.data }, { on := 3, ground := Ground.data }, { on := 6, ground := Ground.chain }, { on := 0, ground := Ground.phase }, { on := 1, ground := Ground.phase }, { on := 2, ground := Ground.phase }, { on := 3, ground := Ground.phase }, { on := 4, ground := Ground.phase }, { on := 5, ground := Ground.phase }, { on := 6, ground := Ground.phase }], guard := none }) rfl (fun K hK => ?_) AllReadyH.nil)
                            refine st_wp rfl (wp_store_row 30 _ _ rfl (gB) #[.int .i64 y.2.1.1, .int .i64 (toL y)] rfl rfl 30 _ hB5 (wi_info _ _) rfl (wi_one _ _) ?_)
                            have hG6 := hG5.setRow (g := gB) (.inl hlB) #[.int .i64 y.2.1.1, .int .i64 (toL y)]
                            have hB6 := hB5.setRow #[.int .i64 y.2.1.1, .int .i64 (toL y)]
                            have hA6 := hA5.farRow (k := gB) (by omega) #[.int .i64 y.2.1.1, .int .i64 (toL y)]
                            refine hK.out _ _ ?_ (fun hHeld => ?_)
                            · exact ⟨(HXY.out _ hG6).1.cell 0, (HXY.out _ hG6).1.cell 1, (HXY.out _ hG6).1.cell 2, (HXY.out _ hG6).1.cell 3, (HXY.out _ hG6).1.cell 4, (HXY.out _ hG6).1.cell 5, (HXY.out _ hG6).1.cell 6, (HXY.out _ hG6).1.cell 7, (HXY.out _ hG6).1.cell 8, (HXY.out _ hG6).2.cell 0, (HXY.out _ hG6).2.cell 1, (HXY.out _ hG6).2.cell 2, (HXY.out _ hG6).2.cell 3, (HXY.out _ hG6).2.cell 4, (HXY.out _ hG6).2.cell 5, (HXY.out _ hG6).2.cell 6, (HXY.out _ hG6).2.cell 7, (HXY.out _ hG6).2.cell 8⟩
                            clear hK K
                            try simp only [Act.put, List.setIfInBounds_toArray, List.set_cons_zero, List.set_cons_succ]
                            refine wpAnyH_done (by kernel_rfl) ?_ _
                            go_wp2_with fail
                            go_meet
                            case rel => exact ⟨_, _, rfl, rfl, hA6, hB6, hG6⟩
                          · go_simp
                            have hG3 := hG2.alloc (.cells #[.int .i64 0, .int .i64 0] 30)
                            have hB3 := Bk.new w2_A 30 #[.int .i64 0, .int .i64 0]
                            have hlB : w10.heap.size ≤ w2_A.heap.size := hG2.size
                            have hne : gA ≠ w2_A.heap.size := Nat.ne_of_lt hA2.lt
                            have hA3 := hA2.alloc (.cells #[.int .i64 0, .int .i64 0] 30)
                            generalize w2_A.alloc (.cells #[.int .i64 0, .int .i64 0] 30) = w3_B at hG3 hB3 hA3 ⊢
                            generalize w2_A.heap.size = gB at hB3 hlB hne ⊢
                            refine hK.out _ _ ?_ (fun hHeld => ?_)
                            · exact ⟨(HXY.out _ hG3).1.cell 0, (HXY.out _ hG3).1.cell 1, (HXY.out _ hG3).1.cell 2, (HXY.out _ hG3).1.cell 3, (HXY.out _ hG3).1.cell 4, (HXY.out _ hG3).1.cell 5, (HXY.out _ hG3).1.cell 6, (HXY.out _ hG3).1.cell 7, (HXY.out _ hG3).1.cell 8, (HXY.out _ hG3).2.cell 0, (HXY.out _ hG3).2.cell 1, (HXY.out _ hG3).2.cell 2, (HXY.out _ hG3).2.cell 3, (HXY.out _ hG3).2.cell 4, (HXY.out _ hG3).2.cell 5, (HXY.out _ hG3).2.cell 6, (HXY.out _ hG3).2.cell 7, (HXY.out _ hG3).2.cell 8⟩
                            clear hK K
                            try simp only [Act.put, List.setIfInBounds_toArray, List.set_cons_zero, List.set_cons_succ]
                            refine wpAnyH_ready (rs := [3]) (by kernel_rfl) (by simp) ?_
                            refine (AllReadyH.cons (o := { dst := some 50, op := Op.call { callee := Callee.value (Operand.func 109), args := #[Operand.tmp 49], argTypes := #[79] }, type := 30, pos := _, after := #[{ on := 2, ground := Ground.data }, { on := 1, ground := Ground.chain }], guard := none }) rfl (fun K hK => ?_) AllReadyH.nil)
                            go_simp
                            refine (lastsR_c y _).mono ?_
                            rintro e w4_y ⟨rfl, hh⟩
                            have hG4 := hG3.trans hh
                            have hA4 := hA3.quiet hh
                            have hB4 := hB3.quiet hh
                            clear hh
                            refine hK.out _ _ ?_ (fun hHeld => ?_)
                            · exact ⟨(HXY.out _ hG4).1.cell 0, (HXY.out _ hG4).1.cell 1, (HXY.out _ hG4).1.cell 2, (HXY.out _ hG4).1.cell 3, (HXY.out _ hG4).1.cell 4, (HXY.out _ hG4).1.cell 5, (HXY.out _ hG4).1.cell 6, (HXY.out _ hG4).1.cell 7, (HXY.out _ hG4).1.cell 8, (HXY.out _ hG4).2.cell 0, (HXY.out _ hG4).2.cell 1, (HXY.out _ hG4).2.cell 2, (HXY.out _ hG4).2.cell 3, (HXY.out _ hG4).2.cell 4, (HXY.out _ hG4).2.cell 5, (HXY.out _ hG4).2.cell 6, (HXY.out _ hG4).2.cell 7, (HXY.out _ hG4).2.cell 8⟩
                            clear hK K
                            try simp only [Act.put, List.setIfInBounds_toArray, List.set_cons_zero, List.set_cons_succ]
                            refine wpAnyH_ready (rs := [6]) (by kernel_rfl) (by simp) ?_
                            refine (AllReadyH.cons (o := { dst := none, op := Op.store 30 (Operand.tmp 14) (Operand.tmp 48), type := 0, pos := _, after := #[{ on := 4, ground := Ground.data }, { on := 1, ground := Ground.data }, { on := 3, ground := Ground.chain }, { on := 0, ground := Ground.phase }, { on := 1, ground := Ground.phase }, { on := 2, ground := Ground.textOnly Departure.lateStores }, { on := 3, ground := Ground.textOnly Departure.lateStoresUnsure }, { on := 4, ground := Ground.phase }, { on := 5, ground := Ground.phase }], guard := none }) rfl (fun K hK => ?_) AllReadyH.nil)
                            refine st_wp rfl (wp_store_row 30 _ _ rfl (gA) #[.int .i64 x.2.1.1, .int .i64 (toL x)] rfl rfl 30 _ hA4 (wi_info _ _) rfl (wi_one _ _) ?_)
                            have hG5 := hG4.setRow (g := gA) (.inl hlA) #[.int .i64 x.2.1.1, .int .i64 (toL x)]
                            have hA5 := hA4.setRow #[.int .i64 x.2.1.1, .int .i64 (toL x)]
                            have hB5 := hB4.farRow (k := gA) (by omega) #[.int .i64 x.2.1.1, .int .i64 (toL x)]
                            refine hK.out _ _ ?_ (fun hHeld => ?_)
                            · exact ⟨(HXY.out _ hG5).1.cell 0, (HXY.out _ hG5).1.cell 1, (HXY.out _ hG5).1.cell 2, (HXY.out _ hG5).1.cell 3, (HXY.out _ hG5).1.cell 4, (HXY.out _ hG5).1.cell 5, (HXY.out _ hG5).1.cell 6, (HXY.out _ hG5).1.cell 7, (HXY.out _ hG5).1.cell 8, (HXY.out _ hG5).2.cell 0, (HXY.out _ hG5).2.cell 1, (HXY.out _ hG5).2.cell 2, (HXY.out _ hG5).2.cell 3, (HXY.out _ hG5).2.cell 4, (HXY.out _ hG5).2.cell 5, (HXY.out _ hG5).2.cell 6, (HXY.out _ hG5).2.cell 7, (HXY.out _ hG5).2.cell 8⟩
                            clear hK K
                            try simp only [Act.put, List.setIfInBounds_toArray, List.set_cons_zero, List.set_cons_succ]
                            refine wpAnyH_ready (rs := [7]) (by kernel_rfl) (by simp) ?_
                            refine (AllReadyH.cons (o := { dst := none, op := Op.store 30 (Operand.tmp 15) (Operand.tmp 50), type := 0, pos := _, after := #[{ on := 5, ground := Ground.data }, { on := 3, ground := Ground.data }, { on := 6, ground := Ground.chain }, { on := 0, ground := Ground.phase }, { on := 1, ground := Ground.phase }, { on := 2, ground := Ground.phase }, { on := 3, ground := Ground.phase }, { on := 4, ground := Ground.phase }, { on := 5, ground := Ground.phase }, { on := 6, ground := Ground.phase }], guard := none }) rfl (fun K hK => ?_) AllReadyH.nil)
                            refine st_wp rfl (wp_store_row 30 _ _ rfl (gB) #[.int .i64 y.2.1.1, .int .i64 (toL y)] rfl rfl 30 _ hB5 (wi_info _ _) rfl (wi_one _ _) ?_)
                            have hG6 := hG5.setRow (g := gB) (.inl hlB) #[.int .i64 y.2.1.1, .int .i64 (toL y)]
                            have hB6 := hB5.setRow #[.int .i64 y.2.1.1, .int .i64 (toL y)]
                            have hA6 := hA5.farRow (k := gB) (by omega) #[.int .i64 y.2.1.1, .int .i64 (toL y)]
                            refine hK.out _ _ ?_ (fun hHeld => ?_)
                            · exact ⟨(HXY.out _ hG6).1.cell 0, (HXY.out _ hG6).1.cell 1, (HXY.out _ hG6).1.cell 2, (HXY.out _ hG6).1.cell 3, (HXY.out _ hG6).1.cell 4, (HXY.out _ hG6).1.cell 5, (HXY.out _ hG6).1.cell 6, (HXY.out _ hG6).1.cell 7, (HXY.out _ hG6).1.cell 8, (HXY.out _ hG6).2.cell 0, (HXY.out _ hG6).2.cell 1, (HXY.out _ hG6).2.cell 2, (HXY.out _ hG6).2.cell 3, (HXY.out _ hG6).2.cell 4, (HXY.out _ hG6).2.cell 5, (HXY.out _ hG6).2.cell 6, (HXY.out _ hG6).2.cell 7, (HXY.out _ hG6).2.cell 8⟩
                            clear hK K
                            try simp only [Act.put, List.setIfInBounds_toArray, List.set_cons_zero, List.set_cons_succ]
                            refine wpAnyH_done (by kernel_rfl) ?_ _
                            go_wp2_with fail
                            go_meet
                            case rel => exact ⟨_, _, rfl, rfl, hA6, hB6, hG6⟩
                        · go_simp
                          have hG2 := hG1.alloc (.cells #[.int .i64 0, .int .i64 0] 30)
                          have hB2 := Bk.new w1_x 30 #[.int .i64 0, .int .i64 0]
                          have hlB : w10.heap.size ≤ w1_x.heap.size := hG1.size
                          generalize w1_x.alloc (.cells #[.int .i64 0, .int .i64 0] 30) = w2_B at hG2 hB2 ⊢
                          generalize w1_x.heap.size = gB at hB2 hlB ⊢
                          refine hK.out _ _ ?_ (fun hHeld => ?_)
                          · exact ⟨(HXY.out _ hG2).1.cell 0, (HXY.out _ hG2).1.cell 1, (HXY.out _ hG2).1.cell 2, (HXY.out _ hG2).1.cell 3, (HXY.out _ hG2).1.cell 4, (HXY.out _ hG2).1.cell 5, (HXY.out _ hG2).1.cell 6, (HXY.out _ hG2).1.cell 7, (HXY.out _ hG2).1.cell 8, (HXY.out _ hG2).2.cell 0, (HXY.out _ hG2).2.cell 1, (HXY.out _ hG2).2.cell 2, (HXY.out _ hG2).2.cell 3, (HXY.out _ hG2).2.cell 4, (HXY.out _ hG2).2.cell 5, (HXY.out _ hG2).2.cell 6, (HXY.out _ hG2).2.cell 7, (HXY.out _ hG2).2.cell 8⟩
                          clear hK K
                          try simp only [Act.put, List.setIfInBounds_toArray, List.set_cons_zero, List.set_cons_succ]
                          refine wpAnyH_ready (rs := [3, 4]) (by kernel_rfl) (by simp) ?_
                          refine (AllReadyH.cons (o := { dst := some 50, op := Op.call { callee := Callee.value (Operand.func 109), args := #[Operand.tmp 49], argTypes := #[79] }, type := 30, pos := _, after := #[{ on := 2, ground := Ground.data }, { on := 1, ground := Ground.chain }], guard := none }) rfl (fun K hK => ?_) (AllReadyH.cons (o := { dst := some 14, op := Op.alloc 30, type := 0, pos := _, after := #[], guard := none }) rfl (fun K hK => ?_) AllReadyH.nil))
                          · go_simp
                            refine (lastsR_c y _).mono ?_
                            rintro e w3_y ⟨rfl, hh⟩
                            have hG3 := hG2.trans hh
                            have hB3 := hB2.quiet hh
                            clear hh
                            refine hK.out _ _ ?_ (fun hHeld => ?_)
                            · exact ⟨(HXY.out _ hG3).1.cell 0, (HXY.out _ hG3).1.cell 1, (HXY.out _ hG3).1.cell 2, (HXY.out _ hG3).1.cell 3, (HXY.out _ hG3).1.cell 4, (HXY.out _ hG3).1.cell 5, (HXY.out _ hG3).1.cell 6, (HXY.out _ hG3).1.cell 7, (HXY.out _ hG3).1.cell 8, (HXY.out _ hG3).2.cell 0, (HXY.out _ hG3).2.cell 1, (HXY.out _ hG3).2.cell 2, (HXY.out _ hG3).2.cell 3, (HXY.out _ hG3).2.cell 4, (HXY.out _ hG3).2.cell 5, (HXY.out _ hG3).2.cell 6, (HXY.out _ hG3).2.cell 7, (HXY.out _ hG3).2.cell 8⟩
                            clear hK K
                            try simp only [Act.put, List.setIfInBounds_toArray, List.set_cons_zero, List.set_cons_succ]
                            refine wpAnyH_ready (rs := [4]) (by kernel_rfl) (by simp) ?_
                            refine (AllReadyH.cons (o := { dst := some 14, op := Op.alloc 30, type := 0, pos := _, after := #[], guard := none }) rfl (fun K hK => ?_) AllReadyH.nil)
                            go_simp
                            have hG4 := hG3.alloc (.cells #[.int .i64 0, .int .i64 0] 30)
                            have hA4 := Bk.new w3_y 30 #[.int .i64 0, .int .i64 0]
                            have hlA : w10.heap.size ≤ w3_y.heap.size := hG3.size
                            have hne : gB ≠ w3_y.heap.size := Nat.ne_of_lt hB3.lt
                            have hB4 := hB3.alloc (.cells #[.int .i64 0, .int .i64 0] 30)
                            generalize w3_y.alloc (.cells #[.int .i64 0, .int .i64 0] 30) = w4_A at hG4 hA4 hB4 ⊢
                            generalize w3_y.heap.size = gA at hA4 hlA hne ⊢
                            refine hK.out _ _ ?_ (fun hHeld => ?_)
                            · exact ⟨(HXY.out _ hG4).1.cell 0, (HXY.out _ hG4).1.cell 1, (HXY.out _ hG4).1.cell 2, (HXY.out _ hG4).1.cell 3, (HXY.out _ hG4).1.cell 4, (HXY.out _ hG4).1.cell 5, (HXY.out _ hG4).1.cell 6, (HXY.out _ hG4).1.cell 7, (HXY.out _ hG4).1.cell 8, (HXY.out _ hG4).2.cell 0, (HXY.out _ hG4).2.cell 1, (HXY.out _ hG4).2.cell 2, (HXY.out _ hG4).2.cell 3, (HXY.out _ hG4).2.cell 4, (HXY.out _ hG4).2.cell 5, (HXY.out _ hG4).2.cell 6, (HXY.out _ hG4).2.cell 7, (HXY.out _ hG4).2.cell 8⟩
                            clear hK K
                            try simp only [Act.put, List.setIfInBounds_toArray, List.set_cons_zero, List.set_cons_succ]
                            refine wpAnyH_ready (rs := [6]) (by kernel_rfl) (by simp) ?_
                            refine (AllReadyH.cons (o := { dst := none, op := Op.store 30 (Operand.tmp 14) (Operand.tmp 48), type := 0, pos := _, after := #[{ on := 4, ground := Ground.data }, { on := 1, ground := Ground.data }, { on := 3, ground := Ground.chain }, { on := 0, ground := Ground.phase }, { on := 1, ground := Ground.phase }, { on := 2, ground := Ground.textOnly Departure.lateStores }, { on := 3, ground := Ground.textOnly Departure.lateStoresUnsure }, { on := 4, ground := Ground.phase }, { on := 5, ground := Ground.phase }], guard := none }) rfl (fun K hK => ?_) AllReadyH.nil)
                            refine st_wp rfl (wp_store_row 30 _ _ rfl (gA) #[.int .i64 x.2.1.1, .int .i64 (toL x)] rfl rfl 30 _ hA4 (wi_info _ _) rfl (wi_one _ _) ?_)
                            have hG5 := hG4.setRow (g := gA) (.inl hlA) #[.int .i64 x.2.1.1, .int .i64 (toL x)]
                            have hA5 := hA4.setRow #[.int .i64 x.2.1.1, .int .i64 (toL x)]
                            have hB5 := hB4.farRow (k := gA) (by omega) #[.int .i64 x.2.1.1, .int .i64 (toL x)]
                            refine hK.out _ _ ?_ (fun hHeld => ?_)
                            · exact ⟨(HXY.out _ hG5).1.cell 0, (HXY.out _ hG5).1.cell 1, (HXY.out _ hG5).1.cell 2, (HXY.out _ hG5).1.cell 3, (HXY.out _ hG5).1.cell 4, (HXY.out _ hG5).1.cell 5, (HXY.out _ hG5).1.cell 6, (HXY.out _ hG5).1.cell 7, (HXY.out _ hG5).1.cell 8, (HXY.out _ hG5).2.cell 0, (HXY.out _ hG5).2.cell 1, (HXY.out _ hG5).2.cell 2, (HXY.out _ hG5).2.cell 3, (HXY.out _ hG5).2.cell 4, (HXY.out _ hG5).2.cell 5, (HXY.out _ hG5).2.cell 6, (HXY.out _ hG5).2.cell 7, (HXY.out _ hG5).2.cell 8⟩
                            clear hK K
                            try simp only [Act.put, List.setIfInBounds_toArray, List.set_cons_zero, List.set_cons_succ]
                            refine wpAnyH_ready (rs := [7]) (by kernel_rfl) (by simp) ?_
                            refine (AllReadyH.cons (o := { dst := none, op := Op.store 30 (Operand.tmp 15) (Operand.tmp 50), type := 0, pos := _, after := #[{ on := 5, ground := Ground.data }, { on := 3, ground := Ground.data }, { on := 6, ground := Ground.chain }, { on := 0, ground := Ground.phase }, { on := 1, ground := Ground.phase }, { on := 2, ground := Ground.phase }, { on := 3, ground := Ground.phase }, { on := 4, ground := Ground.phase }, { on := 5, ground := Ground.phase }, { on := 6, ground := Ground.phase }], guard := none }) rfl (fun K hK => ?_) AllReadyH.nil)
                            refine st_wp rfl (wp_store_row 30 _ _ rfl (gB) #[.int .i64 y.2.1.1, .int .i64 (toL y)] rfl rfl 30 _ hB5 (wi_info _ _) rfl (wi_one _ _) ?_)
                            have hG6 := hG5.setRow (g := gB) (.inl hlB) #[.int .i64 y.2.1.1, .int .i64 (toL y)]
                            have hB6 := hB5.setRow #[.int .i64 y.2.1.1, .int .i64 (toL y)]
                            have hA6 := hA5.farRow (k := gB) (by omega) #[.int .i64 y.2.1.1, .int .i64 (toL y)]
                            refine hK.out _ _ ?_ (fun hHeld => ?_)
                            · exact ⟨(HXY.out _ hG6).1.cell 0, (HXY.out _ hG6).1.cell 1, (HXY.out _ hG6).1.cell 2, (HXY.out _ hG6).1.cell 3, (HXY.out _ hG6).1.cell 4, (HXY.out _ hG6).1.cell 5, (HXY.out _ hG6).1.cell 6, (HXY.out _ hG6).1.cell 7, (HXY.out _ hG6).1.cell 8, (HXY.out _ hG6).2.cell 0, (HXY.out _ hG6).2.cell 1, (HXY.out _ hG6).2.cell 2, (HXY.out _ hG6).2.cell 3, (HXY.out _ hG6).2.cell 4, (HXY.out _ hG6).2.cell 5, (HXY.out _ hG6).2.cell 6, (HXY.out _ hG6).2.cell 7, (HXY.out _ hG6).2.cell 8⟩
                            clear hK K
                            try simp only [Act.put, List.setIfInBounds_toArray, List.set_cons_zero, List.set_cons_succ]
                            refine wpAnyH_done (by kernel_rfl) ?_ _
                            go_wp2_with fail
                            go_meet
                            case rel => exact ⟨_, _, rfl, rfl, hA6, hB6, hG6⟩
                          · go_simp
                            have hG3 := hG2.alloc (.cells #[.int .i64 0, .int .i64 0] 30)
                            have hA3 := Bk.new w2_B 30 #[.int .i64 0, .int .i64 0]
                            have hlA : w10.heap.size ≤ w2_B.heap.size := hG2.size
                            have hne : gB ≠ w2_B.heap.size := Nat.ne_of_lt hB2.lt
                            have hB3 := hB2.alloc (.cells #[.int .i64 0, .int .i64 0] 30)
                            generalize w2_B.alloc (.cells #[.int .i64 0, .int .i64 0] 30) = w3_A at hG3 hA3 hB3 ⊢
                            generalize w2_B.heap.size = gA at hA3 hlA hne ⊢
                            refine hK.out _ _ ?_ (fun hHeld => ?_)
                            · exact ⟨(HXY.out _ hG3).1.cell 0, (HXY.out _ hG3).1.cell 1, (HXY.out _ hG3).1.cell 2, (HXY.out _ hG3).1.cell 3, (HXY.out _ hG3).1.cell 4, (HXY.out _ hG3).1.cell 5, (HXY.out _ hG3).1.cell 6, (HXY.out _ hG3).1.cell 7, (HXY.out _ hG3).1.cell 8, (HXY.out _ hG3).2.cell 0, (HXY.out _ hG3).2.cell 1, (HXY.out _ hG3).2.cell 2, (HXY.out _ hG3).2.cell 3, (HXY.out _ hG3).2.cell 4, (HXY.out _ hG3).2.cell 5, (HXY.out _ hG3).2.cell 6, (HXY.out _ hG3).2.cell 7, (HXY.out _ hG3).2.cell 8⟩
                            clear hK K
                            try simp only [Act.put, List.setIfInBounds_toArray, List.set_cons_zero, List.set_cons_succ]
                            refine wpAnyH_ready (rs := [3]) (by kernel_rfl) (by simp) ?_
                            refine (AllReadyH.cons (o := { dst := some 50, op := Op.call { callee := Callee.value (Operand.func 109), args := #[Operand.tmp 49], argTypes := #[79] }, type := 30, pos := _, after := #[{ on := 2, ground := Ground.data }, { on := 1, ground := Ground.chain }], guard := none }) rfl (fun K hK => ?_) AllReadyH.nil)
                            go_simp
                            refine (lastsR_c y _).mono ?_
                            rintro e w4_y ⟨rfl, hh⟩
                            have hG4 := hG3.trans hh
                            have hA4 := hA3.quiet hh
                            have hB4 := hB3.quiet hh
                            clear hh
                            refine hK.out _ _ ?_ (fun hHeld => ?_)
                            · exact ⟨(HXY.out _ hG4).1.cell 0, (HXY.out _ hG4).1.cell 1, (HXY.out _ hG4).1.cell 2, (HXY.out _ hG4).1.cell 3, (HXY.out _ hG4).1.cell 4, (HXY.out _ hG4).1.cell 5, (HXY.out _ hG4).1.cell 6, (HXY.out _ hG4).1.cell 7, (HXY.out _ hG4).1.cell 8, (HXY.out _ hG4).2.cell 0, (HXY.out _ hG4).2.cell 1, (HXY.out _ hG4).2.cell 2, (HXY.out _ hG4).2.cell 3, (HXY.out _ hG4).2.cell 4, (HXY.out _ hG4).2.cell 5, (HXY.out _ hG4).2.cell 6, (HXY.out _ hG4).2.cell 7, (HXY.out _ hG4).2.cell 8⟩
                            clear hK K
                            try simp only [Act.put, List.setIfInBounds_toArray, List.set_cons_zero, List.set_cons_succ]
                            refine wpAnyH_ready (rs := [6]) (by kernel_rfl) (by simp) ?_
                            refine (AllReadyH.cons (o := { dst := none, op := Op.store 30 (Operand.tmp 14) (Operand.tmp 48), type := 0, pos := _, after := #[{ on := 4, ground := Ground.data }, { on := 1, ground := Ground.data }, { on := 3, ground := Ground.chain }, { on := 0, ground := Ground.phase }, { on := 1, ground := Ground.phase }, { on := 2, ground := Ground.textOnly Departure.lateStores }, { on := 3, ground := Ground.textOnly Departure.lateStoresUnsure }, { on := 4, ground := Ground.phase }, { on := 5, ground := Ground.phase }], guard := none }) rfl (fun K hK => ?_) AllReadyH.nil)
                            refine st_wp rfl (wp_store_row 30 _ _ rfl (gA) #[.int .i64 x.2.1.1, .int .i64 (toL x)] rfl rfl 30 _ hA4 (wi_info _ _) rfl (wi_one _ _) ?_)
                            have hG5 := hG4.setRow (g := gA) (.inl hlA) #[.int .i64 x.2.1.1, .int .i64 (toL x)]
                            have hA5 := hA4.setRow #[.int .i64 x.2.1.1, .int .i64 (toL x)]
                            have hB5 := hB4.farRow (k := gA) (by omega) #[.int .i64 x.2.1.1, .int .i64 (toL x)]
                            refine hK.out _ _ ?_ (fun hHeld => ?_)
                            · exact ⟨(HXY.out _ hG5).1.cell 0, (HXY.out _ hG5).1.cell 1, (HXY.out _ hG5).1.cell 2, (HXY.out _ hG5).1.cell 3, (HXY.out _ hG5).1.cell 4, (HXY.out _ hG5).1.cell 5, (HXY.out _ hG5).1.cell 6, (HXY.out _ hG5).1.cell 7, (HXY.out _ hG5).1.cell 8, (HXY.out _ hG5).2.cell 0, (HXY.out _ hG5).2.cell 1, (HXY.out _ hG5).2.cell 2, (HXY.out _ hG5).2.cell 3, (HXY.out _ hG5).2.cell 4, (HXY.out _ hG5).2.cell 5, (HXY.out _ hG5).2.cell 6, (HXY.out _ hG5).2.cell 7, (HXY.out _ hG5).2.cell 8⟩
                            clear hK K
                            try simp only [Act.put, List.setIfInBounds_toArray, List.set_cons_zero, List.set_cons_succ]
                            refine wpAnyH_ready (rs := [7]) (by kernel_rfl) (by simp) ?_
                            refine (AllReadyH.cons (o := { dst := none, op := Op.store 30 (Operand.tmp 15) (Operand.tmp 50), type := 0, pos := _, after := #[{ on := 5, ground := Ground.data }, { on := 3, ground := Ground.data }, { on := 6, ground := Ground.chain }, { on := 0, ground := Ground.phase }, { on := 1, ground := Ground.phase }, { on := 2, ground := Ground.phase }, { on := 3, ground := Ground.phase }, { on := 4, ground := Ground.phase }, { on := 5, ground := Ground.phase }, { on := 6, ground := Ground.phase }], guard := none }) rfl (fun K hK => ?_) AllReadyH.nil)
                            refine st_wp rfl (wp_store_row 30 _ _ rfl (gB) #[.int .i64 y.2.1.1, .int .i64 (toL y)] rfl rfl 30 _ hB5 (wi_info _ _) rfl (wi_one _ _) ?_)
                            have hG6 := hG5.setRow (g := gB) (.inl hlB) #[.int .i64 y.2.1.1, .int .i64 (toL y)]
                            have hB6 := hB5.setRow #[.int .i64 y.2.1.1, .int .i64 (toL y)]
                            have hA6 := hA5.farRow (k := gB) (by omega) #[.int .i64 y.2.1.1, .int .i64 (toL y)]
                            refine hK.out _ _ ?_ (fun hHeld => ?_)
                            · exact ⟨(HXY.out _ hG6).1.cell 0, (HXY.out _ hG6).1.cell 1, (HXY.out _ hG6).1.cell 2, (HXY.out _ hG6).1.cell 3, (HXY.out _ hG6).1.cell 4, (HXY.out _ hG6).1.cell 5, (HXY.out _ hG6).1.cell 6, (HXY.out _ hG6).1.cell 7, (HXY.out _ hG6).1.cell 8, (HXY.out _ hG6).2.cell 0, (HXY.out _ hG6).2.cell 1, (HXY.out _ hG6).2.cell 2, (HXY.out _ hG6).2.cell 3, (HXY.out _ hG6).2.cell 4, (HXY.out _ hG6).2.cell 5, (HXY.out _ hG6).2.cell 6, (HXY.out _ hG6).2.cell 7, (HXY.out _ hG6).2.cell 8⟩
                            clear hK K
                            try simp only [Act.put, List.setIfInBounds_toArray, List.set_cons_zero, List.set_cons_succ]
                            refine wpAnyH_done (by kernel_rfl) ?_ _
                            go_wp2_with fail
                            go_meet
                            case rel => exact ⟨_, _, rfl, rfl, hA6, hB6, hG6⟩
                      · go_simp
                        have hG1 := hG0.alloc (.cells #[.int .i64 0, .int .i64 0] 30)
                        have hA1 := Bk.new wd 30 #[.int .i64 0, .int .i64 0]
                        have hlA : w10.heap.size ≤ wd.heap.size := hG0.size
                        generalize wd.alloc (.cells #[.int .i64 0, .int .i64 0] 30) = w1_A at hG1 hA1 ⊢
                        generalize wd.heap.size = gA at hA1 hlA ⊢
                        refine hK.out _ _ ?_ (fun hHeld => ?_)
                        · exact ⟨(HXY.out _ hG1).1.cell 0, (HXY.out _ hG1).1.cell 1, (HXY.out _ hG1).1.cell 2, (HXY.out _ hG1).1.cell 3, (HXY.out _ hG1).1.cell 4, (HXY.out _ hG1).1.cell 5, (HXY.out _ hG1).1.cell 6, (HXY.out _ hG1).1.cell 7, (HXY.out _ hG1).1.cell 8, (HXY.out _ hG1).2.cell 0, (HXY.out _ hG1).2.cell 1, (HXY.out _ hG1).2.cell 2, (HXY.out _ hG1).2.cell 3, (HXY.out _ hG1).2.cell 4, (HXY.out _ hG1).2.cell 5, (HXY.out _ hG1).2.cell 6, (HXY.out _ hG1).2.cell 7, (HXY.out _ hG1).2.cell 8⟩
                        clear hK K
                        try simp only [Act.put, List.setIfInBounds_toArray, List.set_cons_zero, List.set_cons_succ]
                        refine wpAnyH_ready (rs := [1, 5]) (by kernel_rfl) (by simp) ?_
                        refine (AllReadyH.cons (o := { dst := some 48, op := Op.call { callee := Callee.value (Operand.func 109), args := #[Operand.tmp 47], argTypes := #[79] }, type := 30, pos := _, after := #[{ on := 0, ground := Ground.data }], guard := none }) rfl (fun K hK => ?_) (AllReadyH.cons (o := { dst := some 15, op := Op.alloc 30, type := 0, pos := _, after := #[], guard := none }) rfl (fun K hK => ?_) AllReadyH.nil))
                        · go_simp
                          refine (lastsR_c x _).mono ?_
                          rintro e w2_x ⟨rfl, hh⟩
                          have hG2 := hG1.trans hh
                          have hA2 := hA1.quiet hh
                          clear hh
                          refine hK.out _ _ ?_ (fun hHeld => ?_)
                          · exact ⟨(HXY.out _ hG2).1.cell 0, (HXY.out _ hG2).1.cell 1, (HXY.out _ hG2).1.cell 2, (HXY.out _ hG2).1.cell 3, (HXY.out _ hG2).1.cell 4, (HXY.out _ hG2).1.cell 5, (HXY.out _ hG2).1.cell 6, (HXY.out _ hG2).1.cell 7, (HXY.out _ hG2).1.cell 8, (HXY.out _ hG2).2.cell 0, (HXY.out _ hG2).2.cell 1, (HXY.out _ hG2).2.cell 2, (HXY.out _ hG2).2.cell 3, (HXY.out _ hG2).2.cell 4, (HXY.out _ hG2).2.cell 5, (HXY.out _ hG2).2.cell 6, (HXY.out _ hG2).2.cell 7, (HXY.out _ hG2).2.cell 8⟩
                          clear hK K
                          try simp only [Act.put, List.setIfInBounds_toArray, List.set_cons_zero, List.set_cons_succ]
                          refine wpAnyH_ready (rs := [3, 5]) (by kernel_rfl) (by simp) ?_
                          refine (AllReadyH.cons (o := { dst := some 50, op := Op.call { callee := Callee.value (Operand.func 109), args := #[Operand.tmp 49], argTypes := #[79] }, type := 30, pos := _, after := #[{ on := 2, ground := Ground.data }, { on := 1, ground := Ground.chain }], guard := none }) rfl (fun K hK => ?_) (AllReadyH.cons (o := { dst := some 15, op := Op.alloc 30, type := 0, pos := _, after := #[], guard := none }) rfl (fun K hK => ?_) AllReadyH.nil))
                          · go_simp
                            refine (lastsR_c y _).mono ?_
                            rintro e w3_y ⟨rfl, hh⟩
                            have hG3 := hG2.trans hh
                            have hA3 := hA2.quiet hh
                            clear hh
                            refine hK.out _ _ ?_ (fun hHeld => ?_)
                            · exact ⟨(HXY.out _ hG3).1.cell 0, (HXY.out _ hG3).1.cell 1, (HXY.out _ hG3).1.cell 2, (HXY.out _ hG3).1.cell 3, (HXY.out _ hG3).1.cell 4, (HXY.out _ hG3).1.cell 5, (HXY.out _ hG3).1.cell 6, (HXY.out _ hG3).1.cell 7, (HXY.out _ hG3).1.cell 8, (HXY.out _ hG3).2.cell 0, (HXY.out _ hG3).2.cell 1, (HXY.out _ hG3).2.cell 2, (HXY.out _ hG3).2.cell 3, (HXY.out _ hG3).2.cell 4, (HXY.out _ hG3).2.cell 5, (HXY.out _ hG3).2.cell 6, (HXY.out _ hG3).2.cell 7, (HXY.out _ hG3).2.cell 8⟩
                            clear hK K
                            try simp only [Act.put, List.setIfInBounds_toArray, List.set_cons_zero, List.set_cons_succ]
                            refine wpAnyH_ready (rs := [5]) (by kernel_rfl) (by simp) ?_
                            refine (AllReadyH.cons (o := { dst := some 15, op := Op.alloc 30, type := 0, pos := _, after := #[], guard := none }) rfl (fun K hK => ?_) AllReadyH.nil)
                            go_simp
                            have hG4 := hG3.alloc (.cells #[.int .i64 0, .int .i64 0] 30)
                            have hB4 := Bk.new w3_y 30 #[.int .i64 0, .int .i64 0]
                            have hlB : w10.heap.size ≤ w3_y.heap.size := hG3.size
                            have hne : gA ≠ w3_y.heap.size := Nat.ne_of_lt hA3.lt
                            have hA4 := hA3.alloc (.cells #[.int .i64 0, .int .i64 0] 30)
                            generalize w3_y.alloc (.cells #[.int .i64 0, .int .i64 0] 30) = w4_B at hG4 hB4 hA4 ⊢
                            generalize w3_y.heap.size = gB at hB4 hlB hne ⊢
                            refine hK.out _ _ ?_ (fun hHeld => ?_)
                            · exact ⟨(HXY.out _ hG4).1.cell 0, (HXY.out _ hG4).1.cell 1, (HXY.out _ hG4).1.cell 2, (HXY.out _ hG4).1.cell 3, (HXY.out _ hG4).1.cell 4, (HXY.out _ hG4).1.cell 5, (HXY.out _ hG4).1.cell 6, (HXY.out _ hG4).1.cell 7, (HXY.out _ hG4).1.cell 8, (HXY.out _ hG4).2.cell 0, (HXY.out _ hG4).2.cell 1, (HXY.out _ hG4).2.cell 2, (HXY.out _ hG4).2.cell 3, (HXY.out _ hG4).2.cell 4, (HXY.out _ hG4).2.cell 5, (HXY.out _ hG4).2.cell 6, (HXY.out _ hG4).2.cell 7, (HXY.out _ hG4).2.cell 8⟩
                            clear hK K
                            try simp only [Act.put, List.setIfInBounds_toArray, List.set_cons_zero, List.set_cons_succ]
                            refine wpAnyH_ready (rs := [6]) (by kernel_rfl) (by simp) ?_
                            refine (AllReadyH.cons (o := { dst := none, op := Op.store 30 (Operand.tmp 14) (Operand.tmp 48), type := 0, pos := _, after := #[{ on := 4, ground := Ground.data }, { on := 1, ground := Ground.data }, { on := 3, ground := Ground.chain }, { on := 0, ground := Ground.phase }, { on := 1, ground := Ground.phase }, { on := 2, ground := Ground.textOnly Departure.lateStores }, { on := 3, ground := Ground.textOnly Departure.lateStoresUnsure }, { on := 4, ground := Ground.phase }, { on := 5, ground := Ground.phase }], guard := none }) rfl (fun K hK => ?_) AllReadyH.nil)
                            refine st_wp rfl (wp_store_row 30 _ _ rfl (gA) #[.int .i64 x.2.1.1, .int .i64 (toL x)] rfl rfl 30 _ hA4 (wi_info _ _) rfl (wi_one _ _) ?_)
                            have hG5 := hG4.setRow (g := gA) (.inl hlA) #[.int .i64 x.2.1.1, .int .i64 (toL x)]
                            have hA5 := hA4.setRow #[.int .i64 x.2.1.1, .int .i64 (toL x)]
                            have hB5 := hB4.farRow (k := gA) (by omega) #[.int .i64 x.2.1.1, .int .i64 (toL x)]
                            refine hK.out _ _ ?_ (fun hHeld => ?_)
                            · exact ⟨(HXY.out _ hG5).1.cell 0, (HXY.out _ hG5).1.cell 1, (HXY.out _ hG5).1.cell 2, (HXY.out _ hG5).1.cell 3, (HXY.out _ hG5).1.cell 4, (HXY.out _ hG5).1.cell 5, (HXY.out _ hG5).1.cell 6, (HXY.out _ hG5).1.cell 7, (HXY.out _ hG5).1.cell 8, (HXY.out _ hG5).2.cell 0, (HXY.out _ hG5).2.cell 1, (HXY.out _ hG5).2.cell 2, (HXY.out _ hG5).2.cell 3, (HXY.out _ hG5).2.cell 4, (HXY.out _ hG5).2.cell 5, (HXY.out _ hG5).2.cell 6, (HXY.out _ hG5).2.cell 7, (HXY.out _ hG5).2.cell 8⟩
                            clear hK K
                            try simp only [Act.put, List.setIfInBounds_toArray, List.set_cons_zero, List.set_cons_succ]
                            refine wpAnyH_ready (rs := [7]) (by kernel_rfl) (by simp) ?_
                            refine (AllReadyH.cons (o := { dst := none, op := Op.store 30 (Operand.tmp 15) (Operand.tmp 50), type := 0, pos := _, after := #[{ on := 5, ground := Ground.data }, { on := 3, ground := Ground.data }, { on := 6, ground := Ground.chain }, { on := 0, ground := Ground.phase }, { on := 1, ground := Ground.phase }, { on := 2, ground := Ground.phase }, { on := 3, ground := Ground.phase }, { on := 4, ground := Ground.phase }, { on := 5, ground := Ground.phase }, { on := 6, ground := Ground.phase }], guard := none }) rfl (fun K hK => ?_) AllReadyH.nil)
                            refine st_wp rfl (wp_store_row 30 _ _ rfl (gB) #[.int .i64 y.2.1.1, .int .i64 (toL y)] rfl rfl 30 _ hB5 (wi_info _ _) rfl (wi_one _ _) ?_)
                            have hG6 := hG5.setRow (g := gB) (.inl hlB) #[.int .i64 y.2.1.1, .int .i64 (toL y)]
                            have hB6 := hB5.setRow #[.int .i64 y.2.1.1, .int .i64 (toL y)]
                            have hA6 := hA5.farRow (k := gB) (by omega) #[.int .i64 y.2.1.1, .int .i64 (toL y)]
                            refine hK.out _ _ ?_ (fun hHeld => ?_)
                            · exact ⟨(HXY.out _ hG6).1.cell 0, (HXY.out _ hG6).1.cell 1, (HXY.out _ hG6).1.cell 2, (HXY.out _ hG6).1.cell 3, (HXY.out _ hG6).1.cell 4, (HXY.out _ hG6).1.cell 5, (HXY.out _ hG6).1.cell 6, (HXY.out _ hG6).1.cell 7, (HXY.out _ hG6).1.cell 8, (HXY.out _ hG6).2.cell 0, (HXY.out _ hG6).2.cell 1, (HXY.out _ hG6).2.cell 2, (HXY.out _ hG6).2.cell 3, (HXY.out _ hG6).2.cell 4, (HXY.out _ hG6).2.cell 5, (HXY.out _ hG6).2.cell 6, (HXY.out _ hG6).2.cell 7, (HXY.out _ hG6).2.cell 8⟩
                            clear hK K
                            try simp only [Act.put, List.setIfInBounds_toArray, List.set_cons_zero, List.set_cons_succ]
                            refine wpAnyH_done (by kernel_rfl) ?_ _
                            go_wp2_with fail
                            go_meet
                            case rel => exact ⟨_, _, rfl, rfl, hA6, hB6, hG6⟩
                          · go_simp
                            have hG3 := hG2.alloc (.cells #[.int .i64 0, .int .i64 0] 30)
                            have hB3 := Bk.new w2_x 30 #[.int .i64 0, .int .i64 0]
                            have hlB : w10.heap.size ≤ w2_x.heap.size := hG2.size
                            have hne : gA ≠ w2_x.heap.size := Nat.ne_of_lt hA2.lt
                            have hA3 := hA2.alloc (.cells #[.int .i64 0, .int .i64 0] 30)
                            generalize w2_x.alloc (.cells #[.int .i64 0, .int .i64 0] 30) = w3_B at hG3 hB3 hA3 ⊢
                            generalize w2_x.heap.size = gB at hB3 hlB hne ⊢
                            refine hK.out _ _ ?_ (fun hHeld => ?_)
                            · exact ⟨(HXY.out _ hG3).1.cell 0, (HXY.out _ hG3).1.cell 1, (HXY.out _ hG3).1.cell 2, (HXY.out _ hG3).1.cell 3, (HXY.out _ hG3).1.cell 4, (HXY.out _ hG3).1.cell 5, (HXY.out _ hG3).1.cell 6, (HXY.out _ hG3).1.cell 7, (HXY.out _ hG3).1.cell 8, (HXY.out _ hG3).2.cell 0, (HXY.out _ hG3).2.cell 1, (HXY.out _ hG3).2.cell 2, (HXY.out _ hG3).2.cell 3, (HXY.out _ hG3).2.cell 4, (HXY.out _ hG3).2.cell 5, (HXY.out _ hG3).2.cell 6, (HXY.out _ hG3).2.cell 7, (HXY.out _ hG3).2.cell 8⟩
                            clear hK K
                            try simp only [Act.put, List.setIfInBounds_toArray, List.set_cons_zero, List.set_cons_succ]
                            refine wpAnyH_ready (rs := [3]) (by kernel_rfl) (by simp) ?_
                            refine (AllReadyH.cons (o := { dst := some 50, op := Op.call { callee := Callee.value (Operand.func 109), args := #[Operand.tmp 49], argTypes := #[79] }, type := 30, pos := _, after := #[{ on := 2, ground := Ground.data }, { on := 1, ground := Ground.chain }], guard := none }) rfl (fun K hK => ?_) AllReadyH.nil)
                            go_simp
                            refine (lastsR_c y _).mono ?_
                            rintro e w4_y ⟨rfl, hh⟩
                            have hG4 := hG3.trans hh
                            have hA4 := hA3.quiet hh
                            have hB4 := hB3.quiet hh
                            clear hh
                            refine hK.out _ _ ?_ (fun hHeld => ?_)
                            · exact ⟨(HXY.out _ hG4).1.cell 0, (HXY.out _ hG4).1.cell 1, (HXY.out _ hG4).1.cell 2, (HXY.out _ hG4).1.cell 3, (HXY.out _ hG4).1.cell 4, (HXY.out _ hG4).1.cell 5, (HXY.out _ hG4).1.cell 6, (HXY.out _ hG4).1.cell 7, (HXY.out _ hG4).1.cell 8, (HXY.out _ hG4).2.cell 0, (HXY.out _ hG4).2.cell 1, (HXY.out _ hG4).2.cell 2, (HXY.out _ hG4).2.cell 3, (HXY.out _ hG4).2.cell 4, (HXY.out _ hG4).2.cell 5, (HXY.out _ hG4).2.cell 6, (HXY.out _ hG4).2.cell 7, (HXY.out _ hG4).2.cell 8⟩
                            clear hK K
                            try simp only [Act.put, List.setIfInBounds_toArray, List.set_cons_zero, List.set_cons_succ]
                            refine wpAnyH_ready (rs := [6]) (by kernel_rfl) (by simp) ?_
                            refine (AllReadyH.cons (o := { dst := none, op := Op.store 30 (Operand.tmp 14) (Operand.tmp 48), type := 0, pos := _, after := #[{ on := 4, ground := Ground.data }, { on := 1, ground := Ground.data }, { on := 3, ground := Ground.chain }, { on := 0, ground := Ground.phase }, { on := 1, ground := Ground.phase }, { on := 2, ground := Ground.textOnly Departure.lateStores }, { on := 3, ground := Ground.textOnly Departure.lateStoresUnsure }, { on := 4, ground := Ground.phase }, { on := 5, ground := Ground.phase }], guard := none }) rfl (fun K hK => ?_) AllReadyH.nil)
                            refine st_wp rfl (wp_store_row 30 _ _ rfl (gA) #[.int .i64 x.2.1.1, .int .i64 (toL x)] rfl rfl 30 _ hA4 (wi_info _ _) rfl (wi_one _ _) ?_)
                            have hG5 := hG4.setRow (g := gA) (.inl hlA) #[.int .i64 x.2.1.1, .int .i64 (toL x)]
                            have hA5 := hA4.setRow #[.int .i64 x.2.1.1, .int .i64 (toL x)]
                            have hB5 := hB4.farRow (k := gA) (by omega) #[.int .i64 x.2.1.1, .int .i64 (toL x)]
                            refine hK.out _ _ ?_ (fun hHeld => ?_)
                            · exact ⟨(HXY.out _ hG5).1.cell 0, (HXY.out _ hG5).1.cell 1, (HXY.out _ hG5).1.cell 2, (HXY.out _ hG5).1.cell 3, (HXY.out _ hG5).1.cell 4, (HXY.out _ hG5).1.cell 5, (HXY.out _ hG5).1.cell 6, (HXY.out _ hG5).1.cell 7, (HXY.out _ hG5).1.cell 8, (HXY.out _ hG5).2.cell 0, (HXY.out _ hG5).2.cell 1, (HXY.out _ hG5).2.cell 2, (HXY.out _ hG5).2.cell 3, (HXY.out _ hG5).2.cell 4, (HXY.out _ hG5).2.cell 5, (HXY.out _ hG5).2.cell 6, (HXY.out _ hG5).2.cell 7, (HXY.out _ hG5).2.cell 8⟩
                            clear hK K
                            try simp only [Act.put, List.setIfInBounds_toArray, List.set_cons_zero, List.set_cons_succ]
                            refine wpAnyH_ready (rs := [7]) (by kernel_rfl) (by simp) ?_
                            refine (AllReadyH.cons (o := { dst := none, op := Op.store 30 (Operand.tmp 15) (Operand.tmp 50), type := 0, pos := _, after := #[{ on := 5, ground := Ground.data }, { on := 3, ground := Ground.data }, { on := 6, ground := Ground.chain }, { on := 0, ground := Ground.phase }, { on := 1, ground := Ground.phase }, { on := 2, ground := Ground.phase }, { on := 3, ground := Ground.phase }, { on := 4, ground := Ground.phase }, { on := 5, ground := Ground.phase }, { on := 6, ground := Ground.phase }], guard := none }) rfl (fun K hK => ?_) AllReadyH.nil)
                            refine st_wp rfl (wp_store_row 30 _ _ rfl (gB) #[.int .i64 y.2.1.1, .int .i64 (toL y)] rfl rfl 30 _ hB5 (wi_info _ _) rfl (wi_one _ _) ?_)
                            have hG6 := hG5.setRow (g := gB) (.inl hlB) #[.int .i64 y.2.1.1, .int .i64 (toL y)]
                            have hB6 := hB5.setRow #[.int .i64 y.2.1.1, .int .i64 (toL y)]
                            have hA6 := hA5.farRow (k := gB) (by omega) #[.int .i64 y.2.1.1, .int .i64 (toL y)]
                            refine hK.out _ _ ?_ (fun hHeld => ?_)
                            · exact ⟨(HXY.out _ hG6).1.cell 0, (HXY.out _ hG6).1.cell 1, (HXY.out _ hG6).1.cell 2, (HXY.out _ hG6).1.cell 3, (HXY.out _ hG6).1.cell 4, (HXY.out _ hG6).1.cell 5, (HXY.out _ hG6).1.cell 6, (HXY.out _ hG6).1.cell 7, (HXY.out _ hG6).1.cell 8, (HXY.out _ hG6).2.cell 0, (HXY.out _ hG6).2.cell 1, (HXY.out _ hG6).2.cell 2, (HXY.out _ hG6).2.cell 3, (HXY.out _ hG6).2.cell 4, (HXY.out _ hG6).2.cell 5, (HXY.out _ hG6).2.cell 6, (HXY.out _ hG6).2.cell 7, (HXY.out _ hG6).2.cell 8⟩
                            clear hK K
                            try simp only [Act.put, List.setIfInBounds_toArray, List.set_cons_zero, List.set_cons_succ]
                            refine wpAnyH_done (by kernel_rfl) ?_ _
                            go_wp2_with fail
                            go_meet
                            case rel => exact ⟨_, _, rfl, rfl, hA6, hB6, hG6⟩
                        · go_simp
                          have hG2 := hG1.alloc (.cells #[.int .i64 0, .int .i64 0] 30)
                          have hB2 := Bk.new w1_A 30 #[.int .i64 0, .int .i64 0]
                          have hlB : w10.heap.size ≤ w1_A.heap.size := hG1.size
                          have hne : gA ≠ w1_A.heap.size := Nat.ne_of_lt hA1.lt
                          have hA2 := hA1.alloc (.cells #[.int .i64 0, .int .i64 0] 30)
                          generalize w1_A.alloc (.cells #[.int .i64 0, .int .i64 0] 30) = w2_B at hG2 hB2 hA2 ⊢
                          generalize w1_A.heap.size = gB at hB2 hlB hne ⊢
                          refine hK.out _ _ ?_ (fun hHeld => ?_)
                          · exact ⟨(HXY.out _ hG2).1.cell 0, (HXY.out _ hG2).1.cell 1, (HXY.out _ hG2).1.cell 2, (HXY.out _ hG2).1.cell 3, (HXY.out _ hG2).1.cell 4, (HXY.out _ hG2).1.cell 5, (HXY.out _ hG2).1.cell 6, (HXY.out _ hG2).1.cell 7, (HXY.out _ hG2).1.cell 8, (HXY.out _ hG2).2.cell 0, (HXY.out _ hG2).2.cell 1, (HXY.out _ hG2).2.cell 2, (HXY.out _ hG2).2.cell 3, (HXY.out _ hG2).2.cell 4, (HXY.out _ hG2).2.cell 5, (HXY.out _ hG2).2.cell 6, (HXY.out _ hG2).2.cell 7, (HXY.out _ hG2).2.cell 8⟩
                          clear hK K
                          try simp only [Act.put, List.setIfInBounds_toArray, List.set_cons_zero, List.set_cons_succ]
                          refine wpAnyH_ready (rs := [1]) (by kernel_rfl) (by simp) ?_
                          refine (AllReadyH.cons (o := { dst := some 48, op := Op.call { callee := Callee.value (Operand.func 109), args := #[Operand.tmp 47], argTypes := #[79] }, type := 30, pos := _, after := #[{ on := 0, ground := Ground.data }], guard := none }) rfl (fun K hK => ?_) AllReadyH.nil)
                          go_simp
                          refine (lastsR_c x _).mono ?_
                          rintro e w3_x ⟨rfl, hh⟩
                          have hG3 := hG2.trans hh
                          have hA3 := hA2.quiet hh
                          have hB3 := hB2.quiet hh
                          clear hh
                          refine hK.out _ _ ?_ (fun hHeld => ?_)
                          · exact ⟨(HXY.out _ hG3).1.cell 0, (HXY.out _ hG3).1.cell 1, (HXY.out _ hG3).1.cell 2, (HXY.out _ hG3).1.cell 3, (HXY.out _ hG3).1.cell 4, (HXY.out _ hG3).1.cell 5, (HXY.out _ hG3).1.cell 6, (HXY.out _ hG3).1.cell 7, (HXY.out _ hG3).1.cell 8, (HXY.out _ hG3).2.cell 0, (HXY.out _ hG3).2.cell 1, (HXY.out _ hG3).2.cell 2, (HXY.out _ hG3).2.cell 3, (HXY.out _ hG3).2.cell 4, (HXY.out _ hG3).2.cell 5, (HXY.out _ hG3).2.cell 6, (HXY.out _ hG3).2.cell 7, (HXY.out _ hG3).2.cell 8⟩
                          clear hK K
                          try simp only [Act.put, List.setIfInBounds_toArray, List.set_cons_zero, List.set_cons_succ]
                          refine wpAnyH_ready (rs := [3]) (by kernel_rfl) (by simp) ?_
                          refine (AllReadyH.cons (o := { dst := some 50, op := Op.call { callee := Callee.value (Operand.func 109), args := #[Operand.tmp 49], argTypes := #[79] }, type := 30, pos := _, after := #[{ on := 2, ground := Ground.data }, { on := 1, ground := Ground.chain }], guard := none }) rfl (fun K hK => ?_) AllReadyH.nil)
                          go_simp
                          refine (lastsR_c y _).mono ?_
                          rintro e w4_y ⟨rfl, hh⟩
                          have hG4 := hG3.trans hh
                          have hA4 := hA3.quiet hh
                          have hB4 := hB3.quiet hh
                          clear hh
                          refine hK.out _ _ ?_ (fun hHeld => ?_)
                          · exact ⟨(HXY.out _ hG4).1.cell 0, (HXY.out _ hG4).1.cell 1, (HXY.out _ hG4).1.cell 2, (HXY.out _ hG4).1.cell 3, (HXY.out _ hG4).1.cell 4, (HXY.out _ hG4).1.cell 5, (HXY.out _ hG4).1.cell 6, (HXY.out _ hG4).1.cell 7, (HXY.out _ hG4).1.cell 8, (HXY.out _ hG4).2.cell 0, (HXY.out _ hG4).2.cell 1, (HXY.out _ hG4).2.cell 2, (HXY.out _ hG4).2.cell 3, (HXY.out _ hG4).2.cell 4, (HXY.out _ hG4).2.cell 5, (HXY.out _ hG4).2.cell 6, (HXY.out _ hG4).2.cell 7, (HXY.out _ hG4).2.cell 8⟩
                          clear hK K
                          try simp only [Act.put, List.setIfInBounds_toArray, List.set_cons_zero, List.set_cons_succ]
                          refine wpAnyH_ready (rs := [6]) (by kernel_rfl) (by simp) ?_
                          refine (AllReadyH.cons (o := { dst := none, op := Op.store 30 (Operand.tmp 14) (Operand.tmp 48), type := 0, pos := _, after := #[{ on := 4, ground := Ground.data }, { on := 1, ground := Ground.data }, { on := 3, ground := Ground.chain }, { on := 0, ground := Ground.phase }, { on := 1, ground := Ground.phase }, { on := 2, ground := Ground.textOnly Departure.lateStores }, { on := 3, ground := Ground.textOnly Departure.lateStoresUnsure }, { on := 4, ground := Ground.phase }, { on := 5, ground := Ground.phase }], guard := none }) rfl (fun K hK => ?_) AllReadyH.nil)
                          refine st_wp rfl (wp_store_row 30 _ _ rfl (gA) #[.int .i64 x.2.1.1, .int .i64 (toL x)] rfl rfl 30 _ hA4 (wi_info _ _) rfl (wi_one _ _) ?_)
                          have hG5 := hG4.setRow (g := gA) (.inl hlA) #[.int .i64 x.2.1.1, .int .i64 (toL x)]
                          have hA5 := hA4.setRow #[.int .i64 x.2.1.1, .int .i64 (toL x)]
                          have hB5 := hB4.farRow (k := gA) (by omega) #[.int .i64 x.2.1.1, .int .i64 (toL x)]
                          refine hK.out _ _ ?_ (fun hHeld => ?_)
                          · exact ⟨(HXY.out _ hG5).1.cell 0, (HXY.out _ hG5).1.cell 1, (HXY.out _ hG5).1.cell 2, (HXY.out _ hG5).1.cell 3, (HXY.out _ hG5).1.cell 4, (HXY.out _ hG5).1.cell 5, (HXY.out _ hG5).1.cell 6, (HXY.out _ hG5).1.cell 7, (HXY.out _ hG5).1.cell 8, (HXY.out _ hG5).2.cell 0, (HXY.out _ hG5).2.cell 1, (HXY.out _ hG5).2.cell 2, (HXY.out _ hG5).2.cell 3, (HXY.out _ hG5).2.cell 4, (HXY.out _ hG5).2.cell 5, (HXY.out _ hG5).2.cell 6, (HXY.out _ hG5).2.cell 7, (HXY.out _ hG5).2.cell 8⟩
                          clear hK K
                          try simp only [Act.put, List.setIfInBounds_toArray, List.set_cons_zero, List.set_cons_succ]
                          refine wpAnyH_ready (rs := [7]) (by kernel_rfl) (by simp) ?_
                          refine (AllReadyH.cons (o := { dst := none, op := Op.store 30 (Operand.tmp 15) (Operand.tmp 50), type := 0, pos := _, after := #[{ on := 5, ground := Ground.data }, { on := 3, ground := Ground.data }, { on := 6, ground := Ground.chain }, { on := 0, ground := Ground.phase }, { on := 1, ground := Ground.phase }, { on := 2, ground := Ground.phase }, { on := 3, ground := Ground.phase }, { on := 4, ground := Ground.phase }, { on := 5, ground := Ground.phase }, { on := 6, ground := Ground.phase }], guard := none }) rfl (fun K hK => ?_) AllReadyH.nil)
                          refine st_wp rfl (wp_store_row 30 _ _ rfl (gB) #[.int .i64 y.2.1.1, .int .i64 (toL y)] rfl rfl 30 _ hB5 (wi_info _ _) rfl (wi_one _ _) ?_)
                          have hG6 := hG5.setRow (g := gB) (.inl hlB) #[.int .i64 y.2.1.1, .int .i64 (toL y)]
                          have hB6 := hB5.setRow #[.int .i64 y.2.1.1, .int .i64 (toL y)]
                          have hA6 := hA5.farRow (k := gB) (by omega) #[.int .i64 y.2.1.1, .int .i64 (toL y)]
                          refine hK.out _ _ ?_ (fun hHeld => ?_)
                          · exact ⟨(HXY.out _ hG6).1.cell 0, (HXY.out _ hG6).1.cell 1, (HXY.out _ hG6).1.cell 2, (HXY.out _ hG6).1.cell 3, (HXY.out _ hG6).1.cell 4, (HXY.out _ hG6).1.cell 5, (HXY.out _ hG6).1.cell 6, (HXY.out _ hG6).1.cell 7, (HXY.out _ hG6).1.cell 8, (HXY.out _ hG6).2.cell 0, (HXY.out _ hG6).2.cell 1, (HXY.out _ hG6).2.cell 2, (HXY.out _ hG6).2.cell 3, (HXY.out _ hG6).2.cell 4, (HXY.out _ hG6).2.cell 5, (HXY.out _ hG6).2.cell 6, (HXY.out _ hG6).2.cell 7, (HXY.out _ hG6).2.cell 8⟩
                          clear hK K
                          try simp only [Act.put, List.setIfInBounds_toArray, List.set_cons_zero, List.set_cons_succ]
                          refine wpAnyH_done (by kernel_rfl) ?_ _
                          go_wp2_with fail
                          go_meet
                          case rel => exact ⟨_, _, rfl, rfl, hA6, hB6, hG6⟩
                      · go_simp
                        have hG1 := hG0.alloc (.cells #[.int .i64 0, .int .i64 0] 30)
                        have hB1 := Bk.new wd 30 #[.int .i64 0, .int .i64 0]
                        have hlB : w10.heap.size ≤ wd.heap.size := hG0.size
                        generalize wd.alloc (.cells #[.int .i64 0, .int .i64 0] 30) = w1_B at hG1 hB1 ⊢
                        generalize wd.heap.size = gB at hB1 hlB ⊢
                        refine hK.out _ _ ?_ (fun hHeld => ?_)
                        · exact ⟨(HXY.out _ hG1).1.cell 0, (HXY.out _ hG1).1.cell 1, (HXY.out _ hG1).1.cell 2, (HXY.out _ hG1).1.cell 3, (HXY.out _ hG1).1.cell 4, (HXY.out _ hG1).1.cell 5, (HXY.out _ hG1).1.cell 6, (HXY.out _ hG1).1.cell 7, (HXY.out _ hG1).1.cell 8, (HXY.out _ hG1).2.cell 0, (HXY.out _ hG1).2.cell 1, (HXY.out _ hG1).2.cell 2, (HXY.out _ hG1).2.cell 3, (HXY.out _ hG1).2.cell 4, (HXY.out _ hG1).2.cell 5, (HXY.out _ hG1).2.cell 6, (HXY.out _ hG1).2.cell 7, (HXY.out _ hG1).2.cell 8⟩
                        clear hK K
                        try simp only [Act.put, List.setIfInBounds_toArray, List.set_cons_zero, List.set_cons_succ]
                        refine wpAnyH_ready (rs := [1, 4]) (by kernel_rfl) (by simp) ?_
                        refine (AllReadyH.cons (o := { dst := some 48, op := Op.call { callee := Callee.value (Operand.func 109), args := #[Operand.tmp 47], argTypes := #[79] }, type := 30, pos := _, after := #[{ on := 0, ground := Ground.data }], guard := none }) rfl (fun K hK => ?_) (AllReadyH.cons (o := { dst := some 14, op := Op.alloc 30, type := 0, pos := _, after := #[], guard := none }) rfl (fun K hK => ?_) AllReadyH.nil))
                        · go_simp
                          refine (lastsR_c x _).mono ?_
                          rintro e w2_x ⟨rfl, hh⟩
                          have hG2 := hG1.trans hh
                          have hB2 := hB1.quiet hh
                          clear hh
                          refine hK.out _ _ ?_ (fun hHeld => ?_)
                          · exact ⟨(HXY.out _ hG2).1.cell 0, (HXY.out _ hG2).1.cell 1, (HXY.out _ hG2).1.cell 2, (HXY.out _ hG2).1.cell 3, (HXY.out _ hG2).1.cell 4, (HXY.out _ hG2).1.cell 5, (HXY.out _ hG2).1.cell 6, (HXY.out _ hG2).1.cell 7, (HXY.out _ hG2).1.cell 8, (HXY.out _ hG2).2.cell 0, (HXY.out _ hG2).2.cell 1, (HXY.out _ hG2).2.cell 2, (HXY.out _ hG2).2.cell 3, (HXY.out _ hG2).2.cell 4, (HXY.out _ hG2).2.cell 5, (HXY.out _ hG2).2.cell 6, (HXY.out _ hG2).2.cell 7, (HXY.out _ hG2).2.cell 8⟩
                          clear hK K
                          try simp only [Act.put, List.setIfInBounds_toArray, List.set_cons_zero, List.set_cons_succ]
                          refine wpAnyH_ready (rs := [3, 4]) (by kernel_rfl) (by simp) ?_
                          refine (AllReadyH.cons (o := { dst := some 50, op := Op.call { callee := Callee.value (Operand.func 109), args := #[Operand.tmp 49], argTypes := #[79] }, type := 30, pos := _, after := #[{ on := 2, ground := Ground.data }, { on := 1, ground := Ground.chain }], guard := none }) rfl (fun K hK => ?_) (AllReadyH.cons (o := { dst := some 14, op := Op.alloc 30, type := 0, pos := _, after := #[], guard := none }) rfl (fun K hK => ?_) AllReadyH.nil))
                          · go_simp
                            refine (lastsR_c y _).mono ?_
                            rintro e w3_y ⟨rfl, hh⟩
                            have hG3 := hG2.trans hh
                            have hB3 := hB2.quiet hh
                            clear hh
                            refine hK.out _ _ ?_ (fun hHeld => ?_)
                            · exact ⟨(HXY.out _ hG3).1.cell 0, (HXY.out _ hG3).1.cell 1, (HXY.out _ hG3).1.cell 2, (HXY.out _ hG3).1.cell 3, (HXY.out _ hG3).1.cell 4, (HXY.out _ hG3).1.cell 5, (HXY.out _ hG3).1.cell 6, (HXY.out _ hG3).1.cell 7, (HXY.out _ hG3).1.cell 8, (HXY.out _ hG3).2.cell 0, (HXY.out _ hG3).2.cell 1, (HXY.out _ hG3).2.cell 2, (HXY.out _ hG3).2.cell 3, (HXY.out _ hG3).2.cell 4, (HXY.out _ hG3).2.cell 5, (HXY.out _ hG3).2.cell 6, (HXY.out _ hG3).2.cell 7, (HXY.out _ hG3).2.cell 8⟩
                            clear hK K
                            try simp only [Act.put, List.setIfInBounds_toArray, List.set_cons_zero, List.set_cons_succ]
                            refine wpAnyH_ready (rs := [4]) (by kernel_rfl) (by simp) ?_
                            refine (AllReadyH.cons (o := { dst := some 14, op := Op.alloc 30, type := 0, pos := _, after := #[], guard := none }) rfl (fun K hK => ?_) AllReadyH.nil)
                            go_simp
                            have hG4 := hG3.alloc (.cells #[.int .i64 0, .int .i64 0] 30)
                            have hA4 := Bk.new w3_y 30 #[.int .i64 0, .int .i64 0]
                            have hlA : w10.heap.size ≤ w3_y.heap.size := hG3.size
                            have hne : gB ≠ w3_y.heap.size := Nat.ne_of_lt hB3.lt
                            have hB4 := hB3.alloc (.cells #[.int .i64 0, .int .i64 0] 30)
                            generalize w3_y.alloc (.cells #[.int .i64 0, .int .i64 0] 30) = w4_A at hG4 hA4 hB4 ⊢
                            generalize w3_y.heap.size = gA at hA4 hlA hne ⊢
                            refine hK.out _ _ ?_ (fun hHeld => ?_)
                            · exact ⟨(HXY.out _ hG4).1.cell 0, (HXY.out _ hG4).1.cell 1, (HXY.out _ hG4).1.cell 2, (HXY.out _ hG4).1.cell 3, (HXY.out _ hG4).1.cell 4, (HXY.out _ hG4).1.cell 5, (HXY.out _ hG4).1.cell 6, (HXY.out _ hG4).1.cell 7, (HXY.out _ hG4).1.cell 8, (HXY.out _ hG4).2.cell 0, (HXY.out _ hG4).2.cell 1, (HXY.out _ hG4).2.cell 2, (HXY.out _ hG4).2.cell 3, (HXY.out _ hG4).2.cell 4, (HXY.out _ hG4).2.cell 5, (HXY.out _ hG4).2.cell 6, (HXY.out _ hG4).2.cell 7, (HXY.out _ hG4).2.cell 8⟩
                            clear hK K
                            try simp only [Act.put, List.setIfInBounds_toArray, List.set_cons_zero, List.set_cons_succ]
                            refine wpAnyH_ready (rs := [6]) (by kernel_rfl) (by simp) ?_
                            refine (AllReadyH.cons (o := { dst := none, op := Op.store 30 (Operand.tmp 14) (Operand.tmp 48), type := 0, pos := _, after := #[{ on := 4, ground := Ground.data }, { on := 1, ground := Ground.data }, { on := 3, ground := Ground.chain }, { on := 0, ground := Ground.phase }, { on := 1, ground := Ground.phase }, { on := 2, ground := Ground.textOnly Departure.lateStores }, { on := 3, ground := Ground.textOnly Departure.lateStoresUnsure }, { on := 4, ground := Ground.phase }, { on := 5, ground := Ground.phase }], guard := none }) rfl (fun K hK => ?_) AllReadyH.nil)
                            refine st_wp rfl (wp_store_row 30 _ _ rfl (gA) #[.int .i64 x.2.1.1, .int .i64 (toL x)] rfl rfl 30 _ hA4 (wi_info _ _) rfl (wi_one _ _) ?_)
                            have hG5 := hG4.setRow (g := gA) (.inl hlA) #[.int .i64 x.2.1.1, .int .i64 (toL x)]
                            have hA5 := hA4.setRow #[.int .i64 x.2.1.1, .int .i64 (toL x)]
                            have hB5 := hB4.farRow (k := gA) (by omega) #[.int .i64 x.2.1.1, .int .i64 (toL x)]
                            refine hK.out _ _ ?_ (fun hHeld => ?_)
                            · exact ⟨(HXY.out _ hG5).1.cell 0, (HXY.out _ hG5).1.cell 1, (HXY.out _ hG5).1.cell 2, (HXY.out _ hG5).1.cell 3, (HXY.out _ hG5).1.cell 4, (HXY.out _ hG5).1.cell 5, (HXY.out _ hG5).1.cell 6, (HXY.out _ hG5).1.cell 7, (HXY.out _ hG5).1.cell 8, (HXY.out _ hG5).2.cell 0, (HXY.out _ hG5).2.cell 1, (HXY.out _ hG5).2.cell 2, (HXY.out _ hG5).2.cell 3, (HXY.out _ hG5).2.cell 4, (HXY.out _ hG5).2.cell 5, (HXY.out _ hG5).2.cell 6, (HXY.out _ hG5).2.cell 7, (HXY.out _ hG5).2.cell 8⟩
                            clear hK K
                            try simp only [Act.put, List.setIfInBounds_toArray, List.set_cons_zero, List.set_cons_succ]
                            refine wpAnyH_ready (rs := [7]) (by kernel_rfl) (by simp) ?_
                            refine (AllReadyH.cons (o := { dst := none, op := Op.store 30 (Operand.tmp 15) (Operand.tmp 50), type := 0, pos := _, after := #[{ on := 5, ground := Ground.data }, { on := 3, ground := Ground.data }, { on := 6, ground := Ground.chain }, { on := 0, ground := Ground.phase }, { on := 1, ground := Ground.phase }, { on := 2, ground := Ground.phase }, { on := 3, ground := Ground.phase }, { on := 4, ground := Ground.phase }, { on := 5, ground := Ground.phase }, { on := 6, ground := Ground.phase }], guard := none }) rfl (fun K hK => ?_) AllReadyH.nil)
                            refine st_wp rfl (wp_store_row 30 _ _ rfl (gB) #[.int .i64 y.2.1.1, .int .i64 (toL y)] rfl rfl 30 _ hB5 (wi_info _ _) rfl (wi_one _ _) ?_)
                            have hG6 := hG5.setRow (g := gB) (.inl hlB) #[.int .i64 y.2.1.1, .int .i64 (toL y)]
                            have hB6 := hB5.setRow #[.int .i64 y.2.1.1, .int .i64 (toL y)]
                            have hA6 := hA5.farRow (k := gB) (by omega) #[.int .i64 y.2.1.1, .int .i64 (toL y)]
                            refine hK.out _ _ ?_ (fun hHeld => ?_)
                            · exact ⟨(HXY.out _ hG6).1.cell 0, (HXY.out _ hG6).1.cell 1, (HXY.out _ hG6).1.cell 2, (HXY.out _ hG6).1.cell 3, (HXY.out _ hG6).1.cell 4, (HXY.out _ hG6).1.cell 5, (HXY.out _ hG6).1.cell 6, (HXY.out _ hG6).1.cell 7, (HXY.out _ hG6).1.cell 8, (HXY.out _ hG6).2.cell 0, (HXY.out _ hG6).2.cell 1, (HXY.out _ hG6).2.cell 2, (HXY.out _ hG6).2.cell 3, (HXY.out _ hG6).2.cell 4, (HXY.out _ hG6).2.cell 5, (HXY.out _ hG6).2.cell 6, (HXY.out _ hG6).2.cell 7, (HXY.out _ hG6).2.cell 8⟩
                            clear hK K
                            try simp only [Act.put, List.setIfInBounds_toArray, List.set_cons_zero, List.set_cons_succ]
                            refine wpAnyH_done (by kernel_rfl) ?_ _
                            go_wp2_with fail
                            go_meet
                            case rel => exact ⟨_, _, rfl, rfl, hA6, hB6, hG6⟩
                          · go_simp
                            have hG3 := hG2.alloc (.cells #[.int .i64 0, .int .i64 0] 30)
                            have hA3 := Bk.new w2_x 30 #[.int .i64 0, .int .i64 0]
                            have hlA : w10.heap.size ≤ w2_x.heap.size := hG2.size
                            have hne : gB ≠ w2_x.heap.size := Nat.ne_of_lt hB2.lt
                            have hB3 := hB2.alloc (.cells #[.int .i64 0, .int .i64 0] 30)
                            generalize w2_x.alloc (.cells #[.int .i64 0, .int .i64 0] 30) = w3_A at hG3 hA3 hB3 ⊢
                            generalize w2_x.heap.size = gA at hA3 hlA hne ⊢
                            refine hK.out _ _ ?_ (fun hHeld => ?_)
                            · exact ⟨(HXY.out _ hG3).1.cell 0, (HXY.out _ hG3).1.cell 1, (HXY.out _ hG3).1.cell 2, (HXY.out _ hG3).1.cell 3, (HXY.out _ hG3).1.cell 4, (HXY.out _ hG3).1.cell 5, (HXY.out _ hG3).1.cell 6, (HXY.out _ hG3).1.cell 7, (HXY.out _ hG3).1.cell 8, (HXY.out _ hG3).2.cell 0, (HXY.out _ hG3).2.cell 1, (HXY.out _ hG3).2.cell 2, (HXY.out _ hG3).2.cell 3, (HXY.out _ hG3).2.cell 4, (HXY.out _ hG3).2.cell 5, (HXY.out _ hG3).2.cell 6, (HXY.out _ hG3).2.cell 7, (HXY.out _ hG3).2.cell 8⟩
                            clear hK K
                            try simp only [Act.put, List.setIfInBounds_toArray, List.set_cons_zero, List.set_cons_succ]
                            refine wpAnyH_ready (rs := [3]) (by kernel_rfl) (by simp) ?_
                            refine (AllReadyH.cons (o := { dst := some 50, op := Op.call { callee := Callee.value (Operand.func 109), args := #[Operand.tmp 49], argTypes := #[79] }, type := 30, pos := _, after := #[{ on := 2, ground := Ground.data }, { on := 1, ground := Ground.chain }], guard := none }) rfl (fun K hK => ?_) AllReadyH.nil)
                            go_simp
                            refine (lastsR_c y _).mono ?_
                            rintro e w4_y ⟨rfl, hh⟩
                            have hG4 := hG3.trans hh
                            have hA4 := hA3.quiet hh
                            have hB4 := hB3.quiet hh
                            clear hh
                            refine hK.out _ _ ?_ (fun hHeld => ?_)
                            · exact ⟨(HXY.out _ hG4).1.cell 0, (HXY.out _ hG4).1.cell 1, (HXY.out _ hG4).1.cell 2, (HXY.out _ hG4).1.cell 3, (HXY.out _ hG4).1.cell 4, (HXY.out _ hG4).1.cell 5, (HXY.out _ hG4).1.cell 6, (HXY.out _ hG4).1.cell 7, (HXY.out _ hG4).1.cell 8, (HXY.out _ hG4).2.cell 0, (HXY.out _ hG4).2.cell 1, (HXY.out _ hG4).2.cell 2, (HXY.out _ hG4).2.cell 3, (HXY.out _ hG4).2.cell 4, (HXY.out _ hG4).2.cell 5, (HXY.out _ hG4).2.cell 6, (HXY.out _ hG4).2.cell 7, (HXY.out _ hG4).2.cell 8⟩
                            clear hK K
                            try simp only [Act.put, List.setIfInBounds_toArray, List.set_cons_zero, List.set_cons_succ]
                            refine wpAnyH_ready (rs := [6]) (by kernel_rfl) (by simp) ?_
                            refine (AllReadyH.cons (o := { dst := none, op := Op.store 30 (Operand.tmp 14) (Operand.tmp 48), type := 0, pos := _, after := #[{ on := 4, ground := Ground.data }, { on := 1, ground := Ground.data }, { on := 3, ground := Ground.chain }, { on := 0, ground := Ground.phase }, { on := 1, ground := Ground.phase }, { on := 2, ground := Ground.textOnly Departure.lateStores }, { on := 3, ground := Ground.textOnly Departure.lateStoresUnsure }, { on := 4, ground := Ground.phase }, { on := 5, ground := Ground.phase }], guard := none }) rfl (fun K hK => ?_) AllReadyH.nil)
                            refine st_wp rfl (wp_store_row 30 _ _ rfl (gA) #[.int .i64 x.2.1.1, .int .i64 (toL x)] rfl rfl 30 _ hA4 (wi_info _ _) rfl (wi_one _ _) ?_)
                            have hG5 := hG4.setRow (g := gA) (.inl hlA) #[.int .i64 x.2.1.1, .int .i64 (toL x)]
                            have hA5 := hA4.setRow #[.int .i64 x.2.1.1, .int .i64 (toL x)]
                            have hB5 := hB4.farRow (k := gA) (by omega) #[.int .i64 x.2.1.1, .int .i64 (toL x)]
                            refine hK.out _ _ ?_ (fun hHeld => ?_)
                            · exact ⟨(HXY.out _ hG5).1.cell 0, (HXY.out _ hG5).1.cell 1, (HXY.out _ hG5).1.cell 2, (HXY.out _ hG5).1.cell 3, (HXY.out _ hG5).1.cell 4, (HXY.out _ hG5).1.cell 5, (HXY.out _ hG5).1.cell 6, (HXY.out _ hG5).1.cell 7, (HXY.out _ hG5).1.cell 8, (HXY.out _ hG5).2.cell 0, (HXY.out _ hG5).2.cell 1, (HXY.out _ hG5).2.cell 2, (HXY.out _ hG5).2.cell 3, (HXY.out _ hG5).2.cell 4, (HXY.out _ hG5).2.cell 5, (HXY.out _ hG5).2.cell 6, (HXY.out _ hG5).2.cell 7, (HXY.out _ hG5).2.cell 8⟩
                            clear hK K
                            try simp only [Act.put, List.setIfInBounds_toArray, List.set_cons_zero, List.set_cons_succ]
                            refine wpAnyH_ready (rs := [7]) (by kernel_rfl) (by simp) ?_
                            refine (AllReadyH.cons (o := { dst := none, op := Op.store 30 (Operand.tmp 15) (Operand.tmp 50), type := 0, pos := _, after := #[{ on := 5, ground := Ground.data }, { on := 3, ground := Ground.data }, { on := 6, ground := Ground.chain }, { on := 0, ground := Ground.phase }, { on := 1, ground := Ground.phase }, { on := 2, ground := Ground.phase }, { on := 3, ground := Ground.phase }, { on := 4, ground := Ground.phase }, { on := 5, ground := Ground.phase }, { on := 6, ground := Ground.phase }], guard := none }) rfl (fun K hK => ?_) AllReadyH.nil)
                            refine st_wp rfl (wp_store_row 30 _ _ rfl (gB) #[.int .i64 y.2.1.1, .int .i64 (toL y)] rfl rfl 30 _ hB5 (wi_info _ _) rfl (wi_one _ _) ?_)
                            have hG6 := hG5.setRow (g := gB) (.inl hlB) #[.int .i64 y.2.1.1, .int .i64 (toL y)]
                            have hB6 := hB5.setRow #[.int .i64 y.2.1.1, .int .i64 (toL y)]
                            have hA6 := hA5.farRow (k := gB) (by omega) #[.int .i64 y.2.1.1, .int .i64 (toL y)]
                            refine hK.out _ _ ?_ (fun hHeld => ?_)
                            · exact ⟨(HXY.out _ hG6).1.cell 0, (HXY.out _ hG6).1.cell 1, (HXY.out _ hG6).1.cell 2, (HXY.out _ hG6).1.cell 3, (HXY.out _ hG6).1.cell 4, (HXY.out _ hG6).1.cell 5, (HXY.out _ hG6).1.cell 6, (HXY.out _ hG6).1.cell 7, (HXY.out _ hG6).1.cell 8, (HXY.out _ hG6).2.cell 0, (HXY.out _ hG6).2.cell 1, (HXY.out _ hG6).2.cell 2, (HXY.out _ hG6).2.cell 3, (HXY.out _ hG6).2.cell 4, (HXY.out _ hG6).2.cell 5, (HXY.out _ hG6).2.cell 6, (HXY.out _ hG6).2.cell 7, (HXY.out _ hG6).2.cell 8⟩
                            clear hK K
                            try simp only [Act.put, List.setIfInBounds_toArray, List.set_cons_zero, List.set_cons_succ]
                            refine wpAnyH_done (by kernel_rfl) ?_ _
                            go_wp2_with fail
                            go_meet
                            case rel => exact ⟨_, _, rfl, rfl, hA6, hB6, hG6⟩
                        · go_simp
                          have hG2 := hG1.alloc (.cells #[.int .i64 0, .int .i64 0] 30)
                          have hA2 := Bk.new w1_B 30 #[.int .i64 0, .int .i64 0]
                          have hlA : w10.heap.size ≤ w1_B.heap.size := hG1.size
                          have hne : gB ≠ w1_B.heap.size := Nat.ne_of_lt hB1.lt
                          have hB2 := hB1.alloc (.cells #[.int .i64 0, .int .i64 0] 30)
                          generalize w1_B.alloc (.cells #[.int .i64 0, .int .i64 0] 30) = w2_A at hG2 hA2 hB2 ⊢
                          generalize w1_B.heap.size = gA at hA2 hlA hne ⊢
                          refine hK.out _ _ ?_ (fun hHeld => ?_)
                          · exact ⟨(HXY.out _ hG2).1.cell 0, (HXY.out _ hG2).1.cell 1, (HXY.out _ hG2).1.cell 2, (HXY.out _ hG2).1.cell 3, (HXY.out _ hG2).1.cell 4, (HXY.out _ hG2).1.cell 5, (HXY.out _ hG2).1.cell 6, (HXY.out _ hG2).1.cell 7, (HXY.out _ hG2).1.cell 8, (HXY.out _ hG2).2.cell 0, (HXY.out _ hG2).2.cell 1, (HXY.out _ hG2).2.cell 2, (HXY.out _ hG2).2.cell 3, (HXY.out _ hG2).2.cell 4, (HXY.out _ hG2).2.cell 5, (HXY.out _ hG2).2.cell 6, (HXY.out _ hG2).2.cell 7, (HXY.out _ hG2).2.cell 8⟩
                          clear hK K
                          try simp only [Act.put, List.setIfInBounds_toArray, List.set_cons_zero, List.set_cons_succ]
                          refine wpAnyH_ready (rs := [1]) (by kernel_rfl) (by simp) ?_
                          refine (AllReadyH.cons (o := { dst := some 48, op := Op.call { callee := Callee.value (Operand.func 109), args := #[Operand.tmp 47], argTypes := #[79] }, type := 30, pos := _, after := #[{ on := 0, ground := Ground.data }], guard := none }) rfl (fun K hK => ?_) AllReadyH.nil)
                          go_simp
                          refine (lastsR_c x _).mono ?_
                          rintro e w3_x ⟨rfl, hh⟩
                          have hG3 := hG2.trans hh
                          have hA3 := hA2.quiet hh
                          have hB3 := hB2.quiet hh
                          clear hh
                          refine hK.out _ _ ?_ (fun hHeld => ?_)
                          · exact ⟨(HXY.out _ hG3).1.cell 0, (HXY.out _ hG3).1.cell 1, (HXY.out _ hG3).1.cell 2, (HXY.out _ hG3).1.cell 3, (HXY.out _ hG3).1.cell 4, (HXY.out _ hG3).1.cell 5, (HXY.out _ hG3).1.cell 6, (HXY.out _ hG3).1.cell 7, (HXY.out _ hG3).1.cell 8, (HXY.out _ hG3).2.cell 0, (HXY.out _ hG3).2.cell 1, (HXY.out _ hG3).2.cell 2, (HXY.out _ hG3).2.cell 3, (HXY.out _ hG3).2.cell 4, (HXY.out _ hG3).2.cell 5, (HXY.out _ hG3).2.cell 6, (HXY.out _ hG3).2.cell 7, (HXY.out _ hG3).2.cell 8⟩
                          clear hK K
                          try simp only [Act.put, List.setIfInBounds_toArray, List.set_cons_zero, List.set_cons_succ]
                          refine wpAnyH_ready (rs := [3]) (by kernel_rfl) (by simp) ?_
                          refine (AllReadyH.cons (o := { dst := some 50, op := Op.call { callee := Callee.value (Operand.func 109), args := #[Operand.tmp 49], argTypes := #[79] }, type := 30, pos := _, after := #[{ on := 2, ground := Ground.data }, { on := 1, ground := Ground.chain }], guard := none }) rfl (fun K hK => ?_) AllReadyH.nil)
                          go_simp
                          refine (lastsR_c y _).mono ?_
                          rintro e w4_y ⟨rfl, hh⟩
                          have hG4 := hG3.trans hh
                          have hA4 := hA3.quiet hh
                          have hB4 := hB3.quiet hh
                          clear hh
                          refine hK.out _ _ ?_ (fun hHeld => ?_)
                          · exact ⟨(HXY.out _ hG4).1.cell 0, (HXY.out _ hG4).1.cell 1, (HXY.out _ hG4).1.cell 2, (HXY.out _ hG4).1.cell 3, (HXY.out _ hG4).1.cell 4, (HXY.out _ hG4).1.cell 5, (HXY.out _ hG4).1.cell 6, (HXY.out _ hG4).1.cell 7, (HXY.out _ hG4).1.cell 8, (HXY.out _ hG4).2.cell 0, (HXY.out _ hG4).2.cell 1, (HXY.out _ hG4).2.cell 2, (HXY.out _ hG4).2.cell 3, (HXY.out _ hG4).2.cell 4, (HXY.out _ hG4).2.cell 5, (HXY.out _ hG4).2.cell 6, (HXY.out _ hG4).2.cell 7, (HXY.out _ hG4).2.cell 8⟩
                          clear hK K
                          try simp only [Act.put, List.setIfInBounds_toArray, List.set_cons_zero, List.set_cons_succ]
                          refine wpAnyH_ready (rs := [6]) (by kernel_rfl) (by simp) ?_
                          refine (AllReadyH.cons (o := { dst := none, op := Op.store 30 (Operand.tmp 14) (Operand.tmp 48), type := 0, pos := _, after := #[{ on := 4, ground := Ground.data }, { on := 1, ground := Ground.data }, { on := 3, ground := Ground.chain }, { on := 0, ground := Ground.phase }, { on := 1, ground := Ground.phase }, { on := 2, ground := Ground.textOnly Departure.lateStores }, { on := 3, ground := Ground.textOnly Departure.lateStoresUnsure }, { on := 4, ground := Ground.phase }, { on := 5, ground := Ground.phase }], guard := none }) rfl (fun K hK => ?_) AllReadyH.nil)
                          refine st_wp rfl (wp_store_row 30 _ _ rfl (gA) #[.int .i64 x.2.1.1, .int .i64 (toL x)] rfl rfl 30 _ hA4 (wi_info _ _) rfl (wi_one _ _) ?_)
                          have hG5 := hG4.setRow (g := gA) (.inl hlA) #[.int .i64 x.2.1.1, .int .i64 (toL x)]
                          have hA5 := hA4.setRow #[.int .i64 x.2.1.1, .int .i64 (toL x)]
                          have hB5 := hB4.farRow (k := gA) (by omega) #[.int .i64 x.2.1.1, .int .i64 (toL x)]
                          refine hK.out _ _ ?_ (fun hHeld => ?_)
                          · exact ⟨(HXY.out _ hG5).1.cell 0, (HXY.out _ hG5).1.cell 1, (HXY.out _ hG5).1.cell 2, (HXY.out _ hG5).1.cell 3, (HXY.out _ hG5).1.cell 4, (HXY.out _ hG5).1.cell 5, (HXY.out _ hG5).1.cell 6, (HXY.out _ hG5).1.cell 7, (HXY.out _ hG5).1.cell 8, (HXY.out _ hG5).2.cell 0, (HXY.out _ hG5).2.cell 1, (HXY.out _ hG5).2.cell 2, (HXY.out _ hG5).2.cell 3, (HXY.out _ hG5).2.cell 4, (HXY.out _ hG5).2.cell 5, (HXY.out _ hG5).2.cell 6, (HXY.out _ hG5).2.cell 7, (HXY.out _ hG5).2.cell 8⟩
                          clear hK K
                          try simp only [Act.put, List.setIfInBounds_toArray, List.set_cons_zero, List.set_cons_succ]
                          refine wpAnyH_ready (rs := [7]) (by kernel_rfl) (by simp) ?_
                          refine (AllReadyH.cons (o := { dst := none, op := Op.store 30 (Operand.tmp 15) (Operand.tmp 50), type := 0, pos := _, after := #[{ on := 5, ground := Ground.data }, { on := 3, ground := Ground.data }, { on := 6, ground := Ground.chain }, { on := 0, ground := Ground.phase }, { on := 1, ground := Ground.phase }, { on := 2, ground := Ground.phase }, { on := 3, ground := Ground.phase }, { on := 4, ground := Ground.phase }, { on := 5, ground := Ground.phase }, { on := 6, ground := Ground.phase }], guard := none }) rfl (fun K hK => ?_) AllReadyH.nil)
                          refine st_wp rfl (wp_store_row 30 _ _ rfl (gB) #[.int .i64 y.2.1.1, .int .i64 (toL y)] rfl rfl 30 _ hB5 (wi_info _ _) rfl (wi_one _ _) ?_)
                          have hG6 := hG5.setRow (g := gB) (.inl hlB) #[.int .i64 y.2.1.1, .int .i64 (toL y)]
                          have hB6 := hB5.setRow #[.int .i64 y.2.1.1, .int .i64 (toL y)]
                          have hA6 := hA5.farRow (k := gB) (by omega) #[.int .i64 y.2.1.1, .int .i64 (toL y)]
                          refine hK.out _ _ ?_ (fun hHeld => ?_)
                          · exact ⟨(HXY.out _ hG6).1.cell 0, (HXY.out _ hG6).1.cell 1, (HXY.out _ hG6).1.cell 2, (HXY.out _ hG6).1.cell 3, (HXY.out _ hG6).1.cell 4, (HXY.out _ hG6).1.cell 5, (HXY.out _ hG6).1.cell 6, (HXY.out _ hG6).1.cell 7, (HXY.out _ hG6).1.cell 8, (HXY.out _ hG6).2.cell 0, (HXY.out _ hG6).2.cell 1, (HXY.out _ hG6).2.cell 2, (HXY.out _ hG6).2.cell 3, (HXY.out _ hG6).2.cell 4, (HXY.out _ hG6).2.cell 5, (HXY.out _ hG6).2.cell 6, (HXY.out _ hG6).2.cell 7, (HXY.out _ hG6).2.cell 8⟩
                          clear hK K
                          try simp only [Act.put, List.setIfInBounds_toArray, List.set_cons_zero, List.set_cons_succ]
                          refine wpAnyH_done (by kernel_rfl) ?_ _
                          go_wp2_with fail
                          go_meet
                          case rel => exact ⟨_, _, rfl, rfl, hA6, hB6, hG6⟩
                    case rest =>
                      obtain ⟨g14, g15, rfl, rfl, hA, hBB, hG11⟩ := hcut
                      go_wp2_with (first | (refine wpList_load_row rfl 30 _ rfl g14 rfl 30 #[.int .i64 x.2.1.1, .int .i64 (toL x)] (0, 0) _ hA Tryd.underlying30 rfl (wi_info _ _) ?_) | (refine wpList_load_row rfl 30 _ rfl g15 rfl 30 #[.int .i64 y.2.1.1, .int .i64 (toL y)] (0, 0) _ hBB Tryd.underlying30 rfl (wi_info _ _) ?_))
                      refine (meet_c _ _ _ _ _).mono ?_; rintro e w11 ⟨rfl, hh⟩
                      replace hA := hA.quiet hh
                      replace hBB := hBB.quiet hh
                      replace hG11 := hG11.trans hh
                      have hGc := hG10.trans hG11
                      clear hh
                      by_cases hlt : max x.2.1.1 y.2.1.1 < min (toL x) (toL y)
                      · rw [decide_eq_true hlt]
                        have y0 : w11.cell? ⟨gx, 0, none⟩ = some (.string x.1) := (HXY.out _ hG11).1.cell 0
                        have y1 : w11.cell? ⟨gy, 0, none⟩ = some (.string y.1) := (HXY.out _ hG11).2.cell 0
                        have y2 : w11.cell? ⟨g14, 0, none⟩ = some (.int .i64 x.2.1.1) := hA.cell 0
                        have y3 : w11.cell? ⟨g15, 0, none⟩ = some (.int .i64 y.2.1.1) := hBB.cell 0
                        have y4 : w11.cell? ⟨gA, 1, none⟩ = some (.string ph.2.1) := (HBA.out.quiet (hG9.trans hGc)).cell 1
                        have y5 : w11.cell? ⟨gB, 1, none⟩ = some (.string qh.2.1) := (HBB.out.quiet (hG9.trans hGc)).cell 1
                        cases hv : (x.1.toList == y.1.toList) with
                        | true =>
                          have HFV : Hid (ckF alV x ql cc = ckF alV x (ql.drop (j4 + 1)) (min c (max x.2.1.1 y.2.1.1))) := Lib.hid (by rw [HQV.out, ckS, if_pos (by simp [ckP, alV, hlt, hv])]; rfl)
                          cases hdd : (ph.2.1.toList == qh.2.1.toList) with
                          | true =>
                            have HFD : Hid (ckF (alD ph qh) x ql dd = ckF (alD ph qh) x (ql.drop (j4 + 1)) (min d (max x.2.1.1 y.2.1.1))) := Lib.hid (by rw [HQD.out, ckS, if_pos (by simp [ckP, alD, hlt, hdd])]; rfl)
                            go_wp2_with fail
                            go_roundw
                            case rel => exact ⟨j4 + 1, _, _, by omega, rfl, rfl, by go_num, HFV.out, HFD.out, hGc⟩
                            case measure => have := HJ4.out; simp [intOf]; omega
                          | false =>
                            have HFD : Hid (ckF (alD ph qh) x ql dd = ckF (alD ph qh) x (ql.drop (j4 + 1)) (d)) := Lib.hid (by rw [HQD.out, ckS, if_neg (by simp [ckP, alD, hdd])])
                            go_wp2_with fail
                            go_roundw
                            case rel => exact ⟨j4 + 1, _, _, by omega, rfl, rfl, by go_num, HFV.out, HFD.out, hGc⟩
                            case measure => have := HJ4.out; simp [intOf]; omega
                        | false =>
                          have HFV : Hid (ckF alV x ql cc = ckF alV x (ql.drop (j4 + 1)) (c)) := Lib.hid (by rw [HQV.out, ckS, if_neg (by simp [ckP, alV, hv])])
                          cases hdd : (ph.2.1.toList == qh.2.1.toList) with
                          | true =>
                            have HFD : Hid (ckF (alD ph qh) x ql dd = ckF (alD ph qh) x (ql.drop (j4 + 1)) (min d (max x.2.1.1 y.2.1.1))) := Lib.hid (by rw [HQD.out, ckS, if_pos (by simp [ckP, alD, hlt, hdd])]; rfl)
                            go_wp2_with fail
                            go_roundw
                            case rel => exact ⟨j4 + 1, _, _, by omega, rfl, rfl, by go_num, HFV.out, HFD.out, hGc⟩
                            case measure => have := HJ4.out; simp [intOf]; omega
                          | false =>
                            have HFD : Hid (ckF (alD ph qh) x ql dd = ckF (alD ph qh) x (ql.drop (j4 + 1)) (d)) := Lib.hid (by rw [HQD.out, ckS, if_neg (by simp [ckP, alD, hdd])])
                            go_wp2_with fail
                            go_roundw
                            case rel => exact ⟨j4 + 1, _, _, by omega, rfl, rfl, by go_num, HFV.out, HFD.out, hGc⟩
                            case measure => have := HJ4.out; simp [intOf]; omega
                      · rw [decide_eq_false hlt]
                        have HFV : Hid (ckF alV x ql cc = ckF alV x (ql.drop (j4 + 1)) c) := Lib.hid (by rw [HQV.out, ckS, if_neg (by simp [ckP, hlt])])
                        have HFD : Hid (ckF (alD ph qh) x ql dd = ckF (alD ph qh) x (ql.drop (j4 + 1)) d) := Lib.hid (by rw [HQD.out, ckS, if_neg (by simp [ckP, hlt])])
                        go_wp2_with fail
                        go_roundw
                        case rel => exact ⟨j4 + 1, c, d, by omega, rfl, rfl, by go_num, HFV.out, HFD.out, hGc⟩
                        case measure => have := HJ4.out; simp [intOf]; omega
                  · obtain rfl : j4 = ql.length := by omega
                    have HEV : Hid (ckF alV x ql cc = c) := Lib.hid (by rw [HV4.out, List.drop_length]; rfl)
                    have HED : Hid (ckF (alD ph qh) x ql dd = d) := Lib.hid (by rw [HD4.out, List.drop_length]; rfl)
                    go_wp2_with fail
                    go_roundw
                    case rel => exact ⟨k3 + 1, c, d, by omega, rfl, rfl, by go_num, by rw [HPV.out, HEV.out], by rw [HPD.out, HED.out], hG9.trans hG4⟩
                    case measure => have := HK3.out; simp [intOf]; omega
              · obtain rfl : k3 = pl.length := by omega
                obtain ⟨c, hcc⟩ : ∃ c, c = cc := ⟨_, rfl⟩
                obtain ⟨d, hdd⟩ : ∃ d, d = dd := ⟨_, rfl⟩
                subst hcc
                subst hdd
                have HRO : Hid (acc ++ (acc2 ++ rlOf ph qh pl ql) = (acc ++ acc2) ++ (rkL ph.1 qh.1 1 c ++ rkL ph.1 qh.1 2 d)) := Lib.hid (by
                  rw [← List.append_assoc, rlOf, HV3.out, HD3.out, List.drop_length]; rfl)
                have hAc : wr.cell? ⟨gA, 0, none⟩ = some (.string ph.1) := (HBA.out.quiet hG3).cell 0
                have hBc : wr.cell? ⟨gB, 0, none⟩ = some (.string qh.1) := (HBB.out.quiet hG3).cell 0
                have hownE := OwnX.quiet HOWN.out hG3
                have hBA := HBA.out.quiet hG3
                have hBB := HBB.out.quiet hG3
                have hGE := HG7.out.trans hG3
                have hszE := hGE.size
                by_cases hc : c < 5761440
                · by_cases hd : d < 5761440
                  · have hownA8 := OwnX.alloc hownE (.cells #[.string ph.1, .string qh.1, .int .i64 1, .int .i64 c] 75)
                    have hBA8 := hBA.alloc (.cells #[.string ph.1, .string qh.1, .int .i64 1, .int .i64 c] 75)
                    have hBB8 := hBB.alloc (.cells #[.string ph.1, .string qh.1, .int .i64 1, .int .i64 c] 75)
                    have hob8 := OwnX.low hownE
                    go_upto_region 27 with (at_builtin; refine wpList_plain rfl fun K' hK' => wp_append_x ks_rowOk _ _ rfl w3.heap.size u3 (acc ++ acc2) rfl hownA8 wr.heap.size (ph.1, qh.1, 1, c) rfl (Bk.new wr _ _) (by rw [List.length_append]; omega) (by simp; omega) ?_; intro v8 x8 hown8 hgrow8; have hBA8x := hBA8.grown hgrow8 (OwnX.apart hownA8 hBA8 (by decide)); have hBB8x := hBB8.grown hgrow8 (OwnX.apart hownA8 hBB8 (by decide)); have hAc8 : x8.cell? ⟨gA, 0, none⟩ = some (.string ph.1) := hBA8x.cell 0; have hBc8 : x8.cell? ⟨gB, 0, none⟩ = some (.string qh.1) := hBB8x.cell 0; refine hK' _ _ ?_)
                    have hG8 := (hGE.alloc (.cells #[.string ph.1, .string qh.1, .int .i64 1, .int .i64 c] 75)).other hgrow8 (fun r e => .inl (hob8 r e))
                    have hsz8 := hG8.size
                    have hob8x := OwnX.low hown8
                    have hownA9 := OwnX.alloc hown8 (.cells #[.string ph.1, .string qh.1, .int .i64 2, .int .i64 d] 75)
                    have hBA9 := hBA8x.alloc (.cells #[.string ph.1, .string qh.1, .int .i64 2, .int .i64 d] 75)
                    have hBB9 := hBB8x.alloc (.cells #[.string ph.1, .string qh.1, .int .i64 2, .int .i64 d] 75)
                    have hob9 := OwnX.low hown8
                    go_wp2_with (at_builtin; refine wpList_plain rfl fun K' hK' => wp_append_x ks_rowOk _ _ rfl w3.heap.size v8 (acc ++ acc2 ++ [(ph.1, qh.1, 1, c)]) rfl hownA9 x8.heap.size (ph.1, qh.1, 2, d) rfl (Bk.new x8 _ _) (by rw [List.length_append, List.length_append, List.length_singleton]; omega) (by simp; omega) ?_; intro v9 x9 hown9 hgrow9; have hBA9x := hBA9.grown hgrow9 (OwnX.apart hownA9 hBA9 (by decide)); have hBB9x := hBB9.grown hgrow9 (OwnX.apart hownA9 hBB9 (by decide)); have hAc9 : x9.cell? ⟨gA, 0, none⟩ = some (.string ph.1) := hBA9x.cell 0; have hBc9 : x9.cell? ⟨gB, 0, none⟩ = some (.string qh.1) := hBB9x.cell 0; refine hK' _ _ ?_)
                    go_roundw
                    case rel => exact ⟨j + 1, acc2 ++ rlOf ph qh pl ql, by omega, by go_num, HDQ.out, by rw [List.length_append]; have := hln2.out; omega, by rw [HRO.out]; rw [show rkL ph.1 qh.1 1 c = [(ph.1, qh.1, 1, c)] from if_pos hc, show rkL ph.1 qh.1 2 d = [(ph.1, qh.1, 2, d)] from if_pos hd, ← List.append_assoc]; exact hown9, hBA9x, (hG8.alloc _).other hgrow9 (fun r e => .inl (hob9 r e))⟩
                    case measure => have := HJ.out; simp [intOf]; omega
                  · have hownA8 := OwnX.alloc hownE (.cells #[.string ph.1, .string qh.1, .int .i64 1, .int .i64 c] 75)
                    have hBA8 := hBA.alloc (.cells #[.string ph.1, .string qh.1, .int .i64 1, .int .i64 c] 75)
                    have hBB8 := hBB.alloc (.cells #[.string ph.1, .string qh.1, .int .i64 1, .int .i64 c] 75)
                    have hob8 := OwnX.low hownE
                    go_wp2_with (at_builtin; refine wpList_plain rfl fun K' hK' => wp_append_x ks_rowOk _ _ rfl w3.heap.size u3 (acc ++ acc2) rfl hownA8 wr.heap.size (ph.1, qh.1, 1, c) rfl (Bk.new wr _ _) (by rw [List.length_append]; omega) (by simp; omega) ?_; intro v8 x8 hown8 hgrow8; have hBA8x := hBA8.grown hgrow8 (OwnX.apart hownA8 hBA8 (by decide)); have hBB8x := hBB8.grown hgrow8 (OwnX.apart hownA8 hBB8 (by decide)); have hAc8 : x8.cell? ⟨gA, 0, none⟩ = some (.string ph.1) := hBA8x.cell 0; have hBc8 : x8.cell? ⟨gB, 0, none⟩ = some (.string qh.1) := hBB8x.cell 0; refine hK' _ _ ?_)
                    have hG8 := (hGE.alloc (.cells #[.string ph.1, .string qh.1, .int .i64 1, .int .i64 c] 75)).other hgrow8 (fun r e => .inl (hob8 r e))
                    have hsz8 := hG8.size
                    have hob8x := OwnX.low hown8
                    go_wp2_with fail
                    go_roundw
                    case rel => exact ⟨j + 1, acc2 ++ rlOf ph qh pl ql, by omega, by go_num, HDQ.out, by rw [List.length_append]; have := hln2.out; omega, by rw [HRO.out]; rw [show rkL ph.1 qh.1 1 c = [(ph.1, qh.1, 1, c)] from if_pos hc, show rkL ph.1 qh.1 2 d = [] from if_neg hd, List.append_nil]; exact hown8, hBA8x, hG8⟩
                    case measure => have := HJ.out; simp [intOf]; omega
                · by_cases hd : d < 5761440
                  · have hownA9 := OwnX.alloc hownE (.cells #[.string ph.1, .string qh.1, .int .i64 2, .int .i64 d] 75)
                    have hBA9 := hBA.alloc (.cells #[.string ph.1, .string qh.1, .int .i64 2, .int .i64 d] 75)
                    have hBB9 := hBB.alloc (.cells #[.string ph.1, .string qh.1, .int .i64 2, .int .i64 d] 75)
                    have hob9 := OwnX.low hownE
                    go_wp2_with (at_builtin; refine wpList_plain rfl fun K' hK' => wp_append_x ks_rowOk _ _ rfl w3.heap.size u3 (acc ++ acc2) rfl hownA9 wr.heap.size (ph.1, qh.1, 2, d) rfl (Bk.new wr _ _) (by rw [List.length_append]; omega) (by simp; omega) ?_; intro v9 x9 hown9 hgrow9; have hBA9x := hBA9.grown hgrow9 (OwnX.apart hownA9 hBA9 (by decide)); have hBB9x := hBB9.grown hgrow9 (OwnX.apart hownA9 hBB9 (by decide)); have hAc9 : x9.cell? ⟨gA, 0, none⟩ = some (.string ph.1) := hBA9x.cell 0; have hBc9 : x9.cell? ⟨gB, 0, none⟩ = some (.string qh.1) := hBB9x.cell 0; refine hK' _ _ ?_)
                    go_roundw
                    case rel => exact ⟨j + 1, acc2 ++ rlOf ph qh pl ql, by omega, by go_num, HDQ.out, by rw [List.length_append]; have := hln2.out; omega, by rw [HRO.out]; rw [show rkL ph.1 qh.1 1 c = [] from if_neg hc, show rkL ph.1 qh.1 2 d = [(ph.1, qh.1, 2, d)] from if_pos hd, List.nil_append]; exact hown9, hBA9x, (hGE.alloc _).other hgrow9 (fun r e => .inl (hob9 r e))⟩
                    case measure => have := HJ.out; simp [intOf]; omega
                  · go_wp2_with fail
                    go_roundw
                    case rel => exact ⟨j + 1, acc2 ++ rlOf ph qh pl ql, by omega, by go_num, HDQ.out, by rw [List.length_append]; have := hln2.out; omega, by rw [HRO.out]; rw [show rkL ph.1 qh.1 1 c = [] from if_neg hc, show rkL ph.1 qh.1 2 d = [] from if_neg hd, List.append_nil, List.append_nil]; exact hownE, hBA, hGE⟩
                    case measure => have := HJ.out; simp [intOf]; omega
          · obtain rfl : j = R.length := by omega
            have hrow : clRow (ph, (some ⟨b3, o3, none⟩, pc), pl) R = acc2 := by rw [HQ2.out, List.drop_length]; simp [clRow]
            go_wp2_with fail
            go_roundw
            case rel => exact ⟨k + 1, acc ++ acc2, by omega, by go_num, by rw [HD.out, hrow, List.append_assoc], by rw [List.length_append]; have := HRL.out; omega, hown6, hG6⟩
            case measure => have := HK.out; simp [intOf]; omega
    · obtain rfl : k = L.length := by omega
      have hall2 : clAll L = acc := by rw [HEQ.out, List.drop_length]; simp [clAll]
      go_wp2_with fail
      go_ret
      exact ⟨_, rfl, by rw [hRS.out, hall2]; exact Rd.of_owns hown, hGr⟩
end Go.Proofs.YtdcofbciebkfkaaDoor

/- What was picked; a block as a row; 'when' at literals. -/
namespace Go.Proofs.YtdcofbciebkfkaaDoor
open Go.RowKit

theorem small_of {s : ByteArray} (h : s.size ≤ 100) : Small s := by unfold Small; omega
theorem bnd_pick {zs : List Int} {r : Int} (h : r ∈ zs) (hz : zs.all (fun z => decide (-1099511627776 ≤ z ∧ z ≤ 1099511627776)) = true) : bnd r := by
  unfold bnd
  exact of_decide_eq_true (List.all_eq_true.1 hz r h)
theorem small_pick {zs : List ByteArray} {r : ByteArray} (h : r ∈ zs) (hz : zs.all (fun z => decide (z.size ≤ 100)) = true) : Small r := small_of (of_decide_eq_true (List.all_eq_true.1 hz r h))
theorem Bk.rd {w : World} {g : Nat} {T : TypeId} {cs : Array Value} (h : Bk w g T cs) (z n : Nat) (hc : cs.size = n * z) (hn : n ≤ 1000) : Rd w z (.slice (some ⟨g, 0, none⟩) n n) n cs.toList := by
  refine ⟨_, n, rfl, Nat.le_refl _, by unfold maxLen; omega, by simpa using hc, (fun e => by cases e), fun b hb => ?_⟩
  obtain rfl := Option.some.inj hb
  refine ⟨rfl, h.lt, fun j u hj => ?_⟩
  rw [Nat.zero_add, h.cell]
  simpa using hj
theorem when_t (n : Int) (w : World) : Calls Tryd.prog 107 #[.bool true, .int .i64 n] w fun e w' => e = .returned (.int .i64 n) ∧ w = w' := by simpa using when_c true n w
theorem when_f (n : Int) (w : World) : Calls Tryd.prog 107 #[.bool false, .int .i64 n] w fun e w' => e = .returned (.int .i64 0) ∧ w = w' := by simpa using when_c false n w
end Go.Proofs.YtdcofbciebkfkaaDoor

/- Generator: a reading. -/
namespace Go.Proofs.YtdcofbciebkfkaaDoor
open Go.RowKit

def bnd2 (n : Int) : Prop := -2199023255552 ≤ n ∧ n ≤ 2199023255552
def rgB (x : Rg) : Prop := bnd2 x.1 ∧ Small x.2.1 ∧ bnd x.2.2.1 ∧ bnd x.2.2.2
def ReadingPost (s K : Nat) (w : World) (e : Ending) (w' : World) : Prop :=
  ∃ r : Rg, e = .returned (.agg (rgC r)) ∧ rgB r ∧ SB w' s (K + 12) ∧ G w w' (some s)
theorem rg_one (x : Rg) : (rgC x).all (·.oneCell') = true := by simp [rgC, Value.oneCell']
theorem reading_fin {w w3 : World} {s K : Nat} {r : Rg} (hs : s < w.heap.size) (hr : rgB r) (hSB : SB w3 s (K + 12)) (hG : G w w3 (some s)) :
    ReadingPost s K w (.returned (.agg (rgC r))) (w3.setRow w.heap.size (rgC r)) :=
  ⟨r, rfl, hr, hSB.setRow hs _, hG.setRow (.inl (Nat.le_refl _)) _⟩
set_option maxRecDepth 100000 in
set_option maxHeartbeats 4000000 in
theorem reading_c (t : Int) (w : World) (s : Nat) (K : Nat) (ht : bnd t) (hs : SB w s K) (hk : K ≤ 900000000000) :
    Calls Tryd.prog 13 #[.pointer (some ⟨s, 0, none⟩), .int .i64 t] w (ReadingPost s K w) := by
  have hslt := hs.lt
  unfold bnd at ht
  have HT := Lib.hid ht
  obtain ⟨ht0, ht1⟩ := ht
  go_enter Tryd.func13, Tryd.ntmps13
  go_wp2_with fail
  refine (some_c _ _ _ [⟨#[115, 49]⟩, ⟨#[115, 49]⟩, ⟨#[115, 50]⟩, ⟨#[115, 51]⟩] _ _ K ((hs.alloc _).alloc _) (by omega) (by decide) (by decide) (Rd.newAt _ (by simp) rfl (by decide)) (hs.newAt _ _ _ (by omega))).mono ?_
  rintro e w2 ⟨k, rfl, hp, hSB2, hG2⟩
  have HK := Lib.hid (small_pick hp (by decide))
  have hz2 : w.heap.size + 2 ≤ w2.heap.size := by have := hG2.size; simp at this; omega
  have hB2 := ((Bk.new w 37 #[.int .i64 0, .string ⟨#[]⟩, .int .i64 0, .int .i64 0]).alloc (.cells _ 9)).grown hG2 (by simp; omega)
  have hG02 : G w w2 (some s) := (((G.refl w (some s)).alloc _).alloc _).trans hG2
  clear hG2 hp
  go_wp2_with fail
  refine (pick_c _ _ _ [0, 5, 100, 500, 999990, 999999] _ _ _ (hSB2.alloc _) (by omega) (by decide) (by decide) (Rd.newAt _ rfl rfl (by decide)) (hSB2.newAt _ _ _ (Nat.le_refl _))).mono ?_
  rintro e w3 ⟨m, rfl, hp, hSB3, hG3⟩
  have HM := Lib.hid (bnd_pick hp (by decide))
  have hB3 := (hB2.alloc (.cells _ 3)).grown hG3 (by simp; omega)
  have hG03 := (hG02.alloc _).trans hG3
  clear hG3 hp hB2 hG02 hSB2 hz2
  go_wp2_with fail
  refine (range_c 0 8 _ _ _ hSB3 (by omega) (by omega) (by omega) (by omega)).mono ?_; rintro e w4 ⟨f, rfl, f0, f1, hSB4, hG4⟩
  have HF : Hid (bnd f) := Lib.hid (by unfold bnd; omega)
  have hB4 := hB3.grown hG4 (fun e => by have := Option.some.inj e; omega)
  have hG04 := hG03.trans hG4
  clear hG4 hB3 hG03 hSB3 f0 f1
  have hN5 := Bk.new w4 37 #[.int .i64 t, .string k, .int .i64 m, .int .i64 f]
  have hSB5 := hSB4.alloc (.cells #[.int .i64 t, .string k, .int .i64 m, .int .i64 f] 37)
  have hB5 := hB4.alloc (.cells #[.int .i64 t, .string k, .int .i64 m, .int .i64 f] 37)
  have hG05 := hG04.alloc (.cells #[.int .i64 t, .string k, .int .i64 m, .int .i64 f] 37)
  have hs4 := hSB4.lt
  have hl4 := hB4.lt
  have hgw : w.heap.size ≤ w4.heap.size := hG04.size
  clear hB4 hG04 hSB4
  go_wp2_with fail
  generalize w4.alloc (.cells #[.int .i64 t, .string k, .int .i64 m, .int .i64 f] 37) = w5 at hN5 hSB5 hB5 hG05 ⊢
  generalize w4.heap.size = g at hN5 hs4 hl4 hgw ⊢
  refine (flip_c _ _ _ _ hSB5 (by omega) (by omega)).mono ?_; rintro e w6 ⟨q, rfl, hSB6, hG6⟩
  have hN6 := hN5.grown hG6 (fun e => by have := Option.some.inj e; omega)
  have hB6 := hB5.grown hG6 (fun e => by have := Option.some.inj e; omega)
  have hG06 := hG05.trans hG6
  clear hN5 hB5 hG05 hG6 hSB5
  cases q with
  | false =>
    go_wp2_with (first | (refine wpList_load_row rfl 37 _ rfl g rfl 37 #[.int .i64 t, .string k, .int .i64 m, .int .i64 f] (0, 0) _ hN6 Tryd.underlying37 rfl (rg_info (t, k, m, f)) ?_) | (refine wpList_store_row rfl 37 _ _ rfl w.heap.size #[.int .i64 t, .string k, .int .i64 m, .int .i64 f] rfl rfl 37 _ hB6 (rg_info (t, k, m, f)) rfl (rg_one (t, k, m, f)) ?_))
    refine bodyPost_ret (results_cell_row rfl _ _ w.heap.size 37 #[.int .i64 t, .string k, .int .i64 m, .int .i64 f] (0, 0) _ rfl (hB6.setRow _) Tryd.underlying37 rfl (rg_info (t, k, m, f))) rfl ?_
    exact reading_fin (r := (t, k, m, f)) hslt ⟨by have := HT.out; unfold bnd2; dsimp only; omega, HK.out, HM.out, HF.out⟩ (hSB6.le (by omega)) hG06
  | true =>
    have hwr : IntKind.i64.wrap (t + 1) = t + 1 := by rw [IntKind.wrap_i64]; omega
    go_wp2_with fail
    refine (pick_c _ _ _ [t, t + 1, -1, 5761440] _ _ _ (hSB6.alloc _) (by omega) (by decide) (by decide) (Rd.newAt _ rfl rfl (by decide)) (hSB6.newAt _ _ _ (Nat.le_refl _))).mono ?_; rintro e w7 ⟨t2, rfl, hp, hSB7, hG7⟩
    have HT2 : Hid (bnd2 t2) := Lib.hid (by simp only [List.mem_cons, List.mem_nil_iff, or_false] at hp; unfold bnd2; omega)
    have hN7 := (hN6.alloc (.cells _ 3)).grown hG7 (fun e => by have := Option.some.inj e; omega)
    have hB7 := (hB6.alloc (.cells _ 3)).grown hG7 (fun e => by have := Option.some.inj e; omega)
    have hG07 := (hG06.alloc _).trans hG7
    clear hN6 hB6 hG06 hG7 hSB6 hp
    go_wp2_with fail
    refine (some_c _ _ _ [⟨#[115, 49]⟩, ⟨#[]⟩, ⟨#[65]⟩] _ _ _ (hSB7.alloc _) (by omega) (by decide) (by decide) (Rd.newAt _ rfl rfl (by decide)) (hSB7.newAt _ _ _ (Nat.le_refl _))).mono ?_; rintro e w8 ⟨k2, rfl, hp, hSB8, hG8⟩
    have HK2 := Lib.hid (small_pick hp (by decide))
    have hN8 := (hN7.alloc (.cells _ 9)).grown hG8 (fun e => by have := Option.some.inj e; omega)
    have hB8 := (hB7.alloc (.cells _ 9)).grown hG8 (fun e => by have := Option.some.inj e; omega)
    have hG08 := (hG07.alloc _).trans hG8
    clear hN7 hB7 hG07 hG8 hSB7 hp
    go_wp2_with fail
    refine (odd_c _ _ _ _ _ hSB8 (by omega) (by omega) (by omega) (by omega) (by omega)).mono ?_; rintro e w9 ⟨m2, rfl, m20, m21, hSB9, hG9⟩
    have HM2 : Hid (bnd m2) := Lib.hid ⟨m20, m21⟩
    have hN9 := hN8.grown hG9 (fun e => by have := Option.some.inj e; omega)
    have hB9 := hB8.grown hG9 (fun e => by have := Option.some.inj e; omega)
    have hG09 := hG08.trans hG9
    clear hN8 hB8 hG08 hG9 hSB8 m20 m21
    go_wp2_with fail
    refine (odd_c _ _ _ _ _ hSB9 (by omega) (by omega) (by omega) (by omega) (by omega)).mono ?_; rintro e wa ⟨f2, rfl, f20, f21, hSBa, hGa⟩
    have HF2 : Hid (bnd f2) := Lib.hid ⟨f20, f21⟩
    have hNa := hN9.grown hGa (fun e => by have := Option.some.inj e; omega)
    have hBa := hB9.grown hGa (fun e => by have := Option.some.inj e; omega)
    have hG0a := hG09.trans hGa
    clear hN9 hB9 hG09 hGa hSB9 f20 f21 hwr
    have n0 : wa.cell? ⟨g, 0, none⟩ = some (.int .i64 t) := hNa.cell 0
    have n1 : wa.cell? ⟨g, 1, none⟩ = some (.string k) := hNa.cell 1
    have n2 : wa.cell? ⟨g, 2, none⟩ = some (.int .i64 m) := hNa.cell 2
    have n3 : wa.cell? ⟨g, 3, none⟩ = some (.int .i64 f) := hNa.cell 3
    have x0 := hNa.free 0
    have x1 := hNa.free 1
    have x2 := hNa.free 2
    have x3 := hNa.free 3
    go_upto_region 4 with fail
    have hNb : Bk ((((wa.setCell ⟨g, 0, none⟩ (.int .i64 t2)).setCell ⟨g, 1, none⟩ (.string k2)).setCell ⟨g, 2, none⟩ (.int .i64 m2)).setCell ⟨g, 3, none⟩ (.int .i64 f2)) g 37 #[.int .i64 t2, .string k2, .int .i64 m2, .int .i64 f2] := (((hNa.set 0 _).set 1 _).set 2 _).set 3 _
    have hBb := (((hBa.far (p := ⟨g, 0, none⟩) (show w.heap.size ≠ g by omega) (.int .i64 t2)).far (p := ⟨g, 1, none⟩) (show w.heap.size ≠ g by omega) (.string k2)).far (p := ⟨g, 2, none⟩) (show w.heap.size ≠ g by omega) (.int .i64 m2)).far (p := ⟨g, 3, none⟩) (show w.heap.size ≠ g by omega) (.int .i64 f2)
    have hSBb := (((hSBa.setCell (p := ⟨g, 0, none⟩) hs4 (.int .i64 t2)).setCell (p := ⟨g, 1, none⟩) hs4 (.string k2)).setCell (p := ⟨g, 2, none⟩) hs4 (.int .i64 m2)).setCell (p := ⟨g, 3, none⟩) hs4 (.int .i64 f2)
    have hGb := (((hG0a.setCell (p := ⟨g, 0, none⟩) (.inl hgw) (.int .i64 t2)).setCell (p := ⟨g, 1, none⟩) (.inl hgw) (.string k2)).setCell (p := ⟨g, 2, none⟩) (.inl hgw) (.int .i64 m2)).setCell (p := ⟨g, 3, none⟩) (.inl hgw) (.int .i64 f2)
    generalize (((wa.setCell ⟨g, 0, none⟩ (.int .i64 t2)).setCell ⟨g, 1, none⟩ (.string k2)).setCell ⟨g, 2, none⟩ (.int .i64 m2)).setCell ⟨g, 3, none⟩ (.int .i64 f2) = wb at hNb hBb hSBb hGb ⊢
    go_wp2_with (first | (refine wpList_load_row rfl 37 _ rfl g rfl 37 #[.int .i64 t2, .string k2, .int .i64 m2, .int .i64 f2] (0, 0) _ hNb Tryd.underlying37 rfl (rg_info (t2, k2, m2, f2)) ?_) | (refine wpList_store_row rfl 37 _ _ rfl w.heap.size #[.int .i64 t2, .string k2, .int .i64 m2, .int .i64 f2] rfl rfl 37 _ hBb (rg_info (t2, k2, m2, f2)) rfl (rg_one (t2, k2, m2, f2)) ?_))
    refine bodyPost_ret (results_cell_row rfl _ _ w.heap.size 37 #[.int .i64 t2, .string k2, .int .i64 m2, .int .i64 f2] (0, 0) _ rfl (hBb.setRow _) Tryd.underlying37 rfl (rg_info (t2, k2, m2, f2))) rfl ?_
    exact reading_fin (r := (t2, k2, m2, f2)) hslt ⟨HT2.out, HK2.out, HM2.out, HF2.out⟩ (hSBb.le (by omega)) hGb
end Go.Proofs.YtdcofbciebkfkaaDoor
