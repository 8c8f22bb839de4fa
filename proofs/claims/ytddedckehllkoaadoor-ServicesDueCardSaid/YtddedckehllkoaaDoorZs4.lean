/- Bye, Dus, Dud, Giv, Svg, Sdg, Er2, Sdl, Lay. -/
import Derived.Test.YtddedckehllkoaaDoorZs3
import Derived.Deep.CutRange
import Derived.Test.YtddedckehllkoaaDoorZs1
import Derived.Test.YtddedckehllkoaaDoorZs2
import Derived.Test.YtddedckehllkoaaDoorRows
import Derived.Test.YtddedckehllkoaaDoorTie
import Derived.Test.YtddedckehllkoaaDoorCards
import Derived.LaidMore
import Derived.ChangeSame
import Derived.ProofKit
import Derived.OpenShut
import Derived.PinnedBridge
import Derived.Deep.DeepHandedRow
import Derived.Deep.DeepWitnessRowRef
/- What is due first: shift.By, the reference's ByOf. Written by genbye.py. -/
namespace Go.Proofs.YtddedckehllkoaaDoor
open Go.RowKit

theorem byE_ok {l : List Du} {t y : Int} (h : byE l t y = 0) : deE l = 0 ∧ (0 ≤ t ∧ t ≤ 4000) ∧ 0 ≤ y ∧ y ≤ 10000 := by
  unfold byE at h
  split at h
  · rename_i h0
    split at h
    · omega
    rename_i k1
    split at h
    · omega
    rename_i k2
    simp [inB] at k1 k2
    exact ⟨h0, by omega, by omega⟩
  · rename_i h0; exact absurd h h0
theorem bsL_one (t y : Int) (x : Du) : bsL t y (x.1, dayL t y x) [x] = (x.1, dayL t y x) := by
  unfold bsL
  simp
def ByRel (w : World) (l : List Du) (t y : Int) (p0 : ByteArray × Int) (s10 s11 i : Value) (wr : World) : Prop :=
  ∃ (k f : Nat) (p : ByteArray × Int), k ≤ l.length ∧ i = .int .i64 k ∧ s10 = .int .i64 f ∧ s11 = .int .i64 p.2 ∧ (∃ z, l[f]? = some z ∧ z.1 = p.1) ∧ p = bsL t y p0 (l.take k) ∧ G w wr none
def ByoRel (w : World) (l : List Du) (t y : Int) (p0 : ByteArray × Int) (s8 s9 i : Value) (wr : World) : Prop :=
  ∃ (k : Nat) (p : ByteArray × Int), k ≤ l.length ∧ i = .int .i64 k ∧ s8 = .string p.1 ∧ s9 = .int .i64 p.2 ∧ p = (if k = 0 then (⟨#[]⟩, 0) else bsL t y p0 (l.take k)) ∧ G w wr none
set_option maxRecDepth 100000 in
set_option maxHeartbeats 4000000 in
theorem by_c (v : Value) (l : List Du) (t y : Int) (w : World) (hr : RdR w 3 duC v l) (hn : l.length ≤ 1000) :
    Calls Tryd.prog 64 #[v, .int .i64 t, .int .i64 y] w fun e w' => e = .returned (.tuple #[.string (if byE l t y = 0 then (byR l t y).1 else ⟨#[]⟩), .int .i64 (if byE l t y = 0 then (byR l t y).2 else 0), .int .i64 (byE l t y)]) ∧ G w w' none := by
  have HR := Lib.hid hr
  have CD := Lib.hid (checkDues_c v l w hr hn)
  obtain ⟨a, cap, rfl, hcap, hm⟩ := RdR.form hr
  clear hr
  obtain ⟨A, hA⟩ : ∃ A, (if byE l t y = 0 then (byR l t y).1 else ⟨#[]⟩) = A := ⟨_, rfl⟩
  obtain ⟨B, hB⟩ : ∃ B, (if byE l t y = 0 then (byR l t y).2 else 0) = B := ⟨_, rfl⟩
  obtain ⟨E, hE⟩ : ∃ E, byE l t y = E := ⟨_, rfl⟩
  rw [hA, hB, hE]
  rw [hE] at hA hB
  have HE0 : Hid (E = if deE l = 0 then (if inB t 0 4000 = false then 1 else if inB y 0 10000 = false then 1 else 0) else deE l) := Lib.hid hE.symm
  have HX1 : Hid (E = 0 → A = (byR l t y).1 ∧ B = (byR l t y).2) := Lib.hid (fun e => by rw [if_pos e] at hA hB; exact ⟨hA.symm, hB.symm⟩)
  have HX0 : Hid (E ≠ 0 → A = ⟨#[]⟩ ∧ B = 0) := Lib.hid (fun e => by rw [if_neg e] at hA hB; exact ⟨hA.symm, hB.symm⟩)
  have HOK : Hid (E = 0 → deE l = 0 ∧ (0 ≤ t ∧ t ≤ 4000) ∧ 0 ≤ y ∧ y ≤ 10000) := Lib.hid (fun e => byE_ok (hE.trans e))
  have HDE : Hid (deE l = 0 → (∀ x ∈ l, (0 ≤ x.2.1 ∧ x.2.1 ≤ 1000000) ∧ -1000000000 ≤ x.2.2 ∧ x.2.2 ≤ 1000000000) ∧ 0 < l.length) := Lib.hid deE_ok
  clear hA hB hE
  generalize deE l = D at CD HE0 HOK HDE
  go_enter Tryd.func64, Tryd.ntmps64
  go_wp2_with fail
  refine CD.out.mono ?_; rintro e w1 ⟨rfl, hG⟩
  by_cases d0 : D = 0
  case neg =>
    obtain rfl : E = D := by rw [HE0.out, if_neg d0]
    obtain ⟨rfl, rfl⟩ := HX0.out d0
    have he : (E != 0) = true := bne_iff_ne.2 d0
    clear HX0 HX1 HOK HE0 HDE CD d0
    go_wp2_with fail
    go_ret3
    exact ⟨rfl, hG⟩
  subst d0
  have HT : Hid (E = if inB t 0 4000 = false then 1 else if inB y 0 10000 = false then 1 else 0) := Lib.hid (by have h := HE0.out; simpa using h)
  have HD2 := Lib.hid (HDE.out rfl)
  clear HE0 HDE CD
  go_wp2_with fail
  refine (svDay_c t _).mono ?_; rintro e w' ⟨rfl, rfl⟩
  cases k1 : inB t 0 4000 with
  | false =>
    obtain rfl : E = 1 := by rw [HT.out, if_pos k1]
    obtain ⟨rfl, rfl⟩ := HX0.out (by omega)
    clear HX0 HX1 HOK HT k1
    go_wp2_with fail
    go_ret3
    exact ⟨rfl, hG⟩
  | true =>
  have K1 := Lib.hid k1
  clear k1
  go_wp2_with fail
  refine (within_c y 0 10000 _).mono ?_; rintro e w' ⟨rfl, rfl⟩
  cases k2 : inB y 0 10000 with
  | false =>
    obtain rfl : E = 1 := by rw [HT.out, if_neg (by simp [K1.out]), if_pos k2]
    obtain ⟨rfl, rfl⟩ := HX0.out (by omega)
    clear HX0 HX1 HOK HT k2
    go_wp2_with fail
    go_ret3
    exact ⟨rfl, hG⟩
  | true =>
  obtain rfl : E = 0 := by rw [HT.out, if_neg (by simp [K1.out]), if_neg (by simp [k2])]
  obtain ⟨rfl, rfl⟩ := HX1.out rfl
  obtain ⟨-, ht, hy⟩ := HOK.out rfl
  have HTY := Lib.hid (And.intro ht hy)
  clear HX0 HX1 HOK HT k2 ht hy K1
  obtain ⟨hb, hpos⟩ := HD2.out
  have HBB := Lib.hid hb
  obtain ⟨⟨q0, b0, c0⟩, hp0⟩ : ∃ x, l[0]? = some x := ⟨_, List.getElem?_eq_getElem hpos⟩
  have HX0 := Lib.hid (hb _ (List.mem_of_getElem? hp0))
  have HRL : Hid (byR l t y = bsL t y (q0, dayL t y (q0, b0, c0)) l) := Lib.hid (by
    cases l with
    | nil => cases hp0
    | cons x r => cases hp0; rfl)
  have HP0 := Lib.hid hp0
  obtain ⟨bb, bo, rfl, -, -⟩ := RdR.elem duC_sz HR.out hG hp0
  have z0 := RdR.cell duC_sz HR.out hG hp0 0 (.string q0) rfl
  have z1 := RdR.cell duC_sz HR.out hG hp0 1 (.int .i64 b0) rfl
  have z2 := RdR.cell duC_sz HR.out hG hp0 2 (.int .i64 c0) rfl
  simp only [Nat.zero_mul, Nat.add_zero] at z0 z1 z2
  have hpi : (0 : Int) < (l.length : Int) := by omega
  clear hb hp0 HD2
  go_wp2_with fail
  refine (dayOf_c q0 b0 c0 t y _ HX0.out.1 HX0.out.2 HTY.out.1 HTY.out.2).mono ?_; rintro e w2 ⟨rfl, hh⟩
  replace hG := hG.trans hh
  clear hh z0 z1 z2
  generalize hp9 : ((q0, dayL t y (q0, b0, c0)) : ByteArray × Int) = p0 at HRL
  have HP9 : Hid (dayL t y (q0, b0, c0) = p0.2 ∧ q0 = p0.1) := Lib.hid (by rw [← hp9]; exact ⟨rfl, rfl⟩)
  rw [HP9.out.1]
  clear hp9
  go_wp2_with fail
  go_loopw [10, 11, 36] (ByRel w l t y p0) (fun _ _ i _ => l.length - (intOf i).toNat)
  case atStart => exact ⟨0, 0, p0, by omega, rfl, rfl, rfl, ⟨_, HP0.out, HP9.out.2⟩, rfl, hG⟩
  case round =>
    clear hG
    obtain ⟨k, f, p, hkl, rfl, rfl, rfl, hz, hpe, hG⟩ := hrel
    have HZ := Lib.hid hz
    have HPE := Lib.hid hpe
    clear hz hpe
    by_cases hk : k < l.length
    · obtain ⟨⟨q, b, c⟩, hp⟩ : ∃ p, l[k]? = some p := ⟨_, List.getElem?_eq_getElem hk⟩
      have HXB := Lib.hid (HBB.out _ (List.mem_of_getElem? hp))
      have HTK : Hid (bsL t y p0 (l.take (k + 1)) = if dayL t y (q, b, c) < p.2 then (q, dayL t y (q, b, c)) else p) := Lib.hid (by rw [HPE.out, List.take_add_one, hp]; exact bsL_snoc t y p0 (l.take k) (q, b, c))
      have HPK := Lib.hid hp
      have HW := Lib.hid (duRow HR.out hG hp)
      have HK := Lib.hid hk
      have hB5 : Bk (wr.alloc (.cells #[.string q, .int .i64 b, .int .i64 c] 98)) wr.heap.size 98 #[.string q, .int .i64 b, .int .i64 c] := Bk.new wr 98 _
      have hG5 := hG.alloc (.cells #[.string q, .int .i64 b, .int .i64 c] 98)
      clear hp hG
      go_upto_region 10 with (refine wpList_load_at rfl 98 _ rfl ⟨bb, bo + k * 3, none⟩ rfl #[.string q, .int .i64 b, .int .i64 c] _ HW.out Tryd.underlying98 rfl (du_info (q, b, c)) ?_)
      clear HW
      generalize wr.alloc (.cells #[.string q, .int .i64 b, .int .i64 c] 98) = w5 at hB5 hG5 ⊢
      generalize wr.heap.size = g at hB5 ⊢
      have c0 : w5.cell? ⟨g, 0, none⟩ = some (.string q) := hB5.cell 0
      have c1 : w5.cell? ⟨g, 1, none⟩ = some (.int .i64 b) := hB5.cell 1
      have c2 : w5.cell? ⟨g, 2, none⟩ = some (.int .i64 c) := hB5.cell 2
      go_wp2_with fail
      refine (dayOf_c q b c t y _ HXB.out.1 HXB.out.2 HTY.out.1 HTY.out.2).mono ?_; rintro e w6 ⟨rfl, hh⟩
      replace hG5 := hG5.trans hh
      clear hh c0 c1 c2 hB5
      generalize dayL t y (q, b, c) = N at HTK ⊢
      obtain ⟨p1, p2⟩ := p
      dsimp only at HTK HZ ⊢
      by_cases hlt : N < p2
      · have HF : Hid (bsL t y p0 (l.take (k + 1)) = (q, N)) := Lib.hid (by rw [HTK.out, if_pos hlt])
        go_wp2_with fail
        go_roundw
        case rel => exact ⟨k + 1, k, (q, N), (by have := HK.out; omega), by go_num, rfl, rfl, ⟨_, HPK.out, rfl⟩, HF.out.symm, hG5⟩
        case measure => have := HK.out; simp [intOf]; omega
      · have HF : Hid (bsL t y p0 (l.take (k + 1)) = (p1, p2)) := Lib.hid (by rw [HTK.out, if_neg hlt])
        go_wp2_with fail
        go_roundw
        case rel => exact ⟨k + 1, f, (p1, p2), (by have := HK.out; omega), by go_num, rfl, rfl, HZ.out, HF.out.symm, hG5⟩
        case measure => have := HK.out; simp [intOf]; omega
    · obtain rfl : k = l.length := by omega
      obtain ⟨z, hzf, hz1⟩ := HZ.out
      have HFN : Hid (p = byR l t y) := Lib.hid (by rw [HPE.out, List.take_length, HRL.out])
      obtain ⟨y1, y2, y3⟩ := z
      have hfl : f < l.length := (List.getElem?_eq_some_iff.1 hzf).1
      have hfi : (f : Int) < (l.length : Int) := by omega
      have cz := RdR.cell duC_sz HR.out hG hzf 0 (.string y1) rfl
      simp only [Nat.add_zero] at cz
      have HY1 : Hid (y1 = p.1) := Lib.hid hz1
      clear hzf hz1 HPE HRL HZ
      go_wp2_with fail
      go_ret3
      exact ⟨by rw [HY1.out, HFN.out]; rfl, hG⟩
set_option maxRecDepth 100000 in
set_option maxHeartbeats 8000000 in
theorem byOf_c (v : Value) (l : List Du) (t y : Int) (w : World) (hr : RdR w 3 duC v l) (hE : byE l t y = 0) (hn : l.length ≤ 1000) :
    Calls Tryd.prog 67 #[v, .int .i64 t, .int .i64 y] w fun e w' => e = .returned (.tuple #[.string (byR l t y).1, .int .i64 (byR l t y).2]) ∧ G w w' none := by
  have HR := Lib.hid hr
  obtain ⟨a, cap, rfl, hcap, hm⟩ := RdR.form hr
  clear hr
  obtain ⟨hd0, ht, hy⟩ := byE_ok hE
  obtain ⟨hb, hpos⟩ := deE_ok hd0
  have HTY := Lib.hid (And.intro ht hy)
  have HBB := Lib.hid hb
  obtain ⟨⟨q0, b0, c0⟩, hp0⟩ : ∃ x, l[0]? = some x := ⟨_, List.getElem?_eq_getElem hpos⟩
  obtain ⟨p0, hp9⟩ : ∃ p0, ((q0, dayL t y (q0, b0, c0)) : ByteArray × Int) = p0 := ⟨_, rfl⟩
  have HRL : Hid (byR l t y = bsL t y p0 l) := Lib.hid (by
    rw [← hp9]
    cases l with
    | nil => cases hp0
    | cons x r => cases hp0; rfl)
  have HP0 := Lib.hid hp0
  have H0 : Hid (∀ x, l[0]? = some x → bsL t y p0 (l.take 1) = (x.1, dayL t y x)) := Lib.hid (fun x hx => by
    have e : x = (q0, b0, c0) := by rw [HP0.out] at hx; exact (Option.some.inj hx).symm
    subst e
    rw [List.take_add_one, hx, ← hp9]
    exact bsL_one t y (q0, b0, c0))
  clear hp9 hp0 hb ht hy hd0 hE hpos
  have hG := G.refl w none
  go_enter Tryd.func67, Tryd.ntmps67
  go_wp2_with fail
  go_loopw [8, 9, 15] (ByoRel w l t y p0) (fun _ _ i _ => l.length - (intOf i).toNat)
  case atStart => exact ⟨0, (⟨#[]⟩, 0), by omega, rfl, rfl, rfl, rfl, hG⟩
  case round =>
    clear hG
    obtain ⟨k, p, hkl, rfl, rfl, rfl, hpe, hG⟩ := hrel
    have HPE := Lib.hid hpe
    clear hpe
    by_cases hk : k < l.length
    · obtain ⟨⟨q, b, c⟩, hp⟩ : ∃ p, l[k]? = some p := ⟨_, List.getElem?_eq_getElem hk⟩
      obtain ⟨⟨hb0, hb1⟩, hc0, hc1⟩ := HBB.out _ (List.mem_of_getElem? hp)
      obtain ⟨⟨ht0, ht1⟩, hy0, hy1⟩ := HTY.out
      dsimp only at hb0 hb1 hc0 hc1
      have HTK : Hid (k ≠ 0 → bsL t y p0 (l.take (k + 1)) = if dayL t y (q, b, c) < p.2 then (q, dayL t y (q, b, c)) else p) := Lib.hid (fun hk0 => by
        have h := HPE.out
        rw [if_neg hk0] at h
        rw [h, List.take_add_one, hp]; exact bsL_snoc t y p0 (l.take k) (q, b, c))
      have HT0 : Hid (k = 0 → bsL t y p0 (l.take (k + 1)) = (q, dayL t y (q, b, c))) := Lib.hid (fun e => by subst e; exact H0.out _ hp)
      obtain ⟨N, hN⟩ : ∃ N, dayL t y (q, b, c) = N := ⟨_, rfl⟩
      have HN : Hid (N = if c = 1000000000 then b else if c < 0 then min b t else if y = 0 then b else min b (t + c / y)) := Lib.hid (by rw [← hN]; rfl)
      rw [hN] at HTK HT0
      obtain ⟨bb, bo, rfl, -, -⟩ := RdR.elem duC_sz HR.out hG hp
      have HW := Lib.hid (duRow HR.out hG hp)
      have HK := Lib.hid hk
      have hB5 : Bk (wr.alloc (.cells #[.string q, .int .i64 b, .int .i64 c] 98)) wr.heap.size 98 #[.string q, .int .i64 b, .int .i64 c] := Bk.new wr 98 _
      have hG5 := hG.alloc (.cells #[.string q, .int .i64 b, .int .i64 c] 98)
      clear hp hG hN
      go_upto_region 5 with (refine wpList_load_at rfl 98 _ rfl ⟨bb, bo + k * 3, none⟩ rfl #[.string q, .int .i64 b, .int .i64 c] _ HW.out Tryd.underlying98 rfl (du_info (q, b, c)) ?_)
      clear HW
      generalize wr.alloc (.cells #[.string q, .int .i64 b, .int .i64 c] 98) = w5 at hB5 hG5 ⊢
      generalize wr.heap.size = g at hB5 ⊢
      have e0 : w5.cell? ⟨g, 0, none⟩ = some (.string q) := hB5.cell 0
      have e1 : w5.cell? ⟨g, 1, none⟩ = some (.int .i64 b) := hB5.cell 1
      have e2 : w5.cell? ⟨g, 2, none⟩ = some (.int .i64 c) := hB5.cell 2
      obtain ⟨p1, p2⟩ := p
      dsimp only at HTK ⊢
      by_cases m0 : c = 1000000000
      · obtain rfl : N = b := by rw [HN.out, if_pos m0]
        have m1 : (c == 1000000000) = true := by simp [m0]
        clear HN m0
        by_cases k0 : k = 0
        · have HF := Lib.hid (HT0.out k0)
          have hk0 : ((k : Int) == 0) = true := by simp [k0]
          have hk1 : (k == 0) = true := by simp [k0]
          clear k0
          go_wp2_with fail
          go_roundw
          case rel => exact ⟨k + 1, (q, N), (by have := HK.out; omega), by go_num, rfl, rfl, by rw [if_neg (by omega)]; exact HF.out.symm, hG5⟩
          case measure => have := HK.out; simp [intOf]; omega
        · have hk0 : ((k : Int) == 0) = false := by rw [beq_eq_false_iff_ne]; omega
          have hk1 : (k == 0) = false := by rw [beq_eq_false_iff_ne]; omega
          have HF := Lib.hid (HTK.out k0)
          clear k0
          by_cases hlt : N < p2
          · have HF2 : Hid (bsL t y p0 (l.take (k + 1)) = (q, N)) := Lib.hid (by rw [HF.out, if_pos hlt])
            go_wp2_with fail
            go_roundw
            case rel => exact ⟨k + 1, (q, N), (by have := HK.out; omega), by go_num, rfl, rfl, by rw [if_neg (by omega)]; exact HF2.out.symm, hG5⟩
            case measure => have := HK.out; simp [intOf]; omega
          · have HF2 : Hid (bsL t y p0 (l.take (k + 1)) = (p1, p2)) := Lib.hid (by rw [HF.out, if_neg hlt])
            go_wp2_with fail
            go_roundw
            case rel => exact ⟨k + 1, (p1, p2), (by have := HK.out; omega), by go_num, rfl, rfl, by rw [if_neg (by omega)]; exact HF2.out.symm, hG5⟩
            case measure => have := HK.out; simp [intOf]; omega
      have m1 : (c == 1000000000) = false := beq_eq_false_iff_ne.2 m0
      by_cases m2 : c < 0
      · obtain rfl : N = min b t := by rw [HN.out, if_neg m0, if_pos m2]
        clear HN m0
        generalize hMM : min b t = M at HTK HT0
        go_upto_region 12 with fail
        clear hMM
        by_cases k0 : k = 0
        · have HF := Lib.hid (HT0.out k0)
          have hk0 : ((k : Int) == 0) = true := by simp [k0]
          have hk1 : (k == 0) = true := by simp [k0]
          clear k0
          go_wp2_with fail
          go_roundw
          case rel => exact ⟨k + 1, (q, M), (by have := HK.out; omega), by go_num, rfl, rfl, by rw [if_neg (by omega)]; exact HF.out.symm, hG5⟩
          case measure => have := HK.out; simp [intOf]; omega
        · have hk0 : ((k : Int) == 0) = false := by rw [beq_eq_false_iff_ne]; omega
          have hk1 : (k == 0) = false := by rw [beq_eq_false_iff_ne]; omega
          have HF := Lib.hid (HTK.out k0)
          clear k0
          by_cases hlt : M < p2
          · have HF2 : Hid (bsL t y p0 (l.take (k + 1)) = (q, M)) := Lib.hid (by rw [HF.out, if_pos hlt])
            go_wp2_with fail
            go_roundw
            case rel => exact ⟨k + 1, (q, M), (by have := HK.out; omega), by go_num, rfl, rfl, by rw [if_neg (by omega)]; exact HF2.out.symm, hG5⟩
            case measure => have := HK.out; simp [intOf]; omega
          · have HF2 : Hid (bsL t y p0 (l.take (k + 1)) = (p1, p2)) := Lib.hid (by rw [HF.out, if_neg hlt])
            go_wp2_with fail
            go_roundw
            case rel => exact ⟨k + 1, (p1, p2), (by have := HK.out; omega), by go_num, rfl, rfl, by rw [if_neg (by omega)]; exact HF2.out.symm, hG5⟩
            case measure => have := HK.out; simp [intOf]; omega
      by_cases m3 : y = 0
      · obtain rfl : N = b := by rw [HN.out, if_neg m0, if_neg m2, if_pos m3]
        have m4 : (y == 0) = true := by simp [m3]
        have m5 : min N 1000000 = N := by omega
        clear HN m0 m3
        go_upto_region 12 with fail
        by_cases k0 : k = 0
        · have HF := Lib.hid (HT0.out k0)
          have hk0 : ((k : Int) == 0) = true := by simp [k0]
          have hk1 : (k == 0) = true := by simp [k0]
          clear k0
          go_wp2_with fail
          go_roundw
          case rel => exact ⟨k + 1, (q, N), (by have := HK.out; omega), by go_num, rfl, rfl, by rw [if_neg (by omega)]; exact HF.out.symm, hG5⟩
          case measure => have := HK.out; simp [intOf]; omega
        · have hk0 : ((k : Int) == 0) = false := by rw [beq_eq_false_iff_ne]; omega
          have hk1 : (k == 0) = false := by rw [beq_eq_false_iff_ne]; omega
          have HF := Lib.hid (HTK.out k0)
          clear k0
          by_cases hlt : N < p2
          · have HF2 : Hid (bsL t y p0 (l.take (k + 1)) = (q, N)) := Lib.hid (by rw [HF.out, if_pos hlt])
            go_wp2_with fail
            go_roundw
            case rel => exact ⟨k + 1, (q, N), (by have := HK.out; omega), by go_num, rfl, rfl, by rw [if_neg (by omega)]; exact HF2.out.symm, hG5⟩
            case measure => have := HK.out; simp [intOf]; omega
          · have HF2 : Hid (bsL t y p0 (l.take (k + 1)) = (p1, p2)) := Lib.hid (by rw [HF.out, if_neg hlt])
            go_wp2_with fail
            go_roundw
            case rel => exact ⟨k + 1, (p1, p2), (by have := HK.out; omega), by go_num, rfl, rfl, by rw [if_neg (by omega)]; exact HF2.out.symm, hG5⟩
            case measure => have := HK.out; simp [intOf]; omega
      obtain rfl : N = min b (t + c / y) := by rw [HN.out, if_neg m0, if_neg m2, if_neg m3]
      have m4 : (y == 0) = false := beq_eq_false_iff_ne.2 m3
      have hq0 : 0 ≤ c / y := Int.ediv_nonneg (by omega) (by omega)
      have hq1 : c / y ≤ 1000000000 := Int.le_trans (Int.ediv_le_self _ (by omega)) hc1
      have hyp : 0 < y := by omega
      have hcp : 0 ≤ c := by omega
      clear HN m0
      generalize hMM : min b (t + c / y) = M at HTK HT0
      go_upto_region 12 with fail
      clear hMM
      by_cases k0 : k = 0
      · have HF := Lib.hid (HT0.out k0)
        have hk0 : ((k : Int) == 0) = true := by simp [k0]
        have hk1 : (k == 0) = true := by simp [k0]
        clear k0
        go_wp2_with fail
        go_roundw
        case rel => exact ⟨k + 1, (q, M), (by have := HK.out; omega), by go_num, rfl, rfl, by rw [if_neg (by omega)]; exact HF.out.symm, hG5⟩
        case measure => have := HK.out; simp [intOf]; omega
      · have hk0 : ((k : Int) == 0) = false := by rw [beq_eq_false_iff_ne]; omega
        have hk1 : (k == 0) = false := by rw [beq_eq_false_iff_ne]; omega
        have HF := Lib.hid (HTK.out k0)
        clear k0
        by_cases hlt : M < p2
        · have HF2 : Hid (bsL t y p0 (l.take (k + 1)) = (q, M)) := Lib.hid (by rw [HF.out, if_pos hlt])
          go_wp2_with fail
          go_roundw
          case rel => exact ⟨k + 1, (q, M), (by have := HK.out; omega), by go_num, rfl, rfl, by rw [if_neg (by omega)]; exact HF2.out.symm, hG5⟩
          case measure => have := HK.out; simp [intOf]; omega
        · have HF2 : Hid (bsL t y p0 (l.take (k + 1)) = (p1, p2)) := Lib.hid (by rw [HF.out, if_neg hlt])
          go_wp2_with fail
          go_roundw
          case rel => exact ⟨k + 1, (p1, p2), (by have := HK.out; omega), by go_num, rfl, rfl, by rw [if_neg (by omega)]; exact HF2.out.symm, hG5⟩
          case measure => have := HK.out; simp [intOf]; omega
    · obtain rfl : k = l.length := by omega
      have HFN : Hid (l.length ≠ 0 → p = byR l t y) := Lib.hid (fun h0 => by have h := HPE.out; rw [if_neg h0, List.take_length] at h; rw [h, HRL.out])
      have HL0 : Hid (l.length ≠ 0) := Lib.hid (by have h := (List.getElem?_eq_some_iff.1 HP0.out).1; omega)
      go_wp2_with fail
      go_ret2
      exact ⟨by rw [HFN.out HL0.out]; rfl, hG⟩
end Go.Proofs.YtddedckehllkoaaDoor

/- shift.Dues. Written by gendus.py. -/
namespace Go.Proofs.YtddedckehllkoaaDoor
open Go.RowKit

/-- The errors of Dues. -/
def dusE (l : List Iv) (d : List Dn) (f : Dn) (m : Int) : Int := errsOf [ivE l, dnE d, dnE [f], if inB m 0 10000000 = false then 1 else 0]
theorem dusE_eq (l : List Iv) (d : List Dn) (f : Dn) (m : Int) : dusE l d f m = if ivE l = 0 then (if dnE d = 0 then (if dnE [f] = 0 then (if inB m 0 10000000 = false then 1 else 0) else dnE [f]) else dnE d) else ivE l := by
  unfold dusE
  by_cases h1 : ivE l = 0
  · rw [errsOf, if_pos h1, if_pos h1]
    by_cases h2 : dnE d = 0
    · rw [errsOf, if_pos h2, if_pos h2]
      by_cases h3 : dnE [f] = 0
      · rw [errsOf, if_pos h3, if_pos h3]
        by_cases h4 : inB m 0 10000000 = false
        · rw [if_pos h4]; rfl
        · rw [if_neg h4]; rfl
      · rw [errsOf, if_neg h3, if_neg h3]
    · rw [errsOf, if_neg h2, if_neg h2]
  · rw [errsOf, if_neg h1, if_neg h1]
def duZ : Du := (⟨#[]⟩, 0, 0)
theorem mkDu (n : Nat) (hn : n ≤ 3) (w : World) : (Instr.makeSlice 91 (.int .i64 (n : Int)) (.int .i64 (n : Int))).run Tryd.prog w = .ok (.slice (some ⟨w.heap.size, 0, none⟩) n n) (w.alloc (.cells (rowL duC (List.replicate n duZ)).toArray 98)) := by
  rcases (show n = 0 ∨ n = 1 ∨ n = 2 ∨ n = 3 by omega) with rfl | rfl | rfl | rfl <;> kernel_rfl
theorem zd_run (w : World) : (zeroValue 90).run Tryd.prog w = .ok (.agg #[.string ⟨#[]⟩, .string ⟨#[]⟩, .int .i64 0, .int .i64 0]) w := by kernel_rfl
def DsM (w wr : World) (gM gF : Nat) (f : Dn) (d : List Dn) (k : Nat) : Prop := (∃ c, c ≤ k ∧ OwnM Tryd.prog 9 wr gM c (lsF f.1 (d.take k))) ∧ Bk wr gF 90 (dnC f) ∧ G w wr none
def DsRel (w : World) (gM gF : Nat) (f : Dn) (d : List Dn) (i : Value) (wr : World) : Prop := ∃ k : Nat, k ≤ d.length ∧ i = .int .i64 k ∧ DsM w wr gM gF f d k
def Ds2Rel (w : World) (gM gF gV c : Nat) (f : Dn) (l : List Iv) (Q : List Du) (D : List Dn) (i : Value) (wr : World) : Prop :=
  ∃ k : Nat, k ≤ l.length ∧ i = .int .i64 k ∧ OwnX 98 3 duC wr w.heap.size (.slice (some ⟨gV, 0, none⟩) l.length l.length) (Q.take k ++ List.replicate (l.length - k) duZ) ∧ OwnM Tryd.prog 9 wr gM c (lsF f.1 D) ∧ Bk wr gF 90 (dnC f) ∧ G w wr none
theorem tkrep_get {α : Type} {Q : List α} {z : α} {k n : Nat} (hk : k < n) (hQ : Q.length = n) : (Q.take k ++ List.replicate (n - k) z)[k]? = some z := by
  rw [List.getElem?_append_right (by rw [List.length_take]; omega), List.length_take, Nat.min_eq_left (by omega), Nat.sub_self, List.getElem?_replicate, if_pos (by omega)]
theorem tkrep_len {α : Type} {Q : List α} {z : α} {k n : Nat} (hk : k ≤ n) (hQ : Q.length = n) : (Q.take k ++ List.replicate (n - k) z).length = n := by
  rw [List.length_append, List.length_take, List.length_replicate]; omega
theorem tkrep_set {α : Type} {Q : List α} {z q : α} {k n : Nat} (hk : k < n) (hQ : Q.length = n) (hq : Q[k]? = some q) : (Q.take k ++ List.replicate (n - k) z).set k q = Q.take (k + 1) ++ List.replicate (n - (k + 1)) z := by
  obtain ⟨j, hj⟩ : ∃ j, n - k = j + 1 := ⟨n - k - 1, by omega⟩
  rw [hj, List.replicate_succ, List.set_append_right _ _ (by rw [List.length_take]; omega), List.length_take, Nat.min_eq_left (by omega), Nat.sub_self, List.set_cons_zero, List.take_add_one, hq, show n - (k + 1) = j by omega]
  simp
def DsPost (l : List Iv) (d : List Dn) (f : Dn) (m : Int) (w : World) (e : Ending) (w' : World) : Prop := ∃ v', e = .returned (.tuple #[v', .int .i64 (dusE l d f m)]) ∧ RdR w' 3 duC v' (if dusE l d f m = 0 then duesL l d f m else []) ∧ G w w' none
set_option maxRecDepth 100000 in
set_option maxHeartbeats 4000000 in
theorem dues_c (vl vd : Value) (l : List Iv) (D : List Dn) (fv fk : ByteArray) (fd fm m : Int) (w : World) (hl : RdR w 3 ivC vl l) (hd : RdR w 4 dnC vd D) (hlo : IvOk l) (hdo : DnOk D) (hfo : Small fv ∧ Small fk) (hn : l.length ≤ 3) (hn2 : D.length ≤ 1000) :
    Calls Tryd.prog 54 #[vl, vd, .agg #[.string fv, .string fk, .int .i64 fd, .int .i64 fm], .int .i64 m] w (DsPost l D (fv, fk, fd, fm) m w) := by
  have hmm : ∀ w : World, (Instr.makeMap 151 none).run Tryd.prog w = .ok (.map (some w.heap.size)) (w.alloc (.map #[] 0)) := fun _ => rfl
  obtain ⟨al, cl, rfl, -, -⟩ := RdR.form hl
  obtain ⟨ad, cd, rfl, -, -⟩ := RdR.form hd
  have CI := Lib.hid (fun w' (h : G w w' none) => checkIntervals_c _ l w' (hl.quiet h) hlo (by omega))
  have CS := Lib.hid (fun w' (h : G w w' none) => checkServices_c _ D w' (hd.quiet h) hdo (by omega))
  have CF := Lib.hid (fun v w' (q : RdR w' 4 dnC v [(fv, fk, fd, fm)]) => checkServices_c v [(fv, fk, fd, fm)] w' q (fun x hx => by obtain rfl := List.mem_singleton.1 hx; exact hfo) (by simp))
  obtain ⟨E, hE⟩ : ∃ E, dusE l D (fv, fk, fd, fm) m = E := ⟨_, rfl⟩
  obtain ⟨R, hR⟩ : ∃ R, (if E = 0 then duesL l D (fv, fk, fd, fm) m else []) = R := ⟨_, rfl⟩
  have HE := Lib.hid (hE.symm.trans (dusE_eq l D (fv, fk, fd, fm) m))
  have HR1 : Hid (E = 0 → R = duesL l D (fv, fk, fd, fm) m) := Lib.hid (fun e => by rw [← hR, if_pos e])
  have HR0 : Hid (E ≠ 0 → R = []) := Lib.hid (fun e => by rw [← hR, if_neg e])
  have HI : Hid (ivE l = 0 → ∀ x ∈ l, (0 ≤ x.2.1 ∧ x.2.1 ≤ 1000000) ∧ 0 ≤ x.2.2 ∧ x.2.2 ≤ 100000) := Lib.hid iv_ok
  have HD : Hid (dnE D = 0 → ∀ x ∈ D, (0 ≤ x.2.2.1 ∧ x.2.2.1 ≤ 4000) ∧ 0 ≤ x.2.2.2 ∧ x.2.2.2 ≤ 10000000) := Lib.hid dn_ok
  have HFB : Hid (dnE [(fv, fk, fd, fm)] = 0 → (0 ≤ fd ∧ fd ≤ 4000) ∧ 0 ≤ fm ∧ fm ≤ 10000000) := Lib.hid (fun e => dn_ok e (fv, fk, fd, fm) List.mem_cons_self)
  have HP : Hid (∀ v' w' , RdR w' 3 duC v' R → G w w' none → DsPost l D (fv, fk, fd, fm) m w (.returned (.tuple #[v', .int .i64 E])) w') := Lib.hid (fun v' w' h1 h2 => ⟨v', by rw [hE], by rw [hE, hR]; exact h1, h2⟩)
  generalize ivE l = E1 at CI HE HI
  generalize dnE D = E2 at CS HE HD
  generalize dnE [(fv, fk, fd, fm)] = E3 at CF HE HFB
  have HL := Lib.hid hl
  have HDD := Lib.hid hd
  have HLO := Lib.hid hlo
  have HDO := Lib.hid hdo
  have HN := Lib.hid hn
  have HN2 := Lib.hid hn2
  have HFO := Lib.hid hfo
  clear hE hR hl hd hlo hdo hfo
  have hF := Bk.new w 90 #[.string fv, .string fk, .int .i64 fd, .int .i64 fm]
  have hG := (G.refl w none).alloc (.cells #[.string fv, .string fk, .int .i64 fd, .int .i64 fm] 90)
  go_enter Tryd.func54, Tryd.ntmps54
  go_upto_region 1 with fail
  generalize w.alloc (.cells #[.string fv, .string fk, .int .i64 fd, .int .i64 fm] 90) = w1 at hF hG ⊢
  obtain ⟨gF, hg⟩ : ∃ g, w.heap.size = g := ⟨_, rfl⟩
  have hgF : w.heap.size ≤ gF := by omega
  rw [hg] at hF ⊢
  clear hg
  go_wp2_with fail
  refine (CI.out _ hG).mono ?_; rintro e w2 ⟨rfl, hh⟩
  replace hF := hF.quiet hh
  replace hG := hG.trans hh
  clear hh CI
  by_cases e1 : E1 = 0
  case neg =>
    obtain rfl : E = E1 := by have h := HE.out; simpa [e1] using h
    obtain rfl := HR0.out e1
    have he : (E != 0) = true := bne_iff_ne.2 e1
    clear HR1 HR0 HE e1
    go_wp2_with fail
    go_ret2
    exact HP.out _ _ (RdR.nil _ _ _) hG
  subst e1
  go_wp2_with fail
  refine (CS.out _ hG).mono ?_; rintro e w3 ⟨rfl, hh⟩
  replace hF := hF.quiet hh
  replace hG := hG.trans hh
  clear hh CS
  by_cases e2 : E2 = 0
  case neg =>
    obtain rfl : E = E2 := by have h := HE.out; simpa [e2] using h
    obtain rfl := HR0.out e2
    have he : (E != 0) = true := bne_iff_ne.2 e2
    clear HR1 HR0 HE e2
    go_wp2_with fail
    go_ret2
    exact HP.out _ _ (RdR.nil _ _ _) hG
  subst e2
  have f0 : w3.cell? ⟨gF, 0, none⟩ = some (.string fv) := hF.cell 0
  have f1 : w3.cell? ⟨gF, 1, none⟩ = some (.string fk) := hF.cell 1
  have f2 : w3.cell? ⟨gF, 2, none⟩ = some (.int .i64 fd) := hF.cell 2
  have f3 : w3.cell? ⟨gF, 3, none⟩ = some (.int .i64 fm) := hF.cell 3
  go_wp2_with fail
  refine (CF.out _ _ ((Bk.new w3 90 #[.string fv, .string fk, .int .i64 fd, .int .i64 fm]).rd 4 1 rfl (by omega))).mono ?_; rintro e w4 ⟨rfl, hh⟩
  replace hF := (hF.alloc (.cells #[.string fv, .string fk, .int .i64 fd, .int .i64 fm] 90)).quiet hh
  replace hG := (hG.alloc (.cells #[.string fv, .string fk, .int .i64 fd, .int .i64 fm] 90)).trans hh
  clear hh CF f0 f1 f2 f3
  by_cases e3 : E3 = 0
  case neg =>
    obtain rfl : E = E3 := by have h := HE.out; simpa [e3] using h
    obtain rfl := HR0.out e3
    have he : (E != 0) = true := bne_iff_ne.2 e3
    clear HR1 HR0 HE e3
    go_wp2_with fail
    go_ret2
    exact HP.out _ _ (RdR.nil _ _ _) hG
  subst e3
  go_wp2_with fail
  refine (svMeter_c m _).mono ?_; rintro e w' ⟨rfl, rfl⟩
  cases hm : inB m 0 10000000 with
  | false =>
    obtain rfl : E = 1 := by have h := HE.out; simpa [hm] using h
    obtain rfl := HR0.out (by omega)
    clear HR1 HR0 HE hm
    go_wp2_with fail
    go_ret2
    exact HP.out _ _ (RdR.nil _ _ _) hG
  | true =>
  obtain rfl : E = 0 := by have h := HE.out; simpa [hm] using h
  obtain rfl := HR1.out (by first | trivial | rfl)
  have HM : Hid (0 ≤ m ∧ m ≤ 10000000) := Lib.hid (by simpa [inB] using hm)
  have HIB := Lib.hid (HI.out (by first | trivial | rfl))
  have HDB := Lib.hid (HD.out (by first | trivial | rfl))
  have HFF := Lib.hid (HFB.out (by first | trivial | rfl))
  clear HR1 HR0 HE hm HI HD HFB
  go_upto_region 13 with fail
  have hM : OwnM Tryd.prog 9 (w4.alloc (.map #[] 0)) w4.heap.size 0 (lsF fv []) := OwnM.made _ _ _ rfl
  have hgs := hG.size
  have hlt4 : gF < w4.heap.size := hF.lt
  replace hF := hF.alloc (.map #[] 0)
  replace hG := hG.alloc (.map #[] 0)
  generalize w4.alloc (.map #[] 0) = w5 at hM hF hG ⊢
  generalize w4.heap.size = gM at hM hgs hlt4 ⊢
  have hne : gF ≠ gM := by omega
  clear hlt4
  go_wp2_with fail
  go_loopw [43] (DsRel w gM gF (fv, fk, fd, fm) D) (fun i _ => D.length - (intOf i).toNat)
  case atStart => exact ⟨0, by omega, rfl, ⟨0, Nat.le_refl _, hM⟩, hF, hG⟩
  case round =>
    clear hM hF hG
    obtain ⟨k, hk, rfl, ⟨c, hck, hM⟩, hF, hG⟩ := hrel
    by_cases hlt : k < D.length
    · obtain ⟨⟨v, y, d, t⟩, hp⟩ : ∃ p, D[k]? = some p := ⟨_, List.getElem?_eq_getElem hlt⟩
      have HT : Hid (D.take (k + 1) = D.take k ++ [(v, y, d, t)]) := Lib.hid (by rw [List.take_add_one, hp]; rfl)
      have hsm : Small y := (HDO.out _ (List.mem_of_getElem? hp)).2
      unfold Small at hsm
      obtain ⟨bb, bo, rfl, -, -⟩ := RdR.elem dnC_sz HDD.out hG hp
      have HW := Lib.hid (dnRow HDD.out hG hp)
      have HK := Lib.hid hlt
      have hcm : c < maxLen := by unfold maxLen; omega
      have hN := Bk.new wr 90 #[.string v, .string y, .int .i64 d, .int .i64 t]
      replace hM := hM.alloc (.cells #[.string v, .string y, .int .i64 d, .int .i64 t] 90)
      replace hF := hF.alloc (.cells #[.string v, .string y, .int .i64 d, .int .i64 t] 90)
      replace hG := hG.alloc (.cells #[.string v, .string y, .int .i64 d, .int .i64 t] 90)
      clear hp
      go_upto_region 16 with (refine wpList_load_at rfl 90 _ rfl ⟨bb, bo + k * 4, none⟩ rfl #[.string v, .string y, .int .i64 d, .int .i64 t] _ HW.out Tryd.underlying90 rfl (dn_info (v, y, d, t)) ?_)
      clear HW
      generalize wr.alloc (.cells #[.string v, .string y, .int .i64 d, .int .i64 t] 90) = w6 at hN hM hF hG ⊢
      generalize wr.heap.size = n at hN ⊢
      have n0 : w6.cell? ⟨n, 0, none⟩ = some (.string v) := hN.cell 0
      have n1 : w6.cell? ⟨n, 1, none⟩ = some (.string y) := hN.cell 1
      have n2 : w6.cell? ⟨n, 2, none⟩ = some (.int .i64 d) := hN.cell 2
      have n3 : w6.cell? ⟨n, 3, none⟩ = some (.int .i64 t) := hN.cell 3
      have f0 : w6.cell? ⟨gF, 0, none⟩ = some (.string fv) := hF.cell 0
      by_cases hv : v = fv
      · subst hv
        have heq : (v.toList == v.toList) = true := by simp
        have HT2 : Hid (lsF v (D.take (k + 1)) = fput (lsF v (D.take k)) y (.agg #[.string v, .string y, .int .i64 d, .int .i64 t])) := Lib.hid (by rw [HT.out]; exact lsF_hit rfl)
        go_wp2_with (at_mapUpdate; refine wpM_store rfl _ _ _ 151 rfl 9 90 Tryd.underlying9 Tryd.underlying151 gM c _ rfl hM hcm y rfl hsm (.agg #[.string v, .string y, .int .i64 d, .int .i64 t]) rfl ?_; intro w7 hM7 hh)
        refine ⟨⟨k + 1, by have := HK.out; omega, by go_num, ⟨_, ?_, by show OwnM _ _ w7 gM _ (lsF v (D.take (k + 1))); rw [HT2.out]; exact hM7⟩, hF.grown hh (fun e => hne (Option.some.inj e)), hG.other hh (fun j e => .inl (by obtain rfl := Option.some.inj e; exact hgs))⟩, by have := HK.out; simp only [intOf]; omega⟩
        unfold cput
        split <;> omega
      · have heq : (v.toList == fv.toList) = false := by
          cases h : (v.toList == fv.toList) with
          | false => rfl
          | true => exact absurd (eqB_iff.1 h) hv
        have HF2 : Hid (lsF fv (D.take (k + 1)) = lsF fv (D.take k)) := Lib.hid (by rw [HT.out]; exact lsF_miss hv)
        clear hv
        go_wp2_with fail
        go_roundw
        case rel => exact ⟨k + 1, by have := HK.out; omega, by go_num, ⟨c, by omega, by rw [HF2.out]; exact hM⟩, hF, hG⟩
        case measure => have := HK.out; simp [intOf]; omega
    · obtain rfl : k = D.length := by omega
      rw [List.take_length] at hM
      have hmk := mkDu l.length HN.out
      go_upto_region 20 with fail
      obtain ⟨gV, hgVe⟩ : ∃ g, wr.heap.size = g := ⟨_, rfl⟩
      have hV : OwnX 98 3 duC (wr.alloc (.cells (rowL duC (List.replicate l.length duZ)).toArray 98)) w.heap.size (.slice (some ⟨wr.heap.size, 0, none⟩) l.length l.length) (List.replicate l.length duZ) := by
        have h := World.ownsRow_lit (base := w.heap.size) (e := 98) (size := 3) wr (rowL duC (List.replicate l.length duZ)).toArray l.length hG.size (by unfold maxLen; omega) (by rw [List.size_toArray, rowL_len duC_sz, List.length_replicate])
        unfold OwnX
        rw [List.length_replicate]
        simpa using h
      have hgv : w.heap.size ≤ wr.heap.size := hG.size
      have hvm : gM ≠ wr.heap.size := by have := hM.lt; omega
      have hvf : gF ≠ wr.heap.size := by have := hF.lt; omega
      replace hM := hM.alloc (.cells (rowL duC (List.replicate l.length duZ)).toArray 98)
      replace hF := hF.alloc (.cells (rowL duC (List.replicate l.length duZ)).toArray 98)
      replace hG := hG.alloc (.cells (rowL duC (List.replicate l.length duZ)).toArray 98)
      generalize wr.alloc (.cells (rowL duC (List.replicate l.length duZ)).toArray 98) = wv at hV hM hF hG ⊢
      rw [hgVe] at hV hgv hvm hvf ⊢
      clear hgVe hmk
      have HQL : Hid ((duesL l D (fv, fk, fd, fm) m).length = l.length) := Lib.hid (by unfold duesL; rw [List.length_map])
      have HQ0 : Hid (∀ k x, l[k]? = some x → (duesL l D (fv, fk, fd, fm) m)[k]? = some (dueL x ((lsO fv x.1 D).getD (fv, fk, fd, fm)) m)) := Lib.hid (fun k x h => by unfold duesL; rw [List.getElem?_map, h]; rfl)
      generalize duesL l D (fv, fk, fd, fm) m = Q at HP HQL HQ0
      go_wp2_with fail
      go_loopw [62] (Ds2Rel w gM gF gV c (fv, fk, fd, fm) l Q D) (fun i _ => l.length - (intOf i).toNat)
      case atStart => exact ⟨0, by omega, rfl, by simpa using hV, hM, hF, hG⟩
      case round =>
        clear hV hM hF hG
        obtain ⟨k, hk, rfl, hV, hM, hF, hG⟩ := hrel
        by_cases hlt : k < l.length
        · obtain ⟨⟨ky, a, b⟩, hp⟩ : ∃ p, l[k]? = some p := ⟨_, List.getElem?_eq_getElem hlt⟩
          have HQ := Lib.hid (HQ0.out k _ hp)
          have HXB := Lib.hid (HIB.out _ (List.mem_of_getElem? hp))
          have hsk : Small ky := HLO.out _ (List.mem_of_getElem? hp)
          unfold Small at hsk
          obtain ⟨bb, bo, rfl, -, -⟩ := RdR.elem ivC_sz HL.out hG hp
          have HW := Lib.hid (ivRow HL.out hG hp)
          have HK := Lib.hid hlt
          have hN := Bk.new wr 149 #[.string ky, .int .i64 a, .int .i64 b]
          replace hV := OwnX.alloc hV (.cells #[.string ky, .int .i64 a, .int .i64 b] 149)
          replace hM := hM.alloc (.cells #[.string ky, .int .i64 a, .int .i64 b] 149)
          replace hF := hF.alloc (.cells #[.string ky, .int .i64 a, .int .i64 b] 149)
          replace hG := hG.alloc (.cells #[.string ky, .int .i64 a, .int .i64 b] 149)
          clear hp
          go_upto_region 23 with (refine wpList_load_at rfl 149 _ rfl ⟨bb, bo + k * 3, none⟩ rfl #[.string ky, .int .i64 a, .int .i64 b] _ HW.out Tryd.underlying149 rfl (iv_info (ky, a, b)) ?_)
          clear HW
          generalize wr.alloc (.cells #[.string ky, .int .i64 a, .int .i64 b] 149) = w6 at hN hV hM hF hG ⊢
          generalize wr.heap.size = n at hN ⊢
          have n0 : w6.cell? ⟨n, 0, none⟩ = some (.string ky) := hN.cell 0
          cases hls : lsO fv ky D with
          | some u =>
            obtain ⟨u1, u2, u3, u4⟩ := u
            have HUB : Hid ((0 ≤ u3 ∧ u3 ≤ 4000) ∧ 0 ≤ u4 ∧ u4 ≤ 10000000) := Lib.hid (HDB.out _ (lsO_mem hls))
            have HQQ : Hid (Q[k]? = some (ky, (if b = 0 then 1000000 else u3 + b), (if a = 0 then 1000000000 else u4 + a - m))) := Lib.hid (by rw [HQ.out, hls]; rfl)
            have hfs : lsF fv D ky = some (.agg #[.string u1, .string u2, .int .i64 u3, .int .i64 u4]) := by unfold lsF; rw [hls]; rfl
            clear hls HQ
            go_upto_region 24 with (at_lookup; refine wpM_look_ok rfl _ _ 151 rfl 9 90 Tryd.underlying9 Tryd.underlying151 (.agg #[.string ⟨#[]⟩, .string ⟨#[]⟩, .int .i64 0, .int .i64 0]) (zd_run _) gM c (lsF fv D) rfl hM ky rfl hsk ?_; rw [hfs])
            have hU := Bk.new w6 90 #[.string u1, .string u2, .int .i64 u3, .int .i64 u4]
            have hqF : gF < w6.heap.size := hF.lt
            have hqM0 : gM < w6.heap.size := hM.lt
            have hqn : n < w6.heap.size := hN.lt
            have hqg : w.heap.size ≤ w6.heap.size := hG.size
            have hqV : gV < w6.heap.size := (World.ownsRow.lt hV gV rfl).2
            replace hN := hN.alloc (.cells #[.string u1, .string u2, .int .i64 u3, .int .i64 u4] 90)
            replace hV := OwnX.alloc hV (.cells #[.string u1, .string u2, .int .i64 u3, .int .i64 u4] 90)
            replace hM := hM.alloc (.cells #[.string u1, .string u2, .int .i64 u3, .int .i64 u4] 90)
            replace hF := hF.alloc (.cells #[.string u1, .string u2, .int .i64 u3, .int .i64 u4] 90)
            replace hG := hG.alloc (.cells #[.string u1, .string u2, .int .i64 u3, .int .i64 u4] 90)
            clear n0 hfs
            generalize w6.alloc (.cells #[.string u1, .string u2, .int .i64 u3, .int .i64 u4] 90) = w8 at hU hN hV hM hF hG ⊢
            generalize w6.heap.size = q at hU hqF hqM0 hqn hqg hqV ⊢
            go_upto_region 26 with fail
            have n0 : w8.cell? ⟨n, 0, none⟩ = some (.string ky) := hN.cell 0
            have n1 : w8.cell? ⟨n, 1, none⟩ = some (.int .i64 a) := hN.cell 1
            have n2 : w8.cell? ⟨n, 2, none⟩ = some (.int .i64 b) := hN.cell 2
            have v0 : w8.cell? ⟨q, 0, none⟩ = some (.string u1) := hU.cell 0
            have v1 : w8.cell? ⟨q, 1, none⟩ = some (.string u2) := hU.cell 1
            have v2 : w8.cell? ⟨q, 2, none⟩ = some (.int .i64 u3) := hU.cell 2
            have v3 : w8.cell? ⟨q, 3, none⟩ = some (.int .i64 u4) := hU.cell 3
            go_wp2_with fail
            refine (dueOf_c ky u1 u2 a b u3 u4 m _ HXB.out.1 HXB.out.2 HUB.out.1 HUB.out.2 HM.out).mono ?_; rintro e w9 ⟨rfl, hh⟩
            replace hV := OwnX.quiet hV hh
            replace hM := hM.quiet hh
            replace hF := hF.quiet hh
            replace hG := hG.trans hh
            clear hh n0 n1 n2 v0 v1 v2 v3 hN hU
            obtain ⟨A, hA⟩ : ∃ A, (if b = 0 then 1000000 else u3 + b) = A := ⟨_, rfl⟩
            obtain ⟨B, hB⟩ : ∃ B, (if a = 0 then 1000000000 else u4 + a - m) = B := ⟨_, rfl⟩
            rw [hA, hB]
            have HQK : Hid (Q[k]? = some (ky, A, B)) := Lib.hid (by rw [HQQ.out, ← hA, ← hB])
            clear hA hB
            have hz := tkrep_get (z := duZ) HK.out HQL.out
            have hVo : w9.ownsRow w.heap.size 98 3 (.slice (some ⟨gV, 0, none⟩) l.length l.length) l.length (rowL duC (Q.take k ++ List.replicate (l.length - k) duZ)) := by
              have h := hV
              unfold OwnX at h
              rw [tkrep_len (by have := HK.out; omega) HQL.out] at h
              exact h
            have c0 := RdR.cell duC_sz (Rd.of_owns hV) (G.refl _ none) hz 0 (.string ⟨#[]⟩) rfl
            have c1 := RdR.cell duC_sz (Rd.of_owns hV) (G.refl _ none) hz 1 (.int .i64 0) rfl
            have c2 := RdR.cell duC_sz (Rd.of_owns hV) (G.refl _ none) hz 2 (.int .i64 0) rfl
            have g0 := ownsRow_free hVo (k * 3 + 0)
            have g1 := ownsRow_free hVo (k * 3 + 1)
            have g2 := ownsRow_free hVo (k * 3 + 2)
            have o1 := OwnX.set duC_sz hVo hz (q := (ky, 0, 0)) 0 (.string ky) (by omega) rfl
            have hz1 : ((Q.take k ++ List.replicate (l.length - k) duZ).set k (ky, 0, 0))[k]? = some (ky, 0, 0) := List.getElem?_set_self (List.getElem?_eq_some_iff.1 hz).1
            have o2 := OwnX.set duC_sz o1 hz1 (q := (ky, A, 0)) 1 (.int .i64 A) (by omega) rfl
            rw [List.set_set] at o2
            have hz2 : ((Q.take k ++ List.replicate (l.length - k) duZ).set k (ky, A, 0))[k]? = some (ky, A, 0) := List.getElem?_set_self (List.getElem?_eq_some_iff.1 hz).1
            have o3 := OwnX.set duC_sz o2 hz2 (q := (ky, A, B)) 2 (.int .i64 B) (by omega) rfl
            rw [List.set_set, tkrep_set HK.out HQL.out HQK.out] at o3
            simp only [Nat.zero_add, Nat.add_zero] at c0 c1 c2 g0 o3
            have HO := Lib.hid o3
            have hki : (k : Int) < (l.length : Int) := by have := HK.out; omega
            have hkn := HK.out
            clear o1 o2 o3 hz hz1 hz2 hV hVo
            go_wp2_with fail
            try simp only [Act.put]
            go_roundw
            case rel => exact ⟨k + 1, by have := HK.out; omega, by go_num, (by unfold OwnX; rw [tkrep_len (by have := HK.out; omega) HQL.out]; exact HO.out), ((hM.setCell (p := ⟨gV, k * 3, none⟩) hvm _).setCell (p := ⟨gV, k * 3 + 1, none⟩) hvm _).setCell (p := ⟨gV, k * 3 + 2, none⟩) hvm _, ((hF.far (p := ⟨gV, k * 3, none⟩) hvf _).far (p := ⟨gV, k * 3 + 1, none⟩) hvf _).far (p := ⟨gV, k * 3 + 2, none⟩) hvf _, ((hG.setCell (p := ⟨gV, k * 3, none⟩) (.inl hgv) _).setCell (p := ⟨gV, k * 3 + 1, none⟩) (.inl hgv) _).setCell (p := ⟨gV, k * 3 + 2, none⟩) (.inl hgv) _⟩
            case measure => have := HK.out; simp [intOf]; omega
          | none =>
            obtain ⟨u1, hu1⟩ : ∃ u, fv = u := ⟨_, rfl⟩
            obtain ⟨u2, hu2⟩ : ∃ u, fk = u := ⟨_, rfl⟩
            obtain ⟨u3, hu3⟩ : ∃ u, fd = u := ⟨_, rfl⟩
            obtain ⟨u4, hu4⟩ : ∃ u, fm = u := ⟨_, rfl⟩
            have HUB : Hid ((0 ≤ u3 ∧ u3 ≤ 4000) ∧ 0 ≤ u4 ∧ u4 ≤ 10000000) := Lib.hid (by subst hu3 hu4; exact HFF.out)
            have HQQ : Hid (Q[k]? = some (ky, (if b = 0 then 1000000 else u3 + b), (if a = 0 then 1000000000 else u4 + a - m))) := Lib.hid (by rw [HQ.out, hls]; subst hu3 hu4; rfl)
            have hfs : lsF fv D ky = none := by unfold lsF; rw [hls]; rfl
            have hFU : Bk w6 gF 90 #[.string u1, .string u2, .int .i64 u3, .int .i64 u4] := by rw [← hu1, ← hu2, ← hu3, ← hu4]; exact hF
            clear hls HQ hu1 hu2 hu3 hu4
            go_upto_region 24 with (at_lookup; refine wpM_look_ok rfl _ _ 151 rfl 9 90 Tryd.underlying9 Tryd.underlying151 (.agg #[.string ⟨#[]⟩, .string ⟨#[]⟩, .int .i64 0, .int .i64 0]) (zd_run _) gM c (lsF fv D) rfl hM ky rfl hsk ?_; rw [hfs])
            replace hFU := hFU.alloc (.cells #[.string ⟨#[]⟩, .string ⟨#[]⟩, .int .i64 0, .int .i64 0] 90)
            have hU := Bk.new w6 90 #[.string ⟨#[]⟩, .string ⟨#[]⟩, .int .i64 0, .int .i64 0]
            have hqF : gF < w6.heap.size := hF.lt
            have hqM0 : gM < w6.heap.size := hM.lt
            have hqn : n < w6.heap.size := hN.lt
            have hqg : w.heap.size ≤ w6.heap.size := hG.size
            have hqV : gV < w6.heap.size := (World.ownsRow.lt hV gV rfl).2
            replace hN := hN.alloc (.cells #[.string ⟨#[]⟩, .string ⟨#[]⟩, .int .i64 0, .int .i64 0] 90)
            replace hV := OwnX.alloc hV (.cells #[.string ⟨#[]⟩, .string ⟨#[]⟩, .int .i64 0, .int .i64 0] 90)
            replace hM := hM.alloc (.cells #[.string ⟨#[]⟩, .string ⟨#[]⟩, .int .i64 0, .int .i64 0] 90)
            replace hF := hF.alloc (.cells #[.string ⟨#[]⟩, .string ⟨#[]⟩, .int .i64 0, .int .i64 0] 90)
            replace hG := hG.alloc (.cells #[.string ⟨#[]⟩, .string ⟨#[]⟩, .int .i64 0, .int .i64 0] 90)
            clear n0 hfs
            generalize w6.alloc (.cells #[.string ⟨#[]⟩, .string ⟨#[]⟩, .int .i64 0, .int .i64 0] 90) = w7 at hU hN hV hM hF hFU hG ⊢
            generalize w6.heap.size = q at hU hqF hqM0 hqn hqg hqV ⊢
            have y0 : w7.cell? ⟨gF, 0, none⟩ = some (.string u1) := hFU.cell 0
            have y1 : w7.cell? ⟨gF, 1, none⟩ = some (.string u2) := hFU.cell 1
            have y2 : w7.cell? ⟨gF, 2, none⟩ = some (.int .i64 u3) := hFU.cell 2
            have y3 : w7.cell? ⟨gF, 3, none⟩ = some (.int .i64 u4) := hFU.cell 3
            have z0 : w7.cell? ⟨q, 0, none⟩ = some (.string ⟨#[]⟩) := hU.cell 0
            have z1 : w7.cell? ⟨q, 1, none⟩ = some (.string ⟨#[]⟩) := hU.cell 1
            have z2 : w7.cell? ⟨q, 2, none⟩ = some (.int .i64 0) := hU.cell 2
            have z3 : w7.cell? ⟨q, 3, none⟩ = some (.int .i64 0) := hU.cell 3
            have x0 : w7.frozen? ⟨q, 0, none⟩ = false := hU.free 0
            have x1 : w7.frozen? ⟨q, 1, none⟩ = false := hU.free 1
            have x2 : w7.frozen? ⟨q, 2, none⟩ = false := hU.free 2
            have x3 : w7.frozen? ⟨q, 3, none⟩ = false := hU.free 3
            go_upto_region 26 with fail
            have hgq : gM ≠ q := by omega
            have hqM : gM ≠ q := hgq
            replace hN := ((((hN).far (p := ⟨q, 0, none⟩) (show n ≠ q by omega) (.string u1)).far (p := ⟨q, 1, none⟩) (show n ≠ q by omega) (.string u2)).far (p := ⟨q, 2, none⟩) (show n ≠ q by omega) (.int .i64 u3)).far (p := ⟨q, 3, none⟩) (show n ≠ q by omega) (.int .i64 u4)
            replace hF := ((((hF).far (p := ⟨q, 0, none⟩) (show gF ≠ q by omega) (.string u1)).far (p := ⟨q, 1, none⟩) (show gF ≠ q by omega) (.string u2)).far (p := ⟨q, 2, none⟩) (show gF ≠ q by omega) (.int .i64 u3)).far (p := ⟨q, 3, none⟩) (show gF ≠ q by omega) (.int .i64 u4)
            replace hM := ((((hM).setCell (p := ⟨q, 0, none⟩) hqM (.string u1)).setCell (p := ⟨q, 1, none⟩) hqM (.string u2)).setCell (p := ⟨q, 2, none⟩) hqM (.int .i64 u3)).setCell (p := ⟨q, 3, none⟩) hqM (.int .i64 u4)
            replace hG := ((((hG).setCell (p := ⟨q, 0, none⟩) (.inl hqg) (.string u1)).setCell (p := ⟨q, 1, none⟩) (.inl hqg) (.string u2)).setCell (p := ⟨q, 2, none⟩) (.inl hqg) (.int .i64 u3)).setCell (p := ⟨q, 3, none⟩) (.inl hqg) (.int .i64 u4)
            have hqb : some q ≠ (Value.slice (some ⟨gV, 0, none⟩) l.length l.length).ownBlock := fun e => by injection e with e; have e2 : q = gV := e; omega
            replace hV := OwnX.far (OwnX.far (OwnX.far (OwnX.far hV (p := ⟨q, 0, none⟩) hqb (.string u1)) (p := ⟨q, 1, none⟩) hqb (.string u2)) (p := ⟨q, 2, none⟩) hqb (.int .i64 u3)) (p := ⟨q, 3, none⟩) hqb (.int .i64 u4)
            have hU2 := ((((hU).set 0 (.string u1)).set 1 (.string u2)).set 2 (.int .i64 u3)).set 3 (.int .i64 u4)
            clear hU hFU y0 y1 y2 y3 z0 z1 z2 z3 x0 x1 x2 x3
            generalize ((((w7.setCell ⟨q, 0, none⟩ (.string u1)).setCell ⟨q, 1, none⟩ (.string u2)).setCell ⟨q, 2, none⟩ (.int .i64 u3)).setCell ⟨q, 3, none⟩ (.int .i64 u4)) = w8 at hU2 hN hV hM hF hG ⊢
            have hU : Bk w8 q 90 #[.string u1, .string u2, .int .i64 u3, .int .i64 u4] := hU2
            clear hU2
            have n0 : w8.cell? ⟨n, 0, none⟩ = some (.string ky) := hN.cell 0
            have n1 : w8.cell? ⟨n, 1, none⟩ = some (.int .i64 a) := hN.cell 1
            have n2 : w8.cell? ⟨n, 2, none⟩ = some (.int .i64 b) := hN.cell 2
            have v0 : w8.cell? ⟨q, 0, none⟩ = some (.string u1) := hU.cell 0
            have v1 : w8.cell? ⟨q, 1, none⟩ = some (.string u2) := hU.cell 1
            have v2 : w8.cell? ⟨q, 2, none⟩ = some (.int .i64 u3) := hU.cell 2
            have v3 : w8.cell? ⟨q, 3, none⟩ = some (.int .i64 u4) := hU.cell 3
            go_wp2_with fail
            refine (dueOf_c ky u1 u2 a b u3 u4 m _ HXB.out.1 HXB.out.2 HUB.out.1 HUB.out.2 HM.out).mono ?_; rintro e w9 ⟨rfl, hh⟩
            replace hV := OwnX.quiet hV hh
            replace hM := hM.quiet hh
            replace hF := hF.quiet hh
            replace hG := hG.trans hh
            clear hh n0 n1 n2 v0 v1 v2 v3 hN hU
            obtain ⟨A, hA⟩ : ∃ A, (if b = 0 then 1000000 else u3 + b) = A := ⟨_, rfl⟩
            obtain ⟨B, hB⟩ : ∃ B, (if a = 0 then 1000000000 else u4 + a - m) = B := ⟨_, rfl⟩
            rw [hA, hB]
            have HQK : Hid (Q[k]? = some (ky, A, B)) := Lib.hid (by rw [HQQ.out, ← hA, ← hB])
            clear hA hB
            have hz := tkrep_get (z := duZ) HK.out HQL.out
            have hVo : w9.ownsRow w.heap.size 98 3 (.slice (some ⟨gV, 0, none⟩) l.length l.length) l.length (rowL duC (Q.take k ++ List.replicate (l.length - k) duZ)) := by
              have h := hV
              unfold OwnX at h
              rw [tkrep_len (by have := HK.out; omega) HQL.out] at h
              exact h
            have c0 := RdR.cell duC_sz (Rd.of_owns hV) (G.refl _ none) hz 0 (.string ⟨#[]⟩) rfl
            have c1 := RdR.cell duC_sz (Rd.of_owns hV) (G.refl _ none) hz 1 (.int .i64 0) rfl
            have c2 := RdR.cell duC_sz (Rd.of_owns hV) (G.refl _ none) hz 2 (.int .i64 0) rfl
            have g0 := ownsRow_free hVo (k * 3 + 0)
            have g1 := ownsRow_free hVo (k * 3 + 1)
            have g2 := ownsRow_free hVo (k * 3 + 2)
            have o1 := OwnX.set duC_sz hVo hz (q := (ky, 0, 0)) 0 (.string ky) (by omega) rfl
            have hz1 : ((Q.take k ++ List.replicate (l.length - k) duZ).set k (ky, 0, 0))[k]? = some (ky, 0, 0) := List.getElem?_set_self (List.getElem?_eq_some_iff.1 hz).1
            have o2 := OwnX.set duC_sz o1 hz1 (q := (ky, A, 0)) 1 (.int .i64 A) (by omega) rfl
            rw [List.set_set] at o2
            have hz2 : ((Q.take k ++ List.replicate (l.length - k) duZ).set k (ky, A, 0))[k]? = some (ky, A, 0) := List.getElem?_set_self (List.getElem?_eq_some_iff.1 hz).1
            have o3 := OwnX.set duC_sz o2 hz2 (q := (ky, A, B)) 2 (.int .i64 B) (by omega) rfl
            rw [List.set_set, tkrep_set HK.out HQL.out HQK.out] at o3
            simp only [Nat.zero_add, Nat.add_zero] at c0 c1 c2 g0 o3
            have HO := Lib.hid o3
            have hki : (k : Int) < (l.length : Int) := by have := HK.out; omega
            have hkn := HK.out
            clear o1 o2 o3 hz hz1 hz2 hV hVo
            go_wp2_with fail
            try simp only [Act.put]
            go_roundw
            case rel => exact ⟨k + 1, by have := HK.out; omega, by go_num, (by unfold OwnX; rw [tkrep_len (by have := HK.out; omega) HQL.out]; exact HO.out), ((hM.setCell (p := ⟨gV, k * 3, none⟩) hvm _).setCell (p := ⟨gV, k * 3 + 1, none⟩) hvm _).setCell (p := ⟨gV, k * 3 + 2, none⟩) hvm _, ((hF.far (p := ⟨gV, k * 3, none⟩) hvf _).far (p := ⟨gV, k * 3 + 1, none⟩) hvf _).far (p := ⟨gV, k * 3 + 2, none⟩) hvf _, ((hG.setCell (p := ⟨gV, k * 3, none⟩) (.inl hgv) _).setCell (p := ⟨gV, k * 3 + 1, none⟩) (.inl hgv) _).setCell (p := ⟨gV, k * 3 + 2, none⟩) (.inl hgv) _⟩
            case measure => have := HK.out; simp [intOf]; omega
        · obtain rfl : k = l.length := by omega
          have hfin : RdR wr 3 duC (.slice (some ⟨gV, 0, none⟩) l.length l.length) Q := by
            have h := Rd.of_owns hV
            have e : Q.take l.length ++ List.replicate (l.length - l.length) duZ = Q := by rw [Nat.sub_self, List.replicate_zero, List.append_nil, ← HQL.out, List.take_length]
            rw [e] at h
            exact h
          go_wp2_with fail
          go_ret2
          exact HP.out _ _ hfin hG
end Go.Proofs.YtddedckehllkoaaDoor

/- The reference's DuesOf. Written by gendud.py. -/
namespace Go.Proofs.YtddedckehllkoaaDoor
open Go.RowKit

theorem du_rowOk : RowOk Tryd.prog 98 91 3 32 (.agg #[.string ⟨#[]⟩, .int .i64 0, .int .i64 0]) duC := ⟨by kernel_rfl, Tryd.underlying91, fun r u hu => by simp [duC] at hu; rcases hu with rfl | rfl | rfl <;> rfl, duC_sz, rfl, by omega, by omega⟩
def DuRel (w : World) (gF : Nat) (f : Dn) (l : List Iv) (Q : List Du) (s9 i : Value) (wr : World) : Prop :=
  ∃ k : Nat, k ≤ l.length ∧ i = .int .i64 k ∧ OwnX 98 3 duC wr w.heap.size s9 (Q.take k) ∧ Bk wr gF 90 (dnC f) ∧ G w wr none
def DiRel (w : World) (gF n q : Nat) (f : Dn) (x : Iv) (D : List Dn) (vo : Value) (Lo : List Du) (i : Value) (wr : World) : Prop :=
  ∃ j : Nat, j ≤ D.length ∧ i = .int .i64 j ∧ Bk wr q 90 (dnC ((lsO f.1 x.1 (D.take j)).getD f)) ∧ Bk wr n 149 (ivC x) ∧ Bk wr gF 90 (dnC f) ∧ OwnX 98 3 duC wr w.heap.size vo Lo ∧ G w wr none
theorem OwnX.apy {α : Type} {T T' : TypeId} {z g base : Nat} {c : α → Array Value} {w : World} {v : Value} {l : List α} {cs : Array Value} (h : OwnX T z c w base v l) (hB : Bk w g T' cs) (hT : T ≠ T') : some g ≠ v.ownBlock := by
  rcases h.2 with ⟨rfl, _⟩ | ⟨g', cap, cur, rfl, _, hg, _⟩
  · simp [Value.ownBlock]
  · intro e
    simp only [Value.ownBlock, Option.map_some, Option.some.injEq] at e
    subst e
    have h2 := hB.symm.trans hg
    simp only [Option.some.injEq, Obj.cells.injEq] at h2
    exact hT h2.2.1.symm
theorem beq_str (a b : ByteArray) : (a.toList == b.toList) = decide (a = b) := by
  by_cases h : a = b
  · subst h; simp
  · rw [decide_eq_false h]
    cases h2 : (a.toList == b.toList) with
    | false => rfl
    | true => exact absurd (eqB_iff.1 h2) h
set_option maxRecDepth 100000 in
set_option maxHeartbeats 8000000 in
theorem duesOf_c (vl vd : Value) (l : List Iv) (D : List Dn) (fv fk : ByteArray) (fd fm m : Int) (w : World) (hl : RdR w 3 ivC vl l) (hd : RdR w 4 dnC vd D)
    (hib : ∀ x ∈ l, (0 ≤ x.2.1 ∧ x.2.1 ≤ 1000000) ∧ 0 ≤ x.2.2 ∧ x.2.2 ≤ 100000) (hdb : ∀ x ∈ D, (0 ≤ x.2.2.1 ∧ x.2.2.1 ≤ 4000) ∧ 0 ≤ x.2.2.2 ∧ x.2.2.2 ≤ 10000000) (hfb : (0 ≤ fd ∧ fd ≤ 4000) ∧ 0 ≤ fm ∧ fm ≤ 10000000) (hm : 0 ≤ m ∧ m ≤ 10000000) (hn : l.length ≤ 100) (hn2 : D.length ≤ 1000) :
    Calls Tryd.prog 62 #[vl, vd, .agg #[.string fv, .string fk, .int .i64 fd, .int .i64 fm], .int .i64 m] w fun e w' => ∃ v', e = .returned v' ∧ RdR w' 3 duC v' (duesL l D (fv, fk, fd, fm) m) ∧ G w w' none := by
  obtain ⟨al, cl, rfl, -, -⟩ := RdR.form hl
  obtain ⟨ad, cd, rfl, -, -⟩ := RdR.form hd
  have HL := Lib.hid hl
  have HDD := Lib.hid hd
  have HIB := Lib.hid hib
  have HDB := Lib.hid hdb
  have HFB := Lib.hid hfb
  obtain ⟨hm0, hm1⟩ := hm
  have HQL : Hid ((duesL l D (fv, fk, fd, fm) m).length = l.length) := Lib.hid (by unfold duesL; rw [List.length_map])
  have HQ0 : Hid (∀ k x, l[k]? = some x → (duesL l D (fv, fk, fd, fm) m)[k]? = some (dueL x ((lsO fv x.1 D).getD (fv, fk, fd, fm)) m)) := Lib.hid (fun k x h => by unfold duesL; rw [List.getElem?_map, h]; rfl)
  obtain ⟨Q, hQ⟩ : ∃ Q, duesL l D (fv, fk, fd, fm) m = Q := ⟨_, rfl⟩
  rw [hQ] at HQL HQ0 ⊢
  clear hl hd hib hdb hfb hQ
  have hF := Bk.new w 90 #[.string fv, .string fk, .int .i64 fd, .int .i64 fm]
  have hG := (G.refl w none).alloc (.cells #[.string fv, .string fk, .int .i64 fd, .int .i64 fm] 90)
  go_enter Tryd.func62, Tryd.ntmps62
  go_upto_region 1 with fail
  generalize w.alloc (.cells #[.string fv, .string fk, .int .i64 fd, .int .i64 fm] 90) = w1 at hF hG ⊢
  obtain ⟨gF, hg⟩ : ∃ g, w.heap.size = g := ⟨_, rfl⟩
  have hgF : w.heap.size ≤ gF := by omega
  rw [hg] at hF ⊢
  clear hg
  go_wp2_with fail
  go_loopw [9, 18] (DuRel w gF (fv, fk, fd, fm) l Q) (fun _ i _ => l.length - (intOf i).toNat)
  case atStart => exact ⟨0, by omega, rfl, by rw [List.take_zero]; exact World.ownsRow_nil _ _ _ _, hF, hG⟩
  case round =>
    clear hF hG
    obtain ⟨k, hk, rfl, hV, hF, hG⟩ := hrel
    by_cases hlt : k < l.length
    · obtain ⟨⟨ky, a, b⟩, hp⟩ : ∃ p, l[k]? = some p := ⟨_, List.getElem?_eq_getElem hlt⟩
      have HQ := Lib.hid (HQ0.out k _ hp)
      obtain ⟨⟨ha0, ha1⟩, hb0, hb1⟩ := HIB.out _ (List.mem_of_getElem? hp)
      dsimp only at ha0 ha1 hb0 hb1
      obtain ⟨bb, bo, rfl, -, -⟩ := RdR.elem ivC_sz HL.out hG hp
      have HW := Lib.hid (ivRow HL.out hG hp)
      have HK := Lib.hid hlt
      have hN := Bk.new wr 149 #[.string ky, .int .i64 a, .int .i64 b]
      replace hV := OwnX.alloc hV (.cells #[.string ky, .int .i64 a, .int .i64 b] 149)
      replace hF := hF.alloc (.cells #[.string ky, .int .i64 a, .int .i64 b] 149)
      replace hG := hG.alloc (.cells #[.string ky, .int .i64 a, .int .i64 b] 149)
      clear hp
      go_upto_region 5 with (refine wpList_load_at rfl 149 _ rfl ⟨bb, bo + k * 3, none⟩ rfl #[.string ky, .int .i64 a, .int .i64 b] _ HW.out Tryd.underlying149 rfl (iv_info (ky, a, b)) ?_)
      clear HW
      generalize wr.alloc (.cells #[.string ky, .int .i64 a, .int .i64 b] 149) = w6 at hN hV hF hG ⊢
      generalize wr.heap.size = n at hN ⊢
      have f0 : w6.cell? ⟨gF, 0, none⟩ = some (.string fv) := hF.cell 0
      have f1 : w6.cell? ⟨gF, 1, none⟩ = some (.string fk) := hF.cell 1
      have f2 : w6.cell? ⟨gF, 2, none⟩ = some (.int .i64 fd) := hF.cell 2
      have f3 : w6.cell? ⟨gF, 3, none⟩ = some (.int .i64 fm) := hF.cell 3
      go_upto_region 6 with fail
      have hU := Bk.new w6 90 #[.string fv, .string fk, .int .i64 fd, .int .i64 fm]
      have hqF : gF < w6.heap.size := hF.lt
      have hqn : n < w6.heap.size := hN.lt
      have hqg : w.heap.size ≤ w6.heap.size := hG.size
      have hqV : ∀ j, u9.ownBlock = some j → j < w6.heap.size := fun j e => (World.ownsRow.lt hV j e).2
      replace hN := hN.alloc (.cells #[.string fv, .string fk, .int .i64 fd, .int .i64 fm] 90)
      replace hV := OwnX.alloc hV (.cells #[.string fv, .string fk, .int .i64 fd, .int .i64 fm] 90)
      replace hF := hF.alloc (.cells #[.string fv, .string fk, .int .i64 fd, .int .i64 fm] 90)
      replace hG := hG.alloc (.cells #[.string fv, .string fk, .int .i64 fd, .int .i64 fm] 90)
      clear f0 f1 f2 f3
      generalize w6.alloc (.cells #[.string fv, .string fk, .int .i64 fd, .int .i64 fm] 90) = w7 at hU hN hV hF hG ⊢
      generalize w6.heap.size = q at hU hqF hqn hqg hqV ⊢
      have HQV := Lib.hid hqV
      clear hqV
      go_wp2_with fail
      go_loopw [25] (DiRel w gF n q (fv, fk, fd, fm) (ky, a, b) D u9 (Q.take k)) (fun i _ => D.length - (intOf i).toNat)
      case atStart => exact ⟨0, by omega, rfl, hU, hN, hF, hV, hG⟩
      case round =>
        clear hU hN hF hV hG
        obtain ⟨j, hj, rfl, hU, hN, hF, hV, hG⟩ := hrel
        by_cases hlj : j < D.length
        · obtain ⟨⟨v, y, d, t⟩, hp⟩ : ∃ p, D[j]? = some p := ⟨_, List.getElem?_eq_getElem hlj⟩
          have HT : Hid (lsO fv ky (D.take (j + 1)) = if v = fv ∧ y = ky then some (v, y, d, t) else lsO fv ky (D.take j)) := Lib.hid (by rw [List.take_add_one, hp]; exact lsO_snoc fv ky (D.take j) (v, y, d, t))
          obtain ⟨bd, od, rfl, -, -⟩ := RdR.elem dnC_sz HDD.out hG hp
          have HW := Lib.hid (dnRow HDD.out hG hp)
          have HJ := Lib.hid hlj
          obtain ⟨⟨x1, x2, x3, x4⟩, hX⟩ : ∃ x, (lsO fv ky (D.take j)).getD (fv, fk, fd, fm) = x := ⟨_, rfl⟩
          have hU : Bk wr q 90 #[.string x1, .string x2, .int .i64 x3, .int .i64 x4] := by
            have h : Bk wr q 90 (dnC ((lsO fv ky (D.take j)).getD (fv, fk, fd, fm))) := hU
            rw [hX] at h; exact h
          have HX := Lib.hid hX
          have hP := Bk.new wr 90 #[.string v, .string y, .int .i64 d, .int .i64 t]
          have hqlt := hU.lt
          replace hU := hU.alloc (.cells #[.string v, .string y, .int .i64 d, .int .i64 t] 90)
          replace hN := hN.alloc (.cells #[.string v, .string y, .int .i64 d, .int .i64 t] 90)
          replace hF := hF.alloc (.cells #[.string v, .string y, .int .i64 d, .int .i64 t] 90)
          replace hV := OwnX.alloc hV (.cells #[.string v, .string y, .int .i64 d, .int .i64 t] 90)
          replace hG := hG.alloc (.cells #[.string v, .string y, .int .i64 d, .int .i64 t] 90)
          clear hp hX
          go_upto_region 9 with (refine wpList_load_at rfl 90 _ rfl ⟨bd, od + j * 4, none⟩ rfl #[.string v, .string y, .int .i64 d, .int .i64 t] _ HW.out Tryd.underlying90 rfl (dn_info (v, y, d, t)) ?_)
          clear HW
          generalize wr.alloc (.cells #[.string v, .string y, .int .i64 d, .int .i64 t] 90) = w8 at hP hU hN hF hV hG ⊢
          generalize wr.heap.size = pb at hP hqlt ⊢
          have hpq : pb ≠ q := by omega
          have p0 : w8.cell? ⟨pb, 0, none⟩ = some (.string v) := hP.cell 0
          have p1 : w8.cell? ⟨pb, 1, none⟩ = some (.string y) := hP.cell 1
          have f0 : w8.cell? ⟨gF, 0, none⟩ = some (.string fv) := hF.cell 0
          have n0 : w8.cell? ⟨n, 0, none⟩ = some (.string ky) := hN.cell 0
          by_cases c1 : v = fv
          · by_cases c2 : y = ky
            · have e1 : (v.toList == fv.toList) = true := by rw [beq_str]; simp [c1]
              have e2 : (y.toList == ky.toList) = true := by rw [beq_str]; simp [c2]
              have HF2 : Hid (lsO fv ky (D.take (j + 1)) = some (v, y, d, t)) := Lib.hid (by rw [HT.out, if_pos ⟨c1, c2⟩])
              have p2 : w8.cell? ⟨pb, 2, none⟩ = some (.int .i64 d) := hP.cell 2
              have p3 : w8.cell? ⟨pb, 3, none⟩ = some (.int .i64 t) := hP.cell 3
              have u0 : w8.cell? ⟨q, 0, none⟩ = some (.string x1) := hU.cell 0
              have u1 : w8.cell? ⟨q, 1, none⟩ = some (.string x2) := hU.cell 1
              have u2 : w8.cell? ⟨q, 2, none⟩ = some (.int .i64 x3) := hU.cell 2
              have u3 : w8.cell? ⟨q, 3, none⟩ = some (.int .i64 x4) := hU.cell 3
              have z0 : w8.frozen? ⟨q, 0, none⟩ = false := hU.free 0
              have z1 : w8.frozen? ⟨q, 1, none⟩ = false := hU.free 1
              have z2 : w8.frozen? ⟨q, 2, none⟩ = false := hU.free 2
              have z3 : w8.frozen? ⟨q, 3, none⟩ = false := hU.free 3
              have hqb : some q ≠ u9.ownBlock := fun e => by have := HQV.out q e.symm; omega
              have R1 := Lib.hid (((((hU).set 0 (.string v)).set 1 (.string y)).set 2 (.int .i64 d)).set 3 (.int .i64 t))
              have R2 := Lib.hid (((((hN).far (p := ⟨q, 0, none⟩) (show n ≠ q by omega) (.string v)).far (p := ⟨q, 1, none⟩) (show n ≠ q by omega) (.string y)).far (p := ⟨q, 2, none⟩) (show n ≠ q by omega) (.int .i64 d)).far (p := ⟨q, 3, none⟩) (show n ≠ q by omega) (.int .i64 t))
              have R3 := Lib.hid (((((hF).far (p := ⟨q, 0, none⟩) (show gF ≠ q by omega) (.string v)).far (p := ⟨q, 1, none⟩) (show gF ≠ q by omega) (.string y)).far (p := ⟨q, 2, none⟩) (show gF ≠ q by omega) (.int .i64 d)).far (p := ⟨q, 3, none⟩) (show gF ≠ q by omega) (.int .i64 t))
              have R4 := Lib.hid (OwnX.far (OwnX.far (OwnX.far (OwnX.far hV (p := ⟨q, 0, none⟩) hqb (.string v)) (p := ⟨q, 1, none⟩) hqb (.string y)) (p := ⟨q, 2, none⟩) hqb (.int .i64 d)) (p := ⟨q, 3, none⟩) hqb (.int .i64 t))
              have R5 := Lib.hid (((((hG).setCell (p := ⟨q, 0, none⟩) (.inl hqg) (.string v)).setCell (p := ⟨q, 1, none⟩) (.inl hqg) (.string y)).setCell (p := ⟨q, 2, none⟩) (.inl hqg) (.int .i64 d)).setCell (p := ⟨q, 3, none⟩) (.inl hqg) (.int .i64 t))
              clear c1 c2 hU hN hF hV hG hP HT HX
              go_wp2_with fail
              try simp only [Act.put]
              go_roundw
              case rel => exact ⟨j + 1, by have := HJ.out; omega, by go_num, by rw [HF2.out]; exact R1.out, R2.out, R3.out, R4.out, R5.out⟩
              case measure => have := HJ.out; simp [intOf]; omega
            · have e1 : (v.toList == fv.toList) = true := by rw [beq_str]; simp [c1]
              have e2 : (y.toList == ky.toList) = false := by rw [beq_str]; simp [c2]
              have HF2 : Hid (lsO fv ky (D.take (j + 1)) = lsO fv ky (D.take j)) := Lib.hid (by rw [HT.out, if_neg (fun h => c2 h.2)])
              clear c1 c2 hP HT
              go_wp2_with fail
              go_roundw
              case rel => exact ⟨j + 1, by have := HJ.out; omega, by go_num, by rw [HF2.out, HX.out]; exact hU, hN, hF, hV, hG⟩
              case measure => have := HJ.out; simp [intOf]; omega
          · have e1 : (v.toList == fv.toList) = false := by rw [beq_str]; simp [c1]
            have HF2 : Hid (lsO fv ky (D.take (j + 1)) = lsO fv ky (D.take j)) := Lib.hid (by rw [HT.out, if_neg (fun h => c1 h.1)])
            clear c1 hP HT
            go_wp2_with fail
            go_roundw
            case rel => exact ⟨j + 1, by have := HJ.out; omega, by go_num, by rw [HF2.out, HX.out]; exact hU, hN, hF, hV, hG⟩
            case measure => have := HJ.out; simp [intOf]; omega
        · obtain rfl : j = D.length := by omega
          rw [List.take_length] at hU
          have HXB := Lib.hid (ls_ok (v := fv) (k := ky) HDB.out (f := (fv, fk, fd, fm)) HFB.out)
          obtain ⟨⟨x1, x2, x3, x4⟩, hX⟩ : ∃ x, (lsO fv ky D).getD (fv, fk, fd, fm) = x := ⟨_, rfl⟩
          rw [hX] at HXB HQ
          have hU : Bk wr q 90 #[.string x1, .string x2, .int .i64 x3, .int .i64 x4] := by
            have h : Bk wr q 90 (dnC ((lsO fv ky D).getD (fv, fk, fd, fm))) := hU
            rw [hX] at h; exact h
          clear hX
          obtain ⟨⟨hx30, hx31⟩, hx40, hx41⟩ := HXB.out
          dsimp only at hx30 hx31 hx40 hx41
          have n0 : wr.cell? ⟨n, 0, none⟩ = some (.string ky) := hN.cell 0
          go_upto_region 13 with fail
          have hR := Bk.new wr 98 #[.string ky, .int .i64 1000000, .int .i64 1000000000]
          have hrN : n < wr.heap.size := hN.lt
          have hrq : q < wr.heap.size := hU.lt
          have hrV : ∀ j, u9.ownBlock = some j → j < wr.heap.size := fun j e => (World.ownsRow.lt hV j e).2
          have hrF : gF < wr.heap.size := hF.lt
          have hrg : w.heap.size ≤ wr.heap.size := hG.size
          replace hU := hU.alloc (.cells #[.string ky, .int .i64 1000000, .int .i64 1000000000] 98)
          replace hN := hN.alloc (.cells #[.string ky, .int .i64 1000000, .int .i64 1000000000] 98)
          replace hF := hF.alloc (.cells #[.string ky, .int .i64 1000000, .int .i64 1000000000] 98)
          replace hV := OwnX.alloc hV (.cells #[.string ky, .int .i64 1000000, .int .i64 1000000000] 98)
          replace hG := hG.alloc (.cells #[.string ky, .int .i64 1000000, .int .i64 1000000000] 98)
          clear n0
          generalize wr.alloc (.cells #[.string ky, .int .i64 1000000, .int .i64 1000000000] 98) = w8 at hR hU hN hF hV hG ⊢
          generalize wr.heap.size = r at hR hrN hrq hrV hrF hrg ⊢
          have hrb : some r ≠ u9.ownBlock := fun e => by have := hrV r e.symm; omega
          have d1 : n ≠ r := by omega
          have d2 : q ≠ r := by omega
          have d3 : gF ≠ r := by omega
          have n1 : w8.cell? ⟨n, 1, none⟩ = some (.int .i64 a) := hN.cell 1
          have n2 : w8.cell? ⟨n, 2, none⟩ = some (.int .i64 b) := hN.cell 2
          have x2' : w8.cell? ⟨q, 2, none⟩ = some (.int .i64 x3) := hU.cell 2
          have x3' : w8.cell? ⟨q, 3, none⟩ = some (.int .i64 x4) := hU.cell 3
          have r1 : w8.cell? ⟨r, 1, none⟩ = some (.int .i64 1000000) := hR.cell 1
          have r2 : w8.cell? ⟨r, 2, none⟩ = some (.int .i64 1000000000) := hR.cell 2
          have z1 : w8.frozen? ⟨r, 1, none⟩ = false := hR.free 1
          have z2 : w8.frozen? ⟨r, 2, none⟩ = false := hR.free 2
          clear hrV
          by_cases b0 : b = 0
          · by_cases a0 : a = 0
            · have gb : ¬ (0 : Int) < b := by omega
              have ga : ¬ (0 : Int) < a := by omega
              have HQK : Hid (Q[k]? = some (ky, 1000000, 1000000000)) := Lib.hid (by have h := HQ.out; rw [h]; unfold dueL; rw [if_pos b0, if_pos a0])
              clear b0 a0 HQ
              go_upto_region 17 with fail
              clear n1 n2 x2' x3' r1 r2 z1 z2 hN hU
              generalize w8 = w9 at hR hF hV hG ⊢
              have hR' : Bk w9 r 98 #[.string ky, .int .i64 (1000000), .int .i64 (1000000000)] := hR
              have t0 : w9.cell? ⟨r, 0, none⟩ = some (.string ky) := hR'.cell 0
              have t1 : w9.cell? ⟨r, 1, none⟩ = some (.int .i64 (1000000)) := hR'.cell 1
              have t2 : w9.cell? ⟨r, 2, none⟩ = some (.int .i64 (1000000000)) := hR'.cell 2
              have hownA := OwnX.alloc hV (.cells (duC (ky, 1000000, 1000000000)) 98)
              have hlow := OwnX.low hV
              have hsz := hG.size
              have hfA := hF.alloc (.cells (duC (ky, 1000000, 1000000000)) 98)
              have hfb : some gF ≠ u9.ownBlock := OwnX.apy hV hF (by decide)
              go_wp2_with (at_builtin; refine wpList_plain rfl fun K' hK' => wp_append_x du_rowOk _ _ rfl w.heap.size u9 (Q.take k) rfl hownA w9.heap.size (ky, 1000000, 1000000000) rfl (Bk.new w9 _ _) (by rw [List.length_take]; have := HK.out; omega) (by simp; omega) ?_; intro v8 w10 hown8 hgrow; refine hK' _ _ ?_)
              go_roundw
              case rel => exact ⟨k + 1, by have := HK.out; omega, by go_num, by rw [List.take_add_one, HQK.out]; exact hown8, hfA.grown hgrow hfb, (hG.alloc _).other hgrow (fun j e => .inl (hlow j e))⟩
              case measure => have := HK.out; simp [intOf]; omega
            · have gb : ¬ (0 : Int) < b := by omega
              have ga : (0 : Int) < a := by omega
              have HQK : Hid (Q[k]? = some (ky, 1000000, x4 + a - m)) := Lib.hid (by have h := HQ.out; rw [h]; unfold dueL; rw [if_pos b0, if_neg a0])
              clear b0 a0 HQ
              go_upto_region 17 with fail
              replace hR := (hR).set 2 (.int .i64 (x4 + a - m))
              replace hF := (hF).far (p := ⟨r, 2, none⟩) d3 (.int .i64 (x4 + a - m))
              replace hV := OwnX.far (hV) (p := ⟨r, 2, none⟩) hrb (.int .i64 (x4 + a - m))
              replace hG := (hG).setCell (p := ⟨r, 2, none⟩) (.inl hrg) (.int .i64 (x4 + a - m))
              clear n1 n2 x2' x3' r1 r2 z1 z2 hN hU
              generalize (w8.setCell ⟨r, 2, none⟩ (.int .i64 (x4 + a - m))) = w9 at hR hF hV hG ⊢
              have hR' : Bk w9 r 98 #[.string ky, .int .i64 (1000000), .int .i64 (x4 + a - m)] := hR
              have t0 : w9.cell? ⟨r, 0, none⟩ = some (.string ky) := hR'.cell 0
              have t1 : w9.cell? ⟨r, 1, none⟩ = some (.int .i64 (1000000)) := hR'.cell 1
              have t2 : w9.cell? ⟨r, 2, none⟩ = some (.int .i64 (x4 + a - m)) := hR'.cell 2
              have hownA := OwnX.alloc hV (.cells (duC (ky, 1000000, x4 + a - m)) 98)
              have hlow := OwnX.low hV
              have hsz := hG.size
              have hfA := hF.alloc (.cells (duC (ky, 1000000, x4 + a - m)) 98)
              have hfb : some gF ≠ u9.ownBlock := OwnX.apy hV hF (by decide)
              go_wp2_with (at_builtin; refine wpList_plain rfl fun K' hK' => wp_append_x du_rowOk _ _ rfl w.heap.size u9 (Q.take k) rfl hownA w9.heap.size (ky, 1000000, x4 + a - m) rfl (Bk.new w9 _ _) (by rw [List.length_take]; have := HK.out; omega) (by simp; omega) ?_; intro v8 w10 hown8 hgrow; refine hK' _ _ ?_)
              go_roundw
              case rel => exact ⟨k + 1, by have := HK.out; omega, by go_num, by rw [List.take_add_one, HQK.out]; exact hown8, hfA.grown hgrow hfb, (hG.alloc _).other hgrow (fun j e => .inl (hlow j e))⟩
              case measure => have := HK.out; simp [intOf]; omega
          · by_cases a0 : a = 0
            · have gb : (0 : Int) < b := by omega
              have ga : ¬ (0 : Int) < a := by omega
              have HQK : Hid (Q[k]? = some (ky, x3 + b, 1000000000)) := Lib.hid (by have h := HQ.out; rw [h]; unfold dueL; rw [if_neg b0, if_pos a0])
              clear b0 a0 HQ
              go_upto_region 17 with fail
              replace hR := (hR).set 1 (.int .i64 (x3 + b))
              replace hF := (hF).far (p := ⟨r, 1, none⟩) d3 (.int .i64 (x3 + b))
              replace hV := OwnX.far (hV) (p := ⟨r, 1, none⟩) hrb (.int .i64 (x3 + b))
              replace hG := (hG).setCell (p := ⟨r, 1, none⟩) (.inl hrg) (.int .i64 (x3 + b))
              clear n1 n2 x2' x3' r1 r2 z1 z2 hN hU
              generalize (w8.setCell ⟨r, 1, none⟩ (.int .i64 (x3 + b))) = w9 at hR hF hV hG ⊢
              have hR' : Bk w9 r 98 #[.string ky, .int .i64 (x3 + b), .int .i64 (1000000000)] := hR
              have t0 : w9.cell? ⟨r, 0, none⟩ = some (.string ky) := hR'.cell 0
              have t1 : w9.cell? ⟨r, 1, none⟩ = some (.int .i64 (x3 + b)) := hR'.cell 1
              have t2 : w9.cell? ⟨r, 2, none⟩ = some (.int .i64 (1000000000)) := hR'.cell 2
              have hownA := OwnX.alloc hV (.cells (duC (ky, x3 + b, 1000000000)) 98)
              have hlow := OwnX.low hV
              have hsz := hG.size
              have hfA := hF.alloc (.cells (duC (ky, x3 + b, 1000000000)) 98)
              have hfb : some gF ≠ u9.ownBlock := OwnX.apy hV hF (by decide)
              go_wp2_with (at_builtin; refine wpList_plain rfl fun K' hK' => wp_append_x du_rowOk _ _ rfl w.heap.size u9 (Q.take k) rfl hownA w9.heap.size (ky, x3 + b, 1000000000) rfl (Bk.new w9 _ _) (by rw [List.length_take]; have := HK.out; omega) (by simp; omega) ?_; intro v8 w10 hown8 hgrow; refine hK' _ _ ?_)
              go_roundw
              case rel => exact ⟨k + 1, by have := HK.out; omega, by go_num, by rw [List.take_add_one, HQK.out]; exact hown8, hfA.grown hgrow hfb, (hG.alloc _).other hgrow (fun j e => .inl (hlow j e))⟩
              case measure => have := HK.out; simp [intOf]; omega
            · have gb : (0 : Int) < b := by omega
              have ga : (0 : Int) < a := by omega
              have HQK : Hid (Q[k]? = some (ky, x3 + b, x4 + a - m)) := Lib.hid (by have h := HQ.out; rw [h]; unfold dueL; rw [if_neg b0, if_neg a0])
              clear b0 a0 HQ
              go_upto_region 17 with fail
              replace hR := ((hR).set 1 (.int .i64 (x3 + b))).set 2 (.int .i64 (x4 + a - m))
              replace hF := ((hF).far (p := ⟨r, 1, none⟩) d3 (.int .i64 (x3 + b))).far (p := ⟨r, 2, none⟩) d3 (.int .i64 (x4 + a - m))
              replace hV := OwnX.far (OwnX.far (hV) (p := ⟨r, 1, none⟩) hrb (.int .i64 (x3 + b))) (p := ⟨r, 2, none⟩) hrb (.int .i64 (x4 + a - m))
              replace hG := ((hG).setCell (p := ⟨r, 1, none⟩) (.inl hrg) (.int .i64 (x3 + b))).setCell (p := ⟨r, 2, none⟩) (.inl hrg) (.int .i64 (x4 + a - m))
              clear n1 n2 x2' x3' r1 r2 z1 z2 hN hU
              generalize ((w8.setCell ⟨r, 1, none⟩ (.int .i64 (x3 + b))).setCell ⟨r, 2, none⟩ (.int .i64 (x4 + a - m))) = w9 at hR hF hV hG ⊢
              have hR' : Bk w9 r 98 #[.string ky, .int .i64 (x3 + b), .int .i64 (x4 + a - m)] := hR
              have t0 : w9.cell? ⟨r, 0, none⟩ = some (.string ky) := hR'.cell 0
              have t1 : w9.cell? ⟨r, 1, none⟩ = some (.int .i64 (x3 + b)) := hR'.cell 1
              have t2 : w9.cell? ⟨r, 2, none⟩ = some (.int .i64 (x4 + a - m)) := hR'.cell 2
              have hownA := OwnX.alloc hV (.cells (duC (ky, x3 + b, x4 + a - m)) 98)
              have hlow := OwnX.low hV
              have hsz := hG.size
              have hfA := hF.alloc (.cells (duC (ky, x3 + b, x4 + a - m)) 98)
              have hfb : some gF ≠ u9.ownBlock := OwnX.apy hV hF (by decide)
              go_wp2_with (at_builtin; refine wpList_plain rfl fun K' hK' => wp_append_x du_rowOk _ _ rfl w.heap.size u9 (Q.take k) rfl hownA w9.heap.size (ky, x3 + b, x4 + a - m) rfl (Bk.new w9 _ _) (by rw [List.length_take]; have := HK.out; omega) (by simp; omega) ?_; intro v8 w10 hown8 hgrow; refine hK' _ _ ?_)
              go_roundw
              case rel => exact ⟨k + 1, by have := HK.out; omega, by go_num, by rw [List.take_add_one, HQK.out]; exact hown8, hfA.grown hgrow hfb, (hG.alloc _).other hgrow (fun j e => .inl (hlow j e))⟩
              case measure => have := HK.out; simp [intOf]; omega
    · obtain rfl : k = l.length := by omega
      have hfin : Q.take l.length = Q := by rw [← HQL.out, List.take_length]
      rw [hfin] at hV
      go_wp2_with fail
      go_ret
      exact ⟨_, rfl, Rd.of_owns hV, hG⟩
end Go.Proofs.YtddedckehllkoaaDoor

/- Generator Intervals. Written by gengiv.py. -/
namespace Go.Proofs.YtddedckehllkoaaDoor
open Go.RowKit

theorem IvOk.set {l : List Iv} {r : Iv} (h : IvOk l) (hr : Small r.1) (k : Nat) : IvOk (l.set k r) := fun p hp => by
  rcases List.mem_or_eq_of_mem_set hp with hp | rfl
  · exact h p hp
  · exact hr
def GiB (w : World) (s K g : Nat) (l : List Iv) (s33 : Value) (w' : World) : Prop := ∃ q : Bool, s33 = .bool q ∧ OwnX 149 3 ivC w' w.heap.size (.slice (some ⟨g, 0, none⟩) 3 3) l ∧ SB w' s (K + 10) ∧ G w w' (some s)
def GiC (w : World) (s K g : Nat) (w' : World) : Prop := ∃ l : List Iv, OwnX 149 3 ivC w' w.heap.size (.slice (some ⟨g, 0, none⟩) 3 3) l ∧ IvOk l ∧ l.length = 3 ∧ SB w' s K ∧ G w w' (some s)
def GiPost (s K : Nat) (w : World) (e : Ending) (w' : World) : Prop :=
  ∃ (v : Value) (l : List Iv), e = .returned v ∧ RdR w' 3 ivC v l ∧ (∀ k, v.ownBlock = some k → w.heap.size ≤ k) ∧ IvOk l ∧ l.length ≤ 3 ∧ SB w' s (K + 100) ∧ G w w' (some s)
theorem own3 {w : World} {base g : Nat} {l : List Iv} (h : OwnX 149 3 ivC w base (.slice (some ⟨g, 0, none⟩) 3 3) l) (h3 : l.length = 3) : w.ownsRow base 149 3 (.slice (some ⟨g, 0, none⟩) 3 3) 3 (rowL ivC l) := by
  have h2 := h
  unfold OwnX at h2
  rw [h3] at h2
  exact h2
set_option maxRecDepth 100000 in
set_option maxHeartbeats 8000000 in
theorem intervalsG_c (w : World) (s : Nat) (K : Nat) (hs : SB w s K) (hk : K ≤ 600000000000) :
    Calls Tryd.prog 52 #[.pointer (some ⟨s, 0, none⟩)] w (GiPost s K w) := by
  have hsw := hs.lt
  go_enter Tryd.func52, Tryd.ntmps52
  go_wp2_with fail
  refine (pick_c _ _ _ [0, 90000] _ _ K (hs.alloc _) (by omega) (by decide) (by decide) (Rd.newAt _ rfl rfl (by decide)) (hs.newAt _ _ _ (Nat.le_refl _))).mono ?_; rintro e w1 ⟨k1, rfl, hp, hSB1, hg⟩
  have hG1 := ((G.refl w (some s)).alloc (.cells _ 3)).trans hg
  clear hs hg hp
  go_wp2_with fail
  refine (pick_c _ _ _ [0, 100] _ _ _ (hSB1.alloc _) (by omega) (by decide) (by decide) (Rd.newAt _ rfl rfl (by decide)) (hSB1.newAt _ _ _ (Nat.le_refl _))).mono ?_; rintro e w2 ⟨d1, rfl, hp, hSB2, hg⟩
  have hG2 := (hG1.alloc (.cells _ 3)).trans hg
  clear hSB1 hG1 hg hp
  go_wp2_with fail
  refine (pick_c _ _ _ [0, 30] _ _ _ (hSB2.alloc _) (by omega) (by decide) (by decide) (Rd.newAt _ rfl rfl (by decide)) (hSB2.newAt _ _ _ (Nat.le_refl _))).mono ?_; rintro e w3 ⟨d2, rfl, hp, hSB3, hg⟩
  have hG3 := (hG2.alloc (.cells _ 3)).trans hg
  clear hSB2 hG2 hg hp
  have hown : OwnX 149 3 ivC (w3.alloc (.cells #[.string ⟨#[98, 101, 108, 116]⟩, .int .i64 k1, .int .i64 d1, .string ⟨#[111, 105, 108]⟩, .int .i64 1000, .int .i64 d2, .string ⟨#[116, 121, 114, 101]⟩, .int .i64 0, .int .i64 365] 149)) w.heap.size (.slice (some ⟨w3.heap.size, 0, none⟩) 3 3) [(⟨#[98, 101, 108, 116]⟩, k1, d1), (⟨#[111, 105, 108]⟩, 1000, d2), (⟨#[116, 121, 114, 101]⟩, 0, 365)] := World.ownsRow_lit (base := w.heap.size) (size := 3) w3 #[.string ⟨#[98, 101, 108, 116]⟩, .int .i64 k1, .int .i64 d1, .string ⟨#[111, 105, 108]⟩, .int .i64 1000, .int .i64 d2, .string ⟨#[116, 121, 114, 101]⟩, .int .i64 0, .int .i64 365] 3 hG3.size (by decide) rfl
  have hSB := hSB3.alloc (.cells #[.string ⟨#[98, 101, 108, 116]⟩, .int .i64 k1, .int .i64 d1, .string ⟨#[111, 105, 108]⟩, .int .i64 1000, .int .i64 d2, .string ⟨#[116, 121, 114, 101]⟩, .int .i64 0, .int .i64 365] 149)
  have hG := hG3.alloc (.cells #[.string ⟨#[98, 101, 108, 116]⟩, .int .i64 k1, .int .i64 d1, .string ⟨#[111, 105, 108]⟩, .int .i64 1000, .int .i64 d2, .string ⟨#[116, 121, 114, 101]⟩, .int .i64 0, .int .i64 365] 149)
  have hgw := hG3.size
  clear hSB3 hG3
  go_upto_region 2 with fail
  generalize w3.alloc (.cells #[.string ⟨#[98, 101, 108, 116]⟩, .int .i64 k1, .int .i64 d1, .string ⟨#[111, 105, 108]⟩, .int .i64 1000, .int .i64 d2, .string ⟨#[116, 121, 114, 101]⟩, .int .i64 0, .int .i64 365] 149) = w4 at hown hSB hG ⊢
  generalize w3.heap.size = g at hown hgw ⊢
  obtain ⟨l, hl⟩ : ∃ l : List Iv, [(⟨#[98, 101, 108, 116]⟩, k1, d1), (⟨#[111, 105, 108]⟩, 1000, d2), (⟨#[116, 121, 114, 101]⟩, 0, 365)] = l := ⟨_, rfl⟩
  have HOK : Hid (IvOk l ∧ l.length = 3) := Lib.hid (by
    rw [← hl]
    refine ⟨fun x hx => ?_, rfl⟩
    simp only [List.mem_cons, List.mem_nil_iff, or_false] at hx
    rcases hx with rfl | rfl | rfl
    · exact small_of (s := ⟨#[98, 101, 108, 116]⟩) (by decide)
    · exact small_of (s := ⟨#[111, 105, 108]⟩) (by decide)
    · exact small_of (s := ⟨#[116, 121, 114, 101]⟩) (by decide))
  have HP0 : Hid (l[0]? = some (⟨#[98, 101, 108, 116]⟩, k1, d1)) := Lib.hid (by rw [← hl]; rfl)
  rw [hl] at hown
  clear hl
  have hsg : s < g := Nat.lt_of_lt_of_le hsw hgw
  go_cut [33] from 4 (fun s33 w' => GiB w s K g l s33 w')
  case first =>
    have c1 := RdR.cell ivC_sz (Rd.of_owns hown) (G.refl _ none) HP0.out 1 (.int .i64 k1) rfl
    have c2 := RdR.cell ivC_sz (Rd.of_owns hown) (G.refl _ none) HP0.out 2 (.int .i64 d1) rfl
    simp only [Nat.zero_mul, Nat.zero_add] at c1 c2
    by_cases b1 : k1 = 0
    · by_cases b2 : d1 = 0
      · have b3 : (k1 == 0) = true := by simp [b1]
        have b4 : (d1 == 0) = true := by simp [b2]
        clear b1 b2
        go_wp2_with fail
        refine (flip_c _ _ _ _ hSB (by omega) (by omega)).mono ?_; rintro e w5 ⟨q, rfl, hSB5, hg⟩
        have hown5 := OwnX.kept hown hg hsw
        have hG5 := hG.trans hg
        clear hown hG hSB hg c1 c2
        go_wp2_with fail
        go_meet
        case rel => exact ⟨!q, rfl, hown5, hSB5.le (by omega), hG5⟩
      · have b3 : (k1 == 0) = true := by simp [b1]
        have b4 : (d1 == 0) = false := beq_eq_false_iff_ne.2 b2
        clear b1 b2
        go_wp2_with fail
        go_meet
        case rel => exact ⟨false, rfl, hown, hSB.le (by omega), hG⟩
    · have b3 : (k1 == 0) = false := beq_eq_false_iff_ne.2 b1
      clear b1
      go_wp2_with fail
      go_meet
      case rel => exact ⟨false, rfl, hown, hSB.le (by omega), hG⟩
  case rest =>
  clear hown hSB hG
  obtain ⟨q, rfl, hown, hSB, hG⟩ := hcut
  go_upto_if 33 with fail
  go_cut [] from 4 (fun w' => GiC w s (K + 10) g w')
  case first =>
    cases q with
    | false =>
      go_wp2_with fail
      go_meet
      case rel => exact ⟨l, hown, HOK.out.1, HOK.out.2, hSB, hG⟩
    | true =>
      have hvo := own3 hown HOK.out.2
      have c2 := RdR.cell ivC_sz (Rd.of_owns hown) (G.refl _ none) HP0.out 2 (.int .i64 d1) rfl
      have f2 := ownsRow_free hvo (0 * 3 + 2)
      have o2 := OwnX.set ivC_sz hvo HP0.out (q := (⟨#[98, 101, 108, 116]⟩, k1, 7)) 2 (.int .i64 7) (by omega) rfl
      simp only [Nat.zero_mul, Nat.zero_add] at c2 f2 o2
      have HO := Lib.hid o2
      clear o2 hvo hown
      go_wp2_with fail
      try simp only [Act.put]
      go_meet
      case rel => exact ⟨l.set 0 (⟨#[98, 101, 108, 116]⟩, k1, 7), by unfold OwnX; rw [List.length_set, HOK.out.2]; exact HO.out, HOK.out.1.set (r := (⟨#[98, 101, 108, 116]⟩, k1, 7)) (small_of (s := ⟨#[98, 101, 108, 116]⟩) (by decide)) 0, by rw [List.length_set]; exact HOK.out.2, hSB.setCell (p := ⟨g, 2, none⟩) hsg _, hG.setCell (p := ⟨g, 2, none⟩) (.inl hgw) _⟩
  case rest =>
  clear hown hSB hG HOK HP0
  obtain ⟨l1, hown, hok, h3, hSB, hG⟩ := hcut
  have HOK := Lib.hid (And.intro hok h3)
  clear hok h3
  go_wp2_with fail
  refine (flip_c _ _ _ _ hSB (by omega) (by omega)).mono ?_; rintro e w6 ⟨q2, rfl, hSB6, hg⟩
  have hown6 := OwnX.kept hown hg hsw
  have hG6 := hG.trans hg
  clear hown hG hSB hg
  go_upto_if 38 with fail
  go_cut [] from 4 (fun w' => GiC w s (K + 20) g w')
  case first =>
    cases q2 with
    | false =>
      go_wp2_with fail
      go_meet
      case rel => exact ⟨l1, hown6, HOK.out.1, HOK.out.2, hSB6.le (by omega), hG6⟩
    | true =>
      go_wp2_with fail
      refine (some_c _ _ _ [⟨#[]⟩, ⟨#[98, 101, 108, 116]⟩, ⟨#[111, 105, 108]⟩] _ _ _ (hSB6.alloc _) (by omega) (by decide) (by decide) (Rd.newAt _ rfl rfl (by decide)) (hSB6.newAt _ _ _ (Nat.le_refl _))).mono ?_; rintro e w7 ⟨r1, rfl, hp, hSB7, hg⟩
      have HR1 := Lib.hid (small_pick hp (by decide))
      have hown7 := OwnX.kept (OwnX.alloc hown6 (.cells _ 9)) hg hsw
      have hG7 := (hG6.alloc (.cells _ 9)).trans hg
      clear hown6 hG6 hg hSB6 hp
      go_wp2_with fail
      refine (odd_c _ _ _ _ _ hSB7 (by omega) (by omega) (by omega) (by omega) (by omega)).mono ?_; rintro e w8 ⟨y1, rfl, -, -, hSB8, hg⟩
      have hown8 := OwnX.kept hown7 hg hsw
      have hG8 := hG7.trans hg
      clear hown7 hG7 hg hSB7
      go_wp2_with fail
      refine (odd_c _ _ _ _ _ hSB8 (by omega) (by omega) (by omega) (by omega) (by omega)).mono ?_; rintro e w9 ⟨y2, rfl, -, -, hSB9, hg⟩
      have hown9 := OwnX.kept hown8 hg hsw
      have hG9 := hG8.trans hg
      clear hown8 hG8 hg hSB8
      have hvo := own3 hown9 HOK.out.2
      have jl : 1 < l1.length := by have := HOK.out.2; omega
      obtain ⟨⟨z1, z2, z3⟩, hp⟩ : ∃ p, l1[1]? = some p := ⟨_, List.getElem?_eq_getElem jl⟩
      have c0 := RdR.cell ivC_sz (Rd.of_owns hown9) (G.refl _ none) hp 0 (.string z1) rfl
      have c1 := RdR.cell ivC_sz (Rd.of_owns hown9) (G.refl _ none) hp 1 (.int .i64 z2) rfl
      have c2 := RdR.cell ivC_sz (Rd.of_owns hown9) (G.refl _ none) hp 2 (.int .i64 z3) rfl
      have f0 := ownsRow_free hvo (1 * 3 + 0)
      have f1 := ownsRow_free hvo (1 * 3 + 1)
      have f2 := ownsRow_free hvo (1 * 3 + 2)
      have o1 := OwnX.set ivC_sz hvo hp (q := (r1, z2, z3)) 0 (.string r1) (by omega) rfl
      have o2 := OwnX.set ivC_sz o1 (show (l1.set 1 (r1, z2, z3))[1]? = some (r1, z2, z3) by rw [List.getElem?_set_self jl]) (q := (r1, y1, z3)) 1 (.int .i64 y1) (by omega) rfl
      rw [List.set_set] at o2
      have o3 := OwnX.set ivC_sz o2 (show (l1.set 1 (r1, y1, z3))[1]? = some (r1, y1, z3) by rw [List.getElem?_set_self jl]) (q := (r1, y1, y2)) 2 (.int .i64 y2) (by omega) rfl
      rw [List.set_set] at o3
      simp only [Nat.one_mul, Nat.zero_add, Nat.add_zero, Nat.reduceAdd] at c0 c1 c2 f0 f1 f2 o3
      have HO := Lib.hid o3
      clear o1 o2 o3 hvo hown9 hp jl
      go_wp2_with fail
      try simp only [Act.put]
      go_meet
      case rel => exact ⟨l1.set 1 (r1, y1, y2), by unfold OwnX; rw [List.length_set, HOK.out.2]; exact HO.out, HOK.out.1.set (r := (r1, y1, y2)) HR1.out 1, by rw [List.length_set]; exact HOK.out.2, (((hSB9.setCell (p := ⟨g, 3, none⟩) hsg _).setCell (p := ⟨g, 4, none⟩) hsg _).setCell (p := ⟨g, 5, none⟩) hsg _).le (by omega), ((hG9.setCell (p := ⟨g, 3, none⟩) (.inl hgw) _).setCell (p := ⟨g, 4, none⟩) (.inl hgw) _).setCell (p := ⟨g, 5, none⟩) (.inl hgw) _⟩
  case rest =>
  clear hown6 hSB6 hG6 HOK
  obtain ⟨l2, hown, hok, h3, hSB, hG⟩ := hcut
  have HOK := Lib.hid (And.intro hok h3)
  clear hok h3
  go_wp2_with fail
  refine (range_c 0 3 _ s _ hSB (by omega) (by omega) (by omega) (by omega)).mono ?_; rintro e w7 ⟨nn, rfl, r0, r1, hSB7, hg⟩
  obtain ⟨m, rfl⟩ := Int.eq_ofNat_of_zero_le r0
  have hm3 : m ≤ 3 := by omega
  have hown7 := OwnX.kept hown hg hsw
  have hG7 := hG.trans hg
  clear hown hG hSB hg r0 r1
  have hR : RdR w7 3 ivC (.slice (some ⟨g, 0, none⟩) 3 3) l2 := Rd.of_owns hown7
  have HPX := Lib.hid (RdR.prefix_ ivC_sz hR m (by have := HOK.out.2; omega))
  clear hR hown7
  go_wp2_with fail
  go_ret
  exact ⟨_, l2.take m, rfl, HPX.out, fun k e => by injection e with e; have e2 : g = k := e; omega, fun x hx => HOK.out.1 x (List.mem_of_mem_take hx), by rw [List.length_take]; omega, hSB7.le (by omega), hG7⟩
end Go.Proofs.YtddedckehllkoaaDoor

/- Generators: Services, DuesOf. Written by gensvg.py. -/
namespace Go.Proofs.YtddedckehllkoaaDoor
open Go.RowKit

theorem dn_rowOk : RowOk Tryd.prog 90 87 4 48 (.agg #[.string ⟨#[]⟩, .string ⟨#[]⟩, .int .i64 0, .int .i64 0]) dnC := ⟨by kernel_rfl, Tryd.underlying87, fun r u hu => by simp [dnC] at hu; rcases hu with rfl | rfl | rfl | rfl <;> rfl, dnC_sz, rfl, by omega, by omega⟩
theorem DnOk.snoc {l : List Dn} {r : Dn} (h : DnOk l) (hr : Small r.1 ∧ Small r.2.1) : DnOk (l ++ [r]) := fun p hp => by
  rcases List.mem_append.1 hp with hp | hp
  · exact h p hp
  · obtain rfl := List.mem_singleton.1 hp; exact hr
theorem DnOk.set {l : List Dn} {r : Dn} (h : DnOk l) (hr : Small r.1 ∧ Small r.2.1) (k : Nat) : DnOk (l.set k r) := fun p hp => by
  rcases List.mem_or_eq_of_mem_set hp with hp | rfl
  · exact h p hp
  · exact hr
theorem own_form0 {α : Type} {T : TypeId} {z : Nat} {c : α → Array Value} {w : World} {base : Nat} {v : Value} {l : List α} (h : OwnX T z c w base v l) (h0 : 0 < l.length) : ∃ g cap cur, v = .slice (some ⟨g, 0, none⟩) l.length cap ∧ Bk w g T cur := by
  rcases h.2 with ⟨rfl, h3⟩ | ⟨g, cap, cur, rfl, hb, hg, _⟩
  · omega
  · exact ⟨g, cap, cur, rfl, hg⟩
def SvPost (s K : Nat) (w : World) (e : Ending) (w' : World) : Prop :=
  ∃ (v : Value) (l : List Dn), e = .returned v ∧ OwnX 90 4 dnC w' w.heap.size v l ∧ DnOk l ∧ l.length ≤ 5 ∧ SB w' s (K + 100) ∧ G w w' (some s)
def SvRel (w : World) (s K m : Nat) (s3 s4 s8 : Value) (wr : World) : Prop :=
  ∃ (k : Nat) (l : List Dn) (d : Int), k ≤ m ∧ l.length = k ∧ s8 = .int .i64 k ∧ s4 = .int .i64 d ∧ (0 ≤ d ∧ d ≤ 40 * k) ∧ OwnX 90 4 dnC wr w.heap.size s3 l ∧ DnOk l ∧ SB wr s (K + 1 + 4 * k) ∧ G w wr (some s)
set_option maxRecDepth 100000 in
set_option maxHeartbeats 8000000 in
theorem servicesG_c (w : World) (s : Nat) (K : Nat) (hs : SB w s K) (hk : K ≤ 600000000000) :
    Calls Tryd.prog 53 #[.pointer (some ⟨s, 0, none⟩)] w (SvPost s K w) := by
  have hsw := hs.lt
  go_enter Tryd.func53, Tryd.ntmps53
  go_wp2_with fail
  refine (range_c 0 5 _ s _ hs (by omega) (by omega) (by omega) (by omega)).mono ?_; rintro e w1 ⟨nn, rfl, r0, r1, hSB1, hG1⟩
  obtain ⟨m, rfl⟩ := Int.eq_ofNat_of_zero_le r0
  have hm5 : m ≤ 5 := by omega
  clear hs r0 r1
  go_wp2_with fail
  go_loopw [3, 4, 8] (SvRel w s K m) (fun _ _ i _ => m - (intOf i).toNat)
  case atStart => exact ⟨0, [], 0, by omega, rfl, rfl, rfl, by omega, World.ownsRow_nil _ _ _ _, fun x hx => (by cases hx), hSB1, hG1⟩
  case round =>
    clear hSB1 hG1
    obtain ⟨k, l, dy, hkn, hlk, rfl, rfl, ⟨hd0, hd1⟩, hown, hok, hSB, hG⟩ := hrel
    by_cases hlt : k < m
    · have HOK := Lib.hid hok
      have HLK := Lib.hid hlk
      have HKN := Lib.hid hlt
      clear hok hlk
      go_wp2_with fail
      refine (pick_c _ _ _ [0, 0, 5, 40] _ _ _ (hSB.alloc _) (by omega) (by decide) (by decide) (Rd.newAt _ rfl rfl (by decide)) (hSB.newAt _ _ _ (Nat.le_refl _))).mono ?_; rintro e w3 ⟨dd, rfl, hp, hSB3, hg⟩
      have HDD : Hid (0 ≤ dd ∧ dd ≤ 40) := Lib.hid (by simp only [List.mem_cons, List.mem_nil_iff, or_false] at hp; omega)
      have hh := ((G.refl wr (some s)).alloc (.cells _ 3)).trans hg
      have hown3 := OwnX.kept hown hh hsw
      have hG3 := hG.trans hh
      clear hown hG hSB hg hh hp
      obtain ⟨hdd0, hdd1⟩ := HDD.out
      go_wp2_with fail
      refine (some_c _ _ _ [⟨#[118, 49]⟩, ⟨#[118, 49]⟩, ⟨#[118, 50]⟩] _ _ _ (hSB3.alloc _) (by omega) (by decide) (by decide) (Rd.newAt _ rfl rfl (by decide)) (hSB3.newAt _ _ _ (Nat.le_refl _))).mono ?_; rintro e w4 ⟨gk, rfl, hp, hSB4, hg⟩
      have HGK := Lib.hid (small_pick hp (by decide))
      have hh := ((G.refl w3 (some s)).alloc (.cells _ 9)).trans hg
      have hown4 := OwnX.kept hown3 hh hsw
      have hG4 := hG3.trans hh
      clear hown3 hG3 hSB3 hg hh hp
      go_wp2_with fail
      refine (some_c _ _ _ [⟨#[111, 105, 108]⟩, ⟨#[98, 101, 108, 116]⟩, ⟨#[116, 121, 114, 101]⟩, ⟨#[119, 97, 115, 104]⟩] _ _ _ (hSB4.alloc _) (by omega) (by decide) (by decide) (Rd.newAt _ rfl rfl (by decide)) (hSB4.newAt _ _ _ (Nat.le_refl _))).mono ?_; rintro e w5 ⟨y, rfl, hp, hSB5, hg⟩
      have HY := Lib.hid (small_pick hp (by decide))
      have hh := ((G.refl w4 (some s)).alloc (.cells _ 9)).trans hg
      have hown5 := OwnX.kept hown4 hh hsw
      have hG5 := hG4.trans hh
      clear hown4 hG4 hSB4 hg hh hp
      go_wp2_with fail
      refine (pick_c _ _ _ [0, 500, 5000] _ _ _ (hSB5.alloc _) (by omega) (by decide) (by decide) (Rd.newAt _ rfl rfl (by decide)) (hSB5.newAt _ _ _ (Nat.le_refl _))).mono ?_; rintro e w6 ⟨c, rfl, hp, hSB6, hg⟩
      have hh := ((G.refl w5 (some s)).alloc (.cells _ 3)).trans hg
      have hown6 := OwnX.kept hown5 hh hsw
      have hG6 := hG5.trans hh
      have hob := OwnX.low hown6
      have hsz := hG6.size
      have hownA := OwnX.alloc hown6 (.cells #[.string gk, .string y, .int .i64 (dy + dd), .int .i64 c] 90)
      clear hown5 hG5 hSB5 hg hh hp
      go_wp2_with (at_builtin; refine wpList_plain rfl fun K' hK' => wp_append_x dn_rowOk _ _ rfl w.heap.size u3 l rfl hownA w6.heap.size (gk, y, dy + dd, c) rfl (Bk.new w6 _ _) (by have := HLK.out; omega) (by simp; omega) ?_; intro v8 w8 hown8 hgrow; refine hK' _ _ ?_)
      go_roundw
      case rel => exact ⟨k + 1, l ++ [(gk, y, dy + dd, c)], dy + dd, (by have := HKN.out; omega), (by have := HLK.out; simp; omega), by go_num, rfl, by omega, hown8, HOK.out.snoc ⟨HGK.out, HY.out⟩, ((hSB6.alloc _).own hgrow (fun r e => Nat.lt_of_lt_of_le hsw (hob r e))).le (by omega), (hG6.alloc _).other hgrow (fun r e => .inl (hob r e))⟩
      case measure => have := HKN.out; simp [intOf]; omega
    · obtain rfl : k = m := by omega
      have hl5 : l.length ≤ 5 := by omega
      clear hlk hd0 hd1
      have HOK := Lib.hid hok
      clear hok
      rcases Nat.eq_zero_or_pos l.length with h0 | h0
      · obtain rfl : l = [] := List.eq_nil_of_length_eq_zero h0
        obtain ⟨aa, cc, hv, -, -⟩ := RdR.form (c := dnC) (Rd.of_owns hown)
        have hv' : u3 = .slice aa 0 cc := hv
        clear hv h0
        subst hv'
        go_wp2_with fail
        go_ret
        exact ⟨_, [], rfl, hown, HOK.out, by simp, hSB.le (by omega), hG⟩
      · obtain ⟨g, cap, cur, e, -⟩ := own_form0 hown h0
        subst e
        have hgs := OwnX.low hown g rfl
        have h0i : ((0 : Int) < (l.length : Int)) := by omega
        clear h0
        go_wp2_with fail
        refine (flip_c _ _ _ _ hSB (by omega) (by omega)).mono ?_; rintro e w4 ⟨q, rfl, hSB4, hg⟩
        have hown4 := OwnX.kept hown hg hsw
        have hG4 := hG.trans hg
        clear hown hG hSB hg
        cases q with
        | false =>
          go_wp2_with fail
          go_ret
          exact ⟨_, l, rfl, hown4, HOK.out, hl5, hSB4.le (by omega), hG4⟩
        | true =>
          go_wp2_with fail
          refine (next_c _ _ _ _ hSB4 (by omega) (by omega)).mono ?_; rintro e w5 ⟨j, rfl, hj, hSB5, hg⟩
          obtain ⟨j0, j1⟩ := hj
          obtain ⟨j, rfl⟩ := Int.eq_ofNat_of_zero_le j0
          have jl : j < l.length := by omega
          have jli : (j : Int) < (l.length : Int) := by omega
          clear j1
          have hown5 := OwnX.kept hown4 hg hsw
          have hG5 := hG4.trans hg
          clear hown4 hG4 hg hSB4
          obtain ⟨⟨z1, z2, z3, z4⟩, hpj⟩ : ∃ p, l[j]? = some p := ⟨_, List.getElem?_eq_getElem jl⟩
          have HPJ := Lib.hid hpj
          have HPG : Hid (Small z1 ∧ Small z2) := Lib.hid (HOK.out _ (List.mem_of_getElem? hpj))
          clear hpj
          have hgsg : s < g := Nat.lt_of_lt_of_le hsw hgs
          have c0 := RdR.cell dnC_sz (Rd.of_owns hown5) (G.refl _ none) HPJ.out 0 (.string z1) rfl
          simp only [Nat.add_zero, Nat.zero_add] at c0
          go_wp2_with fail
          refine (some_c _ _ _ [z1, ⟨#[]⟩] _ _ _ (hSB5.alloc _) (by omega) (by decide) (by decide) (Rd.newAt _ rfl rfl (by decide)) (hSB5.newAt _ _ _ (Nat.le_refl _))).mono ?_; rintro e w7 ⟨n7, rfl, hp, hSB7, hg⟩
          have HN7 : Hid (Small n7) := Lib.hid (by
            simp only [List.mem_cons, List.mem_nil_iff, or_false] at hp
            rcases hp with rfl | rfl
            · exact HPG.out.1
            · exact small_of (by decide))
          have hown7 := OwnX.kept (OwnX.alloc hown5 (.cells _ 9)) hg hsw
          have hG7 := (hG5.alloc (.cells _ 9)).trans hg
          clear hp hown5 hG5 hSB5 hg c0
          go_wp2_with fail
          refine (odd_c _ _ _ _ _ hSB7 (by omega) (by omega) (by omega) (by omega) (by omega)).mono ?_; rintro e w8 ⟨o1, rfl, -, -, hSB8, hg⟩
          have hown8 := OwnX.kept hown7 hg hsw
          have hG8 := hG7.trans hg
          clear hown7 hG7 hSB7 hg
          go_wp2_with fail
          refine (odd_c _ _ _ _ _ hSB8 (by omega) (by omega) (by omega) (by omega) (by omega)).mono ?_; rintro e w9 ⟨o2, rfl, -, -, hSB9, hg⟩
          have hown9 := OwnX.kept hown8 hg hsw
          have hG9 := hG8.trans hg
          clear hown8 hG8 hSB8 hg
          have d0 := RdR.cell dnC_sz (Rd.of_owns hown9) (G.refl _ none) HPJ.out 0 (.string z1) rfl
          have d2 := RdR.cell dnC_sz (Rd.of_owns hown9) (G.refl _ none) HPJ.out 2 (.int .i64 z3) rfl
          have d3 := RdR.cell dnC_sz (Rd.of_owns hown9) (G.refl _ none) HPJ.out 3 (.int .i64 z4) rfl
          have f0 := ownsRow_free hown9 (j * 4 + 0)
          have f2 := ownsRow_free hown9 (j * 4 + 2)
          have f3 := ownsRow_free hown9 (j * 4 + 3)
          have q1 := OwnX.set dnC_sz hown9 HPJ.out (q := (n7, z2, z3, z4)) 0 (.string n7) (by omega) rfl
          have q2 := OwnX.set dnC_sz q1 (show (l.set j (n7, z2, z3, z4))[j]? = some (n7, z2, z3, z4) by rw [List.getElem?_set_self jl]) (q := (n7, z2, o1, z4)) 2 (.int .i64 o1) (by omega) rfl
          rw [List.set_set] at q2
          have q3 := OwnX.set dnC_sz q2 (show (l.set j (n7, z2, o1, z4))[j]? = some (n7, z2, o1, z4) by rw [List.getElem?_set_self jl]) (q := (n7, z2, o1, o2)) 3 (.int .i64 o2) (by omega) rfl
          rw [List.set_set] at q3
          simp only [Nat.zero_add, Nat.add_zero] at d0 d2 d3 f0 q3
          have HQ3 := Lib.hid q3
          clear q1 q2 q3 hown9
          go_wp2_with fail
          go_ret
          exact ⟨_, l.set j (n7, z2, o1, o2), rfl, by unfold OwnX; rw [List.length_set]; exact HQ3.out, HOK.out.set (r := (n7, z2, o1, o2)) ⟨HN7.out, HPG.out.2⟩ j, by rw [List.length_set]; exact hl5, (((hSB9.setCell (p := ⟨g, j * 4, none⟩) hgsg _).setCell (p := ⟨g, j * 4 + 2, none⟩) hgsg _).setCell (p := ⟨g, j * 4 + 3, none⟩) hgsg _).le (by omega), ((hG9.setCell (p := ⟨g, j * 4, none⟩) (.inl hgs) _).setCell (p := ⟨g, j * 4 + 2, none⟩) (.inl hgs) _).setCell (p := ⟨g, j * 4 + 3, none⟩) (.inl hgs) _⟩
end Go.Proofs.YtddedckehllkoaaDoor

/- Generator DuesOf. Written by gensdg.py. -/
namespace Go.Proofs.YtddedckehllkoaaDoor
open Go.RowKit

theorem DuOk.snoc {l : List Du} {r : Du} (h : DuOk l) (hr : Small r.1) : DuOk (l ++ [r]) := fun p hp => by
  rcases List.mem_append.1 hp with hp | hp
  · exact h p hp
  · obtain rfl := List.mem_singleton.1 hp; exact hr
def SdPost (s K : Nat) (w : World) (e : Ending) (w' : World) : Prop :=
  ∃ (v : Value) (l : List Du), e = .returned v ∧ OwnX 98 3 duC w' w.heap.size v l ∧ l.length ≤ 3 ∧ SB w' s (K + 100) ∧ G w w' (some s)
def SdRel (w : World) (s K gk : Nat) (s3 s9 : Value) (wr : World) : Prop :=
  ∃ (k : Nat) (l : List Du), k ≤ 3 ∧ l.length ≤ k ∧ s9 = .int .i64 k ∧ Bk wr gk 9 #[.string ⟨#[98, 101, 108, 116]⟩, .string ⟨#[111, 105, 108]⟩, .string ⟨#[116, 121, 114, 101]⟩] ∧ OwnX 98 3 duC wr w.heap.size s3 l ∧ SB wr s (K + 1 + 4 * k) ∧ G w wr (some s)
set_option maxRecDepth 100000 in
set_option maxHeartbeats 8000000 in
theorem duesG_c (w : World) (s : Nat) (K : Nat) (hs : SB w s K) (hk : K ≤ 600000000000) :
    Calls Tryd.prog 63 #[.pointer (some ⟨s, 0, none⟩)] w (SdPost s K w) := by
  have hsw := hs.lt
  have hK := Bk.new w 9 #[.string ⟨#[98, 101, 108, 116]⟩, .string ⟨#[111, 105, 108]⟩, .string ⟨#[116, 121, 114, 101]⟩]
  have hSB1 := hs.alloc (.cells #[.string ⟨#[98, 101, 108, 116]⟩, .string ⟨#[111, 105, 108]⟩, .string ⟨#[116, 121, 114, 101]⟩] 9)
  have hG1 := (G.refl w (some s)).alloc (.cells #[.string ⟨#[98, 101, 108, 116]⟩, .string ⟨#[111, 105, 108]⟩, .string ⟨#[116, 121, 114, 101]⟩] 9)
  go_enter Tryd.func63, Tryd.ntmps63
  go_wp2_with fail
  generalize w.alloc (.cells #[.string ⟨#[98, 101, 108, 116]⟩, .string ⟨#[111, 105, 108]⟩, .string ⟨#[116, 121, 114, 101]⟩] 9) = w1 at hK hSB1 hG1 ⊢
  have hsk : s < w.heap.size := hsw
  obtain ⟨gk, hgk⟩ : ∃ g, w.heap.size = g := ⟨_, rfl⟩
  have hgks : s ≠ gk := by omega
  have hgkw : w.heap.size ≤ gk := by omega
  rw [hgk] at hK ⊢
  clear hgk
  go_loopw [3, 9] (SdRel w s K gk) (fun _ i _ => 3 - (intOf i).toNat)
  case atStart => exact ⟨0, [], by omega, by simp, rfl, hK, World.ownsRow_nil _ _ _ _, hSB1.le (by omega), hG1⟩
  case round =>
    clear hK hSB1 hG1 hs
    obtain ⟨k, l, hkn, hlk, rfl, hK, hown, hSB, hG⟩ := hrel
    by_cases hlt : k < 3
    · have HLK := Lib.hid hlk
      have HKN := Lib.hid hlt
      obtain ⟨ky, hcy⟩ : ∃ ky : ByteArray, wr.cell? ⟨gk, k, none⟩ = some (.string ky) := by
        rcases (show k = 0 ∨ k = 1 ∨ k = 2 by omega) with rfl | rfl | rfl
        · exact ⟨_, hK.cell 0⟩
        · exact ⟨_, hK.cell 1⟩
        · exact ⟨_, hK.cell 2⟩
      have hki : (k : Int) < 3 := by omega
      clear hlk
      go_wp2_with fail
      refine (flip_c _ _ _ _ hSB (by omega) (by omega)).mono ?_; rintro e w2 ⟨q, rfl, hSB2, hg⟩
      have hown2 := OwnX.kept hown hg hsw
      have hK2 := hK.grown hg (fun e => hgks (Option.some.inj e).symm)
      have hG2 := hG.trans hg
      clear hown hK hG hSB hg hcy
      cases q with
      | true =>
        go_wp2_with fail
        go_roundw
        case rel => exact ⟨k + 1, l, (by have := HKN.out; omega), (by have := HLK.out; omega), by go_num, hK2, hown2, hSB2.le (by omega), hG2⟩
        case measure => have := HKN.out; simp [intOf]; omega
      | false =>
        go_wp2_with fail
        refine (pick_c _ _ _ [0, 50, 60, 80, 1000000] _ _ _ (hSB2.alloc _) (by omega) (by decide) (by decide) (Rd.newAt _ rfl rfl (by decide)) (hSB2.newAt _ _ _ (Nat.le_refl _))).mono ?_; rintro e w3 ⟨b, rfl, hp, hSB3, hg⟩
        have hh := ((G.refl w2 (some s)).alloc (.cells _ 3)).trans hg
        have hown3 := OwnX.kept hown2 hh hsw
        have hK3 := hK2.grown hh (fun e => hgks (Option.some.inj e).symm)
        have hG3 := hG2.trans hh
        clear hown2 hK2 hG2 hSB2 hg hh hp
        go_wp2_with fail
        refine (pick_c _ _ _ [-5, 0, 1, 100, 900, 1000000000] _ _ _ (hSB3.alloc _) (by omega) (by decide) (by decide) (Rd.newAt _ rfl rfl (by decide)) (hSB3.newAt _ _ _ (Nat.le_refl _))).mono ?_; rintro e w6 ⟨c, rfl, hp, hSB6, hg⟩
        have hh := ((G.refl w3 (some s)).alloc (.cells _ 3)).trans hg
        have hown6 := OwnX.kept hown3 hh hsw
        have hK6 := hK3.grown hh (fun e => hgks (Option.some.inj e).symm)
        have hG6 := hG3.trans hh
        have hob := OwnX.low hown6
        have hsz := hG6.size
        have hne := OwnX.apy hown6 hK6 (by decide)
        have hownA := OwnX.alloc hown6 (.cells #[.string ky, .int .i64 b, .int .i64 c] 98)
        have hKA := hK6.alloc (.cells #[.string ky, .int .i64 b, .int .i64 c] 98)
        clear hown3 hG3 hSB3 hK3 hg hh hp
        go_wp2_with (at_builtin; refine wpList_plain rfl fun K' hK' => wp_append_x du_rowOk _ _ rfl w.heap.size u3 l rfl hownA w6.heap.size (ky, b, c) rfl (Bk.new w6 _ _) (by have := HLK.out; omega) (by simp; omega) ?_; intro v8 w8 hown8 hgrow; refine hK' _ _ ?_)
        go_roundw
        case rel => exact ⟨k + 1, l ++ [(ky, b, c)], (by have := HKN.out; omega), (by have := HLK.out; simp; omega), by go_num, hKA.grown hgrow hne, hown8, ((hSB6.alloc _).own hgrow (fun r e => Nat.lt_of_lt_of_le hsw (hob r e))).le (by omega), (hG6.alloc _).other hgrow (fun r e => .inl (hob r e))⟩
        case measure => have := HKN.out; simp [intOf]; omega
    · have hl5 : l.length ≤ 3 := by omega
      have hk3 : k = 3 := by omega
      subst hk3
      clear hlk hK
      rcases Nat.eq_zero_or_pos l.length with h0 | h0
      · obtain rfl : l = [] := List.eq_nil_of_length_eq_zero h0
        obtain ⟨aa, cc, hv, -, -⟩ := RdR.form (c := duC) (Rd.of_owns hown)
        have hv' : u3 = .slice aa 0 cc := hv
        clear hv h0
        subst hv'
        go_wp2_with fail
        go_ret
        exact ⟨_, [], rfl, hown, by simp, hSB.le (by omega), hG⟩
      · obtain ⟨g, cap, cur, e, -⟩ := own_form0 hown h0
        subst e
        have hgs := OwnX.low hown g rfl
        have h0i : ((0 : Int) < (l.length : Int)) := by omega
        clear h0
        go_wp2_with fail
        refine (flip_c _ _ _ _ hSB (by omega) (by omega)).mono ?_; rintro e w4 ⟨q, rfl, hSB4, hg⟩
        have hown4 := OwnX.kept hown hg hsw
        have hG4 := hG.trans hg
        clear hown hG hSB hg
        cases q with
        | false =>
          go_wp2_with fail
          go_ret
          exact ⟨_, l, rfl, hown4, hl5, hSB4.le (by omega), hG4⟩
        | true =>
          go_wp2_with fail
          refine (next_c _ _ _ _ hSB4 (by omega) (by omega)).mono ?_; rintro e w5 ⟨j, rfl, hj, hSB5, hg⟩
          obtain ⟨j0, j1⟩ := hj
          obtain ⟨j, rfl⟩ := Int.eq_ofNat_of_zero_le j0
          have jl : j < l.length := by omega
          have jli : (j : Int) < (l.length : Int) := by omega
          clear j1
          have hown7 := OwnX.kept hown4 hg hsw
          have hG7 := hG4.trans hg
          clear hown4 hG4 hg hSB4
          obtain ⟨⟨z1, z2, z3⟩, hpj⟩ : ∃ p, l[j]? = some p := ⟨_, List.getElem?_eq_getElem jl⟩
          have HPJ := Lib.hid hpj
          clear hpj
          have hgsg : s < g := Nat.lt_of_lt_of_le hsw hgs
          go_wp2_with fail
          refine (odd_c _ _ _ _ _ hSB5 (by omega) (by omega) (by omega) (by omega) (by omega)).mono ?_; rintro e w8 ⟨o1, rfl, -, -, hSB8, hg⟩
          have hown8 := OwnX.kept hown7 hg hsw
          have hG8 := hG7.trans hg
          clear hown7 hG7 hSB5 hg
          go_wp2_with fail
          refine (odd_c _ _ _ _ _ hSB8 (by omega) (by omega) (by omega) (by omega) (by omega)).mono ?_; rintro e w9 ⟨o2, rfl, -, -, hSB9, hg⟩
          have hown9 := OwnX.kept hown8 hg hsw
          have hG9 := hG8.trans hg
          clear hown8 hG8 hSB8 hg
          have d1 := RdR.cell duC_sz (Rd.of_owns hown9) (G.refl _ none) HPJ.out 1 (.int .i64 z2) rfl
          have d2 := RdR.cell duC_sz (Rd.of_owns hown9) (G.refl _ none) HPJ.out 2 (.int .i64 z3) rfl
          have f1 := ownsRow_free hown9 (j * 3 + 1)
          have f2 := ownsRow_free hown9 (j * 3 + 2)
          have q1 := OwnX.set duC_sz hown9 HPJ.out (q := (z1, o1, z3)) 1 (.int .i64 o1) (by omega) rfl
          have q2 := OwnX.set duC_sz q1 (show (l.set j (z1, o1, z3))[j]? = some (z1, o1, z3) by rw [List.getElem?_set_self jl]) (q := (z1, o1, o2)) 2 (.int .i64 o2) (by omega) rfl
          rw [List.set_set] at q2
          simp only [Nat.zero_add] at d1 d2 q2
          have HQ3 := Lib.hid q2
          clear q1 q2 hown9
          go_wp2_with fail
          go_ret
          exact ⟨_, l.set j (z1, o1, o2), rfl, by unfold OwnX; rw [List.length_set]; exact HQ3.out, by rw [List.length_set]; exact hl5, ((hSB9.setCell (p := ⟨g, j * 3 + 1, none⟩) hgsg _).setCell (p := ⟨g, j * 3 + 2, none⟩) hgsg _).le (by omega), (hG9.setCell (p := ⟨g, j * 3 + 1, none⟩) (.inl hgs) _).setCell (p := ⟨g, j * 3 + 2, none⟩) (.inl hgs) _⟩
end Go.Proofs.YtddedckehllkoaaDoor

/- rentlaw2's own errs, when. -/
namespace Go.Proofs.YtddedckehllkoaaDoor
open Go.RowKit

def Errs2Rel (es : List Int) (i : Value) : Prop := ∃ k : Nat, k ≤ es.length ∧ i = .int .i64 k ∧ errsOf es = errsOf (es.drop k)
set_option maxRecDepth 100000 in
set_option maxHeartbeats 1000000 in
theorem errs2_c (es : List Int) (v : Value) (w : World) (hr : Rd w 1 v es.length (es.map (Value.int .i64))) (hn : es.length ≤ 1000) :
    Calls Tryd.prog 59 #[v] w fun e w' => e = .returned (.int .i64 (errsOf es)) ∧ w = w' := by
  obtain ⟨a, cap, rfl, hcap, hm, hlen, hnil, hcell⟩ := hr
  go_enter Tryd.func59, Tryd.ntmps59
  go_wp2_with fail
  go_loop [7] (Errs2Rel es) (fun i => es.length - (intOf i).toNat)
  case atStart => exact ⟨0, by omega, rfl, rfl⟩
  case round =>
    obtain ⟨k, hk, rfl, heq⟩ := hrel
    have HE := Lib.hid heq
    clear heq
    by_cases hlt : k < es.length
    · obtain ⟨x, hx⟩ : ∃ x, es[k]? = some x := ⟨_, List.getElem?_eq_getElem hlt⟩
      have HD : Hid (errsOf es = if x = 0 then errsOf (es.drop (k + 1)) else x) := Lib.hid (by
        rw [HE.out, List.drop_eq_getElem_cons hlt, (List.getElem?_eq_some_iff.1 hx).2]; rfl)
      cases a with
      | none => have := (hnil rfl).1; omega
      | some ad =>
        obtain ⟨bb, bo, bs⟩ := ad
        obtain ⟨e1, e2, e3⟩ := hcell _ rfl
        dsimp only at e1 e2 e3
        subst e1
        have hc := e3 k (.int .i64 x) (by rw [List.getElem?_map, hx]; rfl)
        clear hcell e3 hnil hx
        by_cases h0 : x = 0
        · subst h0
          have HF : Hid (errsOf es = errsOf (es.drop (k + 1))) := Lib.hid (by rw [HD.out, if_pos rfl])
          go_wp2_with fail
          go_round
          case rel => exact ⟨k + 1, by omega, by go_num, HF.out⟩
          case measure => simp [intOf]; omega
        · have HF : Hid (errsOf es = x) := Lib.hid (by rw [HD.out, if_neg h0])
          have h1 : (x != 0) = true := by rw [bne_iff_ne]; exact h0
          clear h0
          go_wp2_with fail
          go_ret
          exact ⟨ret_int HF.out.symm, rfl⟩
    · obtain rfl : k = es.length := by omega
      have HF : Hid (errsOf es = 0) := Lib.hid (by rw [HE.out, List.drop_length]; rfl)
      go_wp2_with fail
      go_ret
      exact ⟨ret_int HF.out.symm, rfl⟩
theorem when2_c (b : Bool) (n : Int) (w : World) : Calls Tryd.prog 60 #[.bool b, .int .i64 n] w fun e w' => e = .returned (.int .i64 (if b = true then n else 0)) ∧ w = w' := by
  cases b
  all_goals
    go_enter Tryd.func60, Tryd.ntmps60
    go_wp2_with fail
    go_ret
    exact ⟨rfl, rfl⟩
end Go.Proofs.YtddedckehllkoaaDoor

/- The law ServicesDue. Written by gensdl.py. -/
namespace Go.Proofs.YtddedckehllkoaaDoor
open Go.RowKit

def SdA (W : World) (gF : Nat) (v1 v2 va : Value) (l : List Iv) (D : List Dn) (La : List Du) (fc : Array Value) (E : Int) (s12 : Value) (w' : World) : Prop :=
  s12 = .int .i64 E ∧ RdR w' 3 ivC v1 l ∧ RdR w' 4 dnC v2 D ∧ RdR w' 3 duC va La ∧ Bk w' gF 90 fc ∧ SB w' W.heap.size 900 ∧ G W w' (some W.heap.size)
def SdB (W : World) (s102 : Value) (w' : World) : Prop := s102 = .bool false ∧ SB w' W.heap.size 1000 ∧ G W w' (some W.heap.size)
set_option maxRecDepth 100000 in
set_option maxHeartbeats 8000000 in
theorem servicesDue_c (a0 : Option Addr) (n c0 : Nat) (zs : List Int) (W : World) (hr : Rd W 1 (.slice a0 n c0) n (zs.map (Value.int .i64))) (hz : ∀ z ∈ zs, -9223372036854775808 ≤ z ∧ z ≤ 9223372036854775807) :
    Calls Tryd.prog 7 #[.slice a0 n c0] W fun e W' => e = .returned (.bool true) ∧ G W W' none := by
  have hSB : SB (W.alloc (.cells #[.slice a0 n c0, .int .i64 0] 25)) W.heap.size 0 := by
    have hB := Bk.new W 25 #[.slice a0 n c0, .int .i64 0]
    refine ⟨0, a0, n, c0, zs, Nat.le_refl _, hr.quiet ((G.refl _ _).alloc _), fun b e => ?_, hz, hB.cell 0, hB.cell 1, hB.free 1, hB.lt⟩
    obtain ⟨a', c', e', r1, r2, r3, r4, r5⟩ := hr
    cases e'
    exact (r5 b e).2.1
  have hG : G W (W.alloc (.cells #[.slice a0 n c0, .int .i64 0] 25)) (some W.heap.size) := (G.refl _ _).alloc _
  clear hr hz
  go_enter Tryd.func7, Tryd.ntmps7
  go_upto_region 2 with fail
  generalize W.alloc (.cells #[.slice a0 n c0, .int .i64 0] 25) = w0 at hSB hG ⊢
  have hs0 : W.heap.size < w0.heap.size := hSB.lt
  go_wp2_with fail
  refine (intervalsG_c _ _ _ hSB (by omega)).mono ?_; rintro e w1 ⟨v1, l, rfl, hRl, hlow, hlo, hl3, hSB1, hh⟩
  replace hG := hG.trans hh
  have HLOW : Hid (∀ k, v1.ownBlock = some k → W.heap.size < k) := Lib.hid (fun k e => Nat.lt_of_lt_of_le hs0 (hlow k e))
  have HLO := Lib.hid hlo
  have HL3 := Lib.hid hl3
  have hs1 : W.heap.size < w1.heap.size := hSB1.lt
  clear hSB hh hlow hlo hl3
  go_wp2_with fail
  refine (servicesG_c _ _ _ hSB1 (by omega)).mono ?_; rintro e w2 ⟨v2, D, rfl, hown, hdo, hd5, hSB2, hh⟩
  replace hG := hG.trans hh
  replace hRl := Rd.grown hRl hh (fun k e hk => by cases e; have := HLOW.out _ hk; omega)
  have HDO := Lib.hid hdo
  have HD5 := Lib.hid hd5
  clear hSB1 hh hdo hd5
  go_wp2_with fail
  refine (some_c _ _ _ [⟨#[118, 49]⟩, ⟨#[118, 49]⟩, ⟨#[118, 50]⟩, ⟨#[]⟩] _ _ _ (hSB2.alloc _) (by omega) (by decide) (by decide) (Rd.newAt _ rfl rfl (by decide)) (hSB2.newAt _ _ _ (Nat.le_refl _))).mono ?_; rintro e w3 ⟨gv, rfl, hp, hSB3, hg⟩
  have HGV := Lib.hid (small_pick hp (by decide))
  have hh := ((G.refl w2 (some W.heap.size)).alloc (.cells _ 9)).trans hg
  replace hG := hG.trans hh
  replace hRl := Rd.grown hRl hh (fun k e hk => by cases e; have := HLOW.out _ hk; omega)
  replace hown := OwnX.kept hown hh hs1
  clear hSB2 hh hg hp
  go_wp2_with fail
  refine (pick_c _ _ _ [0, 10] _ _ _ (hSB3.alloc _) (by omega) (by decide) (by decide) (Rd.newAt _ rfl rfl (by decide)) (hSB3.newAt _ _ _ (Nat.le_refl _))).mono ?_; rintro e w4 ⟨dd, rfl, hp, hSB4, hg⟩
  have hh := ((G.refl w3 (some W.heap.size)).alloc (.cells _ 3)).trans hg
  replace hG := hG.trans hh
  replace hRl := Rd.grown hRl hh (fun k e hk => by cases e; have := HLOW.out _ hk; omega)
  replace hown := OwnX.kept hown hh hs1
  clear hSB3 hh hg hp
  go_wp2_with fail
  refine (pick_c _ _ _ [0, 20] _ _ _ (hSB4.alloc _) (by omega) (by decide) (by decide) (Rd.newAt _ rfl rfl (by decide)) (hSB4.newAt _ _ _ (Nat.le_refl _))).mono ?_; rintro e w5 ⟨mm, rfl, hp, hSB5, hg⟩
  have hh := ((G.refl w4 (some W.heap.size)).alloc (.cells _ 3)).trans hg
  replace hG := hG.trans hh
  replace hRl := Rd.grown hRl hh (fun k e hk => by cases e; have := HLOW.out _ hk; omega)
  replace hown := OwnX.kept hown hh hs1
  clear hSB4 hh hg hp
  go_wp2_with fail
  refine (pick_c _ _ _ [0, 900, 5900, 10000000, -1] _ _ _ (hSB5.alloc _) (by omega) (by decide) (by decide) (Rd.newAt _ rfl rfl (by decide)) (hSB5.newAt _ _ _ (Nat.le_refl _))).mono ?_; rintro e w6 ⟨mt, rfl, hp, hSB6, hg⟩
  have HMT : Hid (-1 ≤ mt ∧ mt ≤ 10000000) := Lib.hid (by simp only [List.mem_cons, List.mem_nil_iff, or_false] at hp; omega)
  have hh := ((G.refl w5 (some W.heap.size)).alloc (.cells _ 3)).trans hg
  replace hG := hG.trans hh
  replace hRl := Rd.grown hRl hh (fun k e hk => by cases e; have := HLOW.out _ hk; omega)
  replace hown := OwnX.kept hown hh hs1
  clear hSB5 hh hg hp
  have hRd : RdR w6 4 dnC v2 D := Rd.of_owns hown
  have hF := Bk.new w6 90 #[.string gv, .string ⟨#[110, 101, 119]⟩, .int .i64 dd, .int .i64 mm]
  replace hRl := hRl.quiet ((G.refl w6 none).alloc (.cells #[.string gv, .string ⟨#[110, 101, 119]⟩, .int .i64 dd, .int .i64 mm] 90))
  replace hRd := hRd.quiet ((G.refl w6 none).alloc (.cells #[.string gv, .string ⟨#[110, 101, 119]⟩, .int .i64 dd, .int .i64 mm] 90))
  replace hG := hG.alloc (.cells #[.string gv, .string ⟨#[110, 101, 119]⟩, .int .i64 dd, .int .i64 mm] 90)
  have hSB := hSB6.alloc (.cells #[.string gv, .string ⟨#[110, 101, 119]⟩, .int .i64 dd, .int .i64 mm] 90)
  clear hown hSB6 HLOW
  obtain ⟨al, cl, rfl, -, -⟩ := RdR.form hRl
  obtain ⟨ad, cd, rfl, -, -⟩ := RdR.form hRd
  have hfo : Small gv ∧ Small (⟨#[110, 101, 119]⟩ : ByteArray) := ⟨HGV.out, small_of (s := ⟨#[110, 101, 119]⟩) (by decide)⟩
  have CDU := Lib.hid (fun w' (p : RdR w' 3 ivC (.slice al l.length cl) l) (q : RdR w' 4 dnC (.slice ad D.length cd) D) => dues_c _ _ l D gv ⟨#[110, 101, 119]⟩ dd mm mt w' p q HLO.out HDO.out hfo HL3.out (by have := HD5.out; omega))
  have CI := Lib.hid (fun w' (p : RdR w' 3 ivC (.slice al l.length cl) l) => checkIntervals_c _ l w' p HLO.out (by have := HL3.out; omega))
  have CIF := Lib.hid (fun w' (p : RdR w' 3 ivC (.slice al l.length cl) l) => intervalsFault_c _ l w' p HLO.out (by have := HL3.out; omega))
  have CS := Lib.hid (fun w' (q : RdR w' 4 dnC (.slice ad D.length cd) D) => checkServices_c _ D w' q HDO.out (by have := HD5.out; omega))
  have CSF := Lib.hid (fun w' (q : RdR w' 4 dnC (.slice ad D.length cd) D) => servicesFault_c _ D w' q HDO.out (by have := HD5.out; omega))
  have CFF := Lib.hid (fun v w' (q : RdR w' 4 dnC v [(gv, ⟨#[110, 101, 119]⟩, dd, mm)]) => servicesFault_c v [(gv, ⟨#[110, 101, 119]⟩, dd, mm)] w' q (fun x hx => by obtain rfl := List.mem_singleton.1 hx; exact hfo) (by simp))
  have CDO := Lib.hid (fun (e1 : ivE l = 0) (e2 : dnE D = 0) (e3 : dnE [(gv, ⟨#[110, 101, 119]⟩, dd, mm)] = 0) (hm : 0 ≤ mt ∧ mt ≤ 10000000) w' (p : RdR w' 3 ivC (.slice al l.length cl) l) (q : RdR w' 4 dnC (.slice ad D.length cd) D) => duesOf_c _ _ l D gv ⟨#[110, 101, 119]⟩ dd mm mt w' p q (iv_ok e1) (dn_ok e2) (dn_ok e3 (gv, ⟨#[110, 101, 119]⟩, dd, mm) List.mem_cons_self) hm (by have := HL3.out; omega) (by have := HD5.out; omega))
  have HEQ := Lib.hid (dusE_eq l D (gv, ⟨#[110, 101, 119]⟩, dd, mm) mt)
  have HER : Hid (errsOf [ivE l, dnE D, dnE [(gv, ⟨#[110, 101, 119]⟩, dd, mm)], if inB mt 0 10000000 = false then 1 else 0] = dusE l D (gv, ⟨#[110, 101, 119]⟩, dd, mm) mt) := Lib.hid rfl
  have HQL : Hid ((duesL l D (gv, ⟨#[110, 101, 119]⟩, dd, mm) mt).length ≤ 1000000) := Lib.hid (by unfold duesL; rw [List.length_map]; have := HL3.out; omega)
  have CDU2 : Hid (∀ w', RdR w' 3 ivC (.slice al l.length cl) l → RdR w' 4 dnC (.slice ad D.length cd) D → Calls Tryd.prog 54 #[.slice al l.length cl, .slice ad D.length cd, .agg #[.string gv, .string ⟨#[110, 101, 119]⟩, .int .i64 dd, .int .i64 mm], .int .i64 mt] w' (fun e w'' => ∃ v', e = .returned (.tuple #[v', .int .i64 (dusE l D (gv, ⟨#[110, 101, 119]⟩, dd, mm) mt)]) ∧ RdR w'' 3 duC v' (if dusE l D (gv, ⟨#[110, 101, 119]⟩, dd, mm) mt = 0 then duesL l D (gv, ⟨#[110, 101, 119]⟩, dd, mm) mt else []) ∧ G w' w'' none)) := Lib.hid (fun w' p q => CDU.out w' p q)
  clear CDU hfo
  generalize dusE l D (gv, ⟨#[110, 101, 119]⟩, dd, mm) mt = E at CDU2 HEQ HER
  generalize duesL l D (gv, ⟨#[110, 101, 119]⟩, dd, mm) mt = Q at CDU2 CDO HQL
  generalize ivE l = E1 at CI CIF CDO HEQ HER
  generalize dnE D = E2 at CS CSF CDO HEQ HER
  generalize dnE [(gv, ⟨#[110, 101, 119]⟩, dd, mm)] = E3 at CFF CDO HEQ HER
  go_upto_region 4 with fail
  generalize w6.alloc (.cells #[.string gv, .string ⟨#[110, 101, 119]⟩, .int .i64 dd, .int .i64 mm] 90) = w7 at hF hRl hRd hG hSB ⊢
  generalize w6.heap.size = gF at hF ⊢
  have f0 : w7.cell? ⟨gF, 0, none⟩ = some (.string gv) := hF.cell 0
  have f1 : w7.cell? ⟨gF, 1, none⟩ = some (.string ⟨#[110, 101, 119]⟩) := hF.cell 1
  have f2 : w7.cell? ⟨gF, 2, none⟩ = some (.int .i64 dd) := hF.cell 2
  have f3 : w7.cell? ⟨gF, 3, none⟩ = some (.int .i64 mm) := hF.cell 3
  go_wp2_with fail
  refine (CDU2.out _ hRl hRd).mono ?_; rintro e w8 ⟨va, rfl, hA, hh⟩
  replace hF := hF.quiet hh
  replace hRl := hRl.quiet hh
  replace hRd := hRd.quiet hh
  replace hG := hG.trans0 hh
  replace hSB := hSB.quiet hh
  clear hh CDU2 f0 f1 f2 f3
  have hne1 : (E1 != E1) = false := by simp
  have hne2 : (E2 != E2) = false := by simp
  go_wp2_with fail
  refine (CIF.out _ hRl).mono ?_; rintro e w9 ⟨rfl, hh⟩
  replace hF := hF.quiet hh
  replace hRl := hRl.quiet hh
  replace hRd := hRd.quiet hh
  replace hA := Rd.quiet hA hh
  replace hG := hG.trans0 hh
  replace hSB := hSB.quiet hh
  clear hh
  go_wp2_with fail
  refine (CSF.out _ hRd).mono ?_; rintro e wa ⟨rfl, hh⟩
  replace hF := hF.quiet hh
  replace hRl := hRl.quiet hh
  replace hRd := hRd.quiet hh
  replace hA := Rd.quiet hA hh
  replace hG := hG.trans0 hh
  replace hSB := hSB.quiet hh
  clear hh
  go_wp2_with fail
  refine (CI.out _ hRl).mono ?_; rintro e wb ⟨rfl, hh⟩
  replace hF := hF.quiet hh
  replace hRl := hRl.quiet hh
  replace hRd := hRd.quiet hh
  replace hA := Rd.quiet hA hh
  replace hG := hG.trans0 hh
  replace hSB := hSB.quiet hh
  clear hh
  go_wp2_with fail
  refine (CS.out _ hRd).mono ?_; rintro e wc ⟨rfl, hh⟩
  replace hF := hF.quiet hh
  replace hRl := hRl.quiet hh
  replace hRd := hRd.quiet hh
  replace hA := Rd.quiet hA hh
  replace hG := hG.trans0 hh
  replace hSB := hSB.quiet hh
  clear hh
  clear hne1 hne2 CIF CSF CI CS
  go_upto_region 8 with fail
  go_cut [12] from 21 (fun s12 w' => SdA W gF (.slice al l.length cl) (.slice ad D.length cd) va l D (if E = 0 then Q else []) #[.string gv, .string ⟨#[110, 101, 119]⟩, .int .i64 dd, .int .i64 mm] E s12 w')
  case first =>
    have f0 : wc.cell? ⟨gF, 0, none⟩ = some (.string gv) := hF.cell 0
    have f1 : wc.cell? ⟨gF, 1, none⟩ = some (.string ⟨#[110, 101, 119]⟩) := hF.cell 1
    have f2 : wc.cell? ⟨gF, 2, none⟩ = some (.int .i64 dd) := hF.cell 2
    have f3 : wc.cell? ⟨gF, 3, none⟩ = some (.int .i64 mm) := hF.cell 3
    go_wp2_with fail
    have hR1 : RdR (wc.alloc (.cells #[.string gv, .string ⟨#[110, 101, 119]⟩, .int .i64 dd, .int .i64 mm] 90)) 4 dnC (.slice (some ⟨wc.heap.size, 0, none⟩) 1 1) [(gv, ⟨#[110, 101, 119]⟩, dd, mm)] := (Bk.new wc 90 #[.string gv, .string ⟨#[110, 101, 119]⟩, .int .i64 dd, .int .i64 mm]).rd 4 1 rfl (by omega)
    refine (CFF.out _ _ hR1).mono ?_; rintro e wd ⟨rfl, hh0⟩
    have hh := ((G.refl wc none).alloc (.cells #[.string gv, .string ⟨#[110, 101, 119]⟩, .int .i64 dd, .int .i64 mm] 90)).trans hh0
    replace hF := hF.quiet hh
    replace hRl := hRl.quiet hh
    replace hRd := hRd.quiet hh
    replace hA := Rd.quiet hA hh
    replace hG := hG.trans0 hh
    replace hSB := hSB.quiet hh
    clear hh
    clear hh0 hR1 f0 f1 f2 f3
    by_cases hmt : mt < 0
    · have HE4 : Hid (errsOf [E1, E2, E3, 1] = E) := Lib.hid (by have h := HER.out; rwa [if_pos (show inB mt 0 10000000 = false by unfold inB; simp; omega)] at h)
      go_wp2_with fail
      refine (when2_c true 1 _).mono ?_; rintro e w' ⟨rfl, rfl⟩
      rw [if_pos rfl]
      go_wp2_with fail
      refine (errs2_c [E1, E2, E3, 1] _ _ (Rd.new #[.int .i64 E1, .int .i64 E2, .int .i64 E3, .int .i64 1] rfl (by show 4 ≤ maxLen; decide)) (by simp)).mono ?_; rintro e w' ⟨rfl, rfl⟩
      rw [HE4.out]
      have hh := (G.refl wd none).alloc (.cells #[.int .i64 E1, .int .i64 E2, .int .i64 E3, .int .i64 1] 36)
      replace hF := hF.quiet hh
      replace hRl := hRl.quiet hh
      replace hRd := hRd.quiet hh
      replace hA := Rd.quiet hA hh
      replace hG := hG.trans0 hh
      replace hSB := hSB.quiet hh
      clear hh
      go_wp2_with fail
      go_meet
      case rel => exact ⟨rfl, hRl, hRd, hA, hF, hSB.le (by omega), hG⟩
    · have hmt2 : ¬ (10000000 : Int) < mt := by have := HMT.out; omega
      have HE4 : Hid (errsOf [E1, E2, E3, 0] = E) := Lib.hid (by have h := HER.out; rwa [if_neg (show ¬ inB mt 0 10000000 = false by unfold inB; simp; omega)] at h)
      go_wp2_with fail
      rw [show (decide (mt < 0) || decide ((10000000 : Int) < mt)) = false by rw [decide_eq_false (show ¬ mt < 0 by omega), decide_eq_false (show ¬ (10000000 : Int) < mt by omega)]; rfl]
      refine (when2_c false 1 _).mono ?_; rintro e w' ⟨rfl, rfl⟩
      rw [if_neg (by simp)]
      go_wp2_with fail
      refine (errs2_c [E1, E2, E3, 0] _ _ (Rd.new #[.int .i64 E1, .int .i64 E2, .int .i64 E3, .int .i64 0] rfl (by show 4 ≤ maxLen; decide)) (by simp)).mono ?_; rintro e w' ⟨rfl, rfl⟩
      rw [HE4.out]
      have hh := (G.refl wd none).alloc (.cells #[.int .i64 E1, .int .i64 E2, .int .i64 E3, .int .i64 0] 36)
      replace hF := hF.quiet hh
      replace hRl := hRl.quiet hh
      replace hRd := hRd.quiet hh
      replace hA := Rd.quiet hA hh
      replace hG := hG.trans0 hh
      replace hSB := hSB.quiet hh
      clear hh
      go_wp2_with fail
      go_meet
      case rel => exact ⟨rfl, hRl, hRd, hA, hF, hSB.le (by omega), hG⟩
  case rest =>
  clear hRl hRd hA hF hSB hG HER CFF
  obtain ⟨rfl, hRl, hRd, hA, hF, hSB, hG⟩ := hcut
  have hee : (E != E) = false := by simp
  go_upto_region 9 with fail
  go_cut [102] from 21 (fun s102 w' => SdB W s102 w')
  case first =>
    by_cases hE : E = 0
    · subst hE
      rw [if_pos rfl] at hA
      obtain ⟨aa, ca, rfl, -, -⟩ := RdR.form hA
      have h1 : E1 = 0 := by
        have h := HEQ.out
        by_cases e1 : E1 = 0
        · exact e1
        · rw [if_neg e1] at h; exact absurd h.symm e1
      have h2 : E2 = 0 := by
        have h := HEQ.out
        rw [if_pos h1] at h
        by_cases e1 : E2 = 0
        · exact e1
        · rw [if_neg e1] at h; exact absurd h.symm e1
      have h3 : E3 = 0 := by
        have h := HEQ.out
        rw [if_pos h1, if_pos h2] at h
        by_cases e1 : E3 = 0
        · exact e1
        · rw [if_neg e1] at h; exact absurd h.symm e1
      have h4 : 0 ≤ mt ∧ mt ≤ 10000000 := by
        have h := HEQ.out
        rw [if_pos h1, if_pos h2, if_pos h3] at h
        by_cases e1 : inB mt 0 10000000 = false
        · rw [if_pos e1] at h; omega
        · simpa [inB] using e1
      have CDO2 := Lib.hid (CDO.out h1 h2 h3 h4)
      clear h1 h2 h3 h4 HEQ CDO
      have f0 : wc.cell? ⟨gF, 0, none⟩ = some (.string gv) := hF.cell 0
      have f1 : wc.cell? ⟨gF, 1, none⟩ = some (.string ⟨#[110, 101, 119]⟩) := hF.cell 1
      have f2 : wc.cell? ⟨gF, 2, none⟩ = some (.int .i64 dd) := hF.cell 2
      have f3 : wc.cell? ⟨gF, 3, none⟩ = some (.int .i64 mm) := hF.cell 3
      go_wp2_with fail
      refine (CDO2.out _ hRl hRd).mono ?_; rintro e we ⟨vb, rfl, hBv, hh⟩
      replace hA := Rd.quiet hA hh
      replace hG := hG.trans0 hh
      replace hSB := hSB.quiet hh
      clear hh f0 f1 f2 f3 hRl hRd hF
      go_wp2_with fail
      refine (duEqual_c _ _ Q Q _ hA hBv HQL.out).mono ?_; rintro e wf ⟨rfl, hh⟩
      rw [show decide (Q = Q) = true by simp]
      replace hG := hG.trans0 hh
      replace hSB := hSB.quiet hh
      clear hh
      go_wp2_with fail
      go_meet
      case rel => exact ⟨rfl, hSB.le (by omega), hG⟩
    · rw [if_neg hE] at hA
      obtain ⟨aa, ca, hv, -, -⟩ := RdR.form hA
      have hv' : va = .slice aa 0 ca := hv
      clear hv
      subst hv'
      have he1 : (E != 0) = true := bne_iff_ne.2 hE
      have he2 : (E == 0) = false := beq_eq_false_iff_ne.2 hE
      clear hE
      go_wp2_with fail
      go_meet
      case rel => exact ⟨rfl, hSB.le (by omega), hG⟩
  case rest =>
  clear hRl hRd hA hF hSB hG CDO HEQ HQL
  obtain ⟨rfl, hSB, hG⟩ := hcut
  go_wp2_with fail
  refine (duesG_c _ _ _ hSB (by omega)).mono ?_; rintro e wg ⟨v3, L, rfl, hown, hL3, hSB7, hh⟩
  replace hG := hG.trans hh
  have hs9 := hSB.lt
  clear hSB hh
  go_wp2_with fail
  refine (pick_c _ _ _ [0, 60, 4000, -1] _ _ _ (hSB7.alloc _) (by omega) (by decide) (by decide) (Rd.newAt _ rfl rfl (by decide)) (hSB7.newAt _ _ _ (Nat.le_refl _))).mono ?_; rintro e wh ⟨t, rfl, hp, hSB8, hg⟩
  have hh := ((G.refl wg (some W.heap.size)).alloc (.cells _ 3)).trans hg
  replace hG := hG.trans hh
  replace hown := OwnX.kept hown hh hs9
  clear hSB7 hh hg hp
  go_wp2_with fail
  refine (pick_c _ _ _ [0, 1, 30, 10000, 10001] _ _ _ (hSB8.alloc _) (by omega) (by decide) (by decide) (Rd.newAt _ rfl rfl (by decide)) (hSB8.newAt _ _ _ (Nat.le_refl _))).mono ?_; rintro e wi ⟨y, rfl, hp, hSB9, hg⟩
  have hh := ((G.refl wh (some W.heap.size)).alloc (.cells _ 3)).trans hg
  replace hG := (hG.trans hh).own (Nat.le_refl _)
  replace hown := OwnX.kept hown hh hs9
  have hR := Rd.of_owns hown
  clear hSB8 hh hg hp hown hSB9
  have HL := Lib.hid hL3
  obtain ⟨ab, cb, rfl, -, -⟩ := RdR.form (c := duC) hR
  have CB := Lib.hid (fun w' (q : RdR w' 3 duC (.slice ab L.length cb) L) => by_c _ L t y w' q (by omega))
  have CBF := Lib.hid (fun w' (q : RdR w' 3 duC (.slice ab L.length cb) L) => byFault_c _ L t y w' q (by omega))
  have CBO := Lib.hid (fun (e : byE L t y = 0) w' (q : RdR w' 3 duC (.slice ab L.length cb) L) => byOf_c _ L t y w' q e (by omega))
  obtain ⟨A1, hA1⟩ : ∃ A, (if byE L t y = 0 then (byR L t y).1 else (⟨#[]⟩ : ByteArray)) = A := ⟨_, rfl⟩
  obtain ⟨A2, hA2⟩ : ∃ A, (if byE L t y = 0 then (byR L t y).2 else 0) = A := ⟨_, rfl⟩
  rw [hA1, hA2] at CB
  obtain ⟨B1, hB1⟩ : ∃ A, (byR L t y).1 = A := ⟨_, rfl⟩
  obtain ⟨B2, hB2⟩ : ∃ A, (byR L t y).2 = A := ⟨_, rfl⟩
  rw [hB1] at hA1 CBO
  rw [hB2] at hA2 CBO
  have HX1 : Hid (byE L t y = 0 → A1 = B1 ∧ A2 = B2) := Lib.hid (fun e => by rw [if_pos e] at hA1 hA2; exact ⟨hA1.symm, hA2.symm⟩)
  have HX0 : Hid (byE L t y ≠ 0 → A1 = ⟨#[]⟩ ∧ A2 = 0) := Lib.hid (fun e => by rw [if_neg e] at hA1 hA2; exact ⟨hA1.symm, hA2.symm⟩)
  clear hA1 hA2 hB1 hB2 hL3
  generalize byE L t y = F at CB CBF CBO HX1 HX0
  go_wp2_with fail
  refine (CB.out _ hR).mono ?_; rintro e wj ⟨rfl, hh⟩
  replace hR := Rd.quiet hR hh
  replace hG := hG.trans hh
  clear hh CB
  go_wp2_with fail
  refine (CBF.out _ hR).mono ?_; rintro e wk ⟨rfl, hh⟩
  replace hR := Rd.quiet hR hh
  replace hG := hG.trans hh
  clear hh CBF
  have hff : (F == F) = true := by simp
  by_cases hF0 : F = 0
  · subst hF0
    obtain ⟨rfl, rfl⟩ := HX1.out rfl
    have CBO2 := Lib.hid (CBO.out rfl)
    have hss : (A1.toList == A1.toList) = true := by simp
    clear HX1 HX0 CBO
    go_wp2_with fail
    refine (CBO2.out _ hR).mono ?_; rintro e wl ⟨rfl, hh⟩
    replace hG := hG.trans hh
    clear hh
    go_wp2_with fail
    refine (shifted_c _).mono ?_; rintro e wm ⟨rfl, hh⟩
    replace hG := hG.trans hh
    go_wp2_with fail
    go_ret
    exact ⟨rfl, hG⟩
  · obtain ⟨rfl, rfl⟩ := HX0.out hF0
    have hf0 : (F != 0) = true := bne_iff_ne.2 hF0
    clear HX1 HX0 CBO hF0
    go_wp2_with fail
    refine (shifted_c _).mono ?_; rintro e wm ⟨rfl, hh⟩
    replace hG := hG.trans hh
    go_wp2_with fail
    go_ret
    exact ⟨rfl, hG⟩
end Go.Proofs.YtddedckehllkoaaDoor

/- What the row's list of variables gives; a start that meets it. -/
namespace Go.Proofs.YtddedckehllkoaaDoor
open Go.ChangeShapes Go.WideShapes Go.ChangeAt Go.RowKit

theorem own : ownKnob Tryd.prog.godebug = none := by kernel_rfl
theorem c1 : Tryd.prog.cellsOf 3 = 1 := by kernel_rfl
def laidL : List (String × DataW Unit) := [("unicode/utf8.acceptRanges", Rows.laid_unicode_utf8_acceptRanges), ("unicode/utf8.first", Rows.laid_unicode_utf8_first)]
/-- A start that meets the list: what the door's run leaves, Go's own table laid by hand. -/
noncomputable def laidWorld (os : Os) : World :=
  { World.doorLaid Tryd.prog 200 os with heap := (World.doorLaid Tryd.prog 200 os).heap.modify 1 fun
      | .cells _ t fr => .cells (Lib.firstTab.map (Value.int .u8)).toArray t fr
      | o => o }
set_option maxRecDepth 100000 in
theorem laid_met (os : Os) : laidMetH Tryd.prog laidL ((laidWorld os).forCall (fun _ _ => 0) ⟨#[], #[.slice none 0 0], []⟩).memory :=
  laidMetH_of_parts3 (fuel := 8) (laidMet_of_run' 8 (by kernel_rfl) (by kernel_rfl)) (by kernel_rfl) (by kernel_rfl)

/-! ### The row's last step -/
section
variable {H : Type} {enc : TypeId × Value → H} {P : Program}
theorem post_quiet {f : Func} {s : ChangeSpec} {apart fresh handsOn again : Bool} {W W' : World} {args : Array Value} {v : Value} {ds gs : List (DataW H)} {before pa pv : List MemPlace}
    (hW : DataW.Whole enc P f.params.toList s.vars apart W args.toList ds gs before) (hg : G W W' none)
    (hres : ∀ (b : Nat) (sp : Nat → Bool) (hd : Bool), DataW.TrodAll enc P W' b sp hd f.resultTypes.toList (v.resultList f.resultTypes.size) (s.fn H (ds ++ gs)).results [])
    (hargs : ∀ sp : Nat → Bool, (∀ p ∈ before, sp p.block = true) → DataW.TrodAll enc P W' 0 sp true f.params.toList args.toList (s.fn H (ds ++ gs)).args pa)
    (hvars : ∀ sp : Nat → Bool, (∀ p ∈ before, sp p.block = true) → DataW.TrodVars enc P W' sp s.vars (s.fn H (ds ++ gs)).vars pv)
    (hps : before = pa ++ pv)
    (hok : ∀ (j : Nat) (t : TypeId) (r : Value), f.resultTypes[j]? = some t → (v.resultList f.resultTypes.size)[j]? = some r → Value.okWide P W' .any 0 t r) :
    s.post enc P f apart fresh handsOn again W args v W' := by
  have hb := hg.below
  have lt : ∀ p ∈ before, p.block < W.heap.size := fun p hp => hW.lt p hp
  have old : ∀ p ∈ before, (fun b => decide (b < W.heap.size)) p.block = true := fun p hp => decide_eq_true (lt p hp)
  have sub : ∀ p, p ∈ ([] ++ pa) ++ pv → p ∈ before := fun p hp => by rw [hps]; simpa using hp
  refine ⟨ds, gs, before, [], pa, pv, hW, hres _ _ _, hargs _ old, hvars _ old, World.keptBut_mono (fun p hp => ⟨hp, .inr (by rw [← List.mem_append, ← hps]; exact hp)⟩) (hb.frame (· ∈ before)), fun _ => ⟨hok, ?_⟩⟩
  obtain ⟨_, _, _, _, _, hz, hn⟩ := hW
  refine ⟨_, _, ([] ++ pa) ++ pv, ⟨[] ++ pa, pv, trodAll_append (hargs _ fun _ _ => rfl) (hres _ _ _), hvars _ fun _ _ => rfl, rfl, fun b off hp => ?_, fun ha => ?_⟩, fun p hp _ => sub p hp⟩
  · rw [hb.frozen (lt _ (sub _ hp))]
    exact hz b off (sub _ hp)
  · have h := hn ha
    rw [hps] at h
    simpa using h
end
theorem laidOut : laidOutB Tryd.prog = true := by kernel_rfl
theorem wf64 {n : Int} (h : (Lit.int .i64 n).wf = true) : -9223372036854775808 ≤ n ∧ n ≤ 9223372036854775807 := by
  have h1 : IntKind.i64.min = -9223372036854775808 := rfl
  have h2 : IntKind.i64.max = 9223372036854775807 := rfl
  simp only [Lit.wf, Bool.and_eq_true, decide_eq_true_eq] at h
  omega
set_option maxRecDepth 100000 in
theorem has_of_ok {W : World} {base : Nat} {a : Addr} {n c : Nat} (hok : Value.okWide Tryd.prog W .any base 22 (.slice (some a) n c)) : a.spot = none ∧ a.block < W.heap.size := by
  simp only [Value.okWide, Tryd.underlying22, Cell.okWide, Cell.ok] at hok
  obtain ⟨_, _, _, h2, row, cells, h3, _⟩ := hok
  refine ⟨h2, ?_⟩
  unfold World.shape? at h3
  cases hh : W.heap[a.block]? with
  | none => simp [hh] at h3
  | some o => exact (Array.getElem?_eq_some_iff.1 hh).1
set_option maxRecDepth 100000 in
/-- The list of numbers that came in, as the walk wants it. -/
theorem rd_of_trod {H : Type} {enc : TypeId × Value → H} {W : World} {base : Nat} {v : Value} {d : DataW H} {p : List MemPlace} (hok : Value.okWide Tryd.prog W .any base 22 v) (h : DataW.Trod enc Tryd.prog W 0 (fun _ => true) true 22 v d p) :
    ∃ (a : Option Addr) (n c : Nat) (zs : List Int), v = .slice a n c ∧ Rd W 1 (.slice a n c) n (zs.map (Value.int .i64)) ∧ ∀ z ∈ zs, -9223372036854775808 ≤ z ∧ z ≤ 9223372036854775807 := by
  obtain ⟨a0, len, cap, rfl⟩ := okWide_slice Tryd.underlying22 hok
  obtain ⟨fuel, hf⟩ := h
  rcases open_ints Tryd.underlying22 Tryd.underlying3 c1 hf with ⟨hcs, _⟩ | ⟨a, len', cap', zs, hcs, _, hl, hm, hz, _, hcell, hw⟩
  · have hcs' : [Value.slice a0 len cap] = [Value.slice none 0 0] := hcs
    injection hcs' with e _
    injection e with e1 e2 e3
    subst e1; subst e2; subst e3
    exact ⟨none, 0, 0, [], rfl, ⟨none, 0, rfl, Nat.le_refl _, Nat.zero_le _, rfl, fun _ => ⟨rfl, rfl⟩, fun b hb => by cases hb⟩, fun z hz => by cases hz⟩
  · have hcs' : [Value.slice a0 len cap] = [Value.slice (some a) len' cap'] := hcs
    injection hcs' with e _
    injection e with e1 e2 e3
    subst e1; subst e2; subst e3
    simp only [if_true] at hz
    obtain ⟨s1, s2⟩ := has_of_ok hok
    refine ⟨some a, len, cap, zs.take len, rfl, ⟨some a, cap, rfl, hl, hm, by simp; omega, (fun e => by cases e), fun b hb => ?_⟩, fun z hz' => wf64 (hw z (List.mem_of_mem_take hz'))⟩
    obtain rfl := Option.some.inj hb
    refine ⟨s1, s2, fun j u hj => ?_⟩
    rw [List.getElem?_map] at hj
    obtain ⟨z, hz1, rfl⟩ := Option.map_eq_some_iff.1 hj
    have hjl := (List.getElem?_eq_some_iff.1 hz1).1
    simp at hjl
    have hc := hcell j (by omega)
    have hz2 : zs[j]? = some z := by rw [← hz1, List.getElem?_take, if_pos (by omega)]
    rw [List.getD, hz2] at hc
    have ha : a.add j = ⟨a.block, a.off + j, none⟩ := by
      obtain ⟨ab, ao, asp⟩ := a
      dsimp only at s1
      subst s1
      exact add_at ab ao j
    rw [ha] at hc
    exact hc
end Go.Proofs.YtddedckehllkoaaDoor
