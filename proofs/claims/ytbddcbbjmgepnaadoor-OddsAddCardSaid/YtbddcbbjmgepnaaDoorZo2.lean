/- Nof, Errs, Map, Cls, Ups, Chk, Ord, Tmb, Bkf, Ext, Fee, Tir, Pck, Can, Low, Bkd, Odc, Ode. -/
import Derived.Test.YtbddcbbjmgepnaaDoorZo1
import Derived.Maps.OwnSet
import Derived.Maps.OwnOps
import Derived.StringKeys
import Derived.Test.YtbddcbbjmgepnaaDoorShelf
import Derived.Deep.RegionHeld3
import Derived.IntWalk
import Derived.Laws.ResultCell
import Derived.StillTailTactics
import Derived.Laws.StructEq
/- The walks of NextOpenOf, OpenIn, OpenMinutes. -/
namespace Go.Proofs.YtbddcbbjmgepnaaDoor
open Go.RowKit

/-- What the reference's NextOpenOf returns. -/
def nofV (o : Option Int) : Value := match o with | some n => .tuple #[.int .i64 n, .bool true] | none => .tuple #[.int .i64 0, .bool false]
def NofRel (w : World) (r : ByteArray) (h : Nat → Int) (t d0 : Nat) (o : Option Int) (i : Value) (wr : World) : Prop :=
  ∃ k : Nat, k ≤ 8 ∧ i = .int .i64 ((d0 : Int) + (k : Int)) ∧ o = find (cR h t) (dFrom h) (8 - k) (d0 + k) ∧ G w wr none ∧ Bk wr w.heap.size 30 (stC r h)
set_option maxRecDepth 100000 in
set_option maxHeartbeats 2000000 in
theorem nextOpenOf_c (r : ByteArray) (h : Nat → Int) (t : Nat) (w : World) (hb : HB h) (hh : okHrs h = true) (ht : t < 5761440) :
    Calls Tryd.prog 15 #[.agg (stC r h), .int .i64 (t : Int)] w fun e w' => e = .returned (nofV (nextO h t)) ∧ G w w' none := by
  rw [nextO_ref h t hh ht]
  have HO := Lib.hid (fun w => openAt_c r h t w hb ht)
  obtain ⟨d0, hd0⟩ : ∃ d0 : Nat, t / 1440 = d0 := ⟨_, rfl⟩
  have hdq : (t : Int) / 1440 = (d0 : Int) := by omega
  have hd4 : d0 ≤ 4000 := by omega
  obtain ⟨o, ho⟩ : ∃ o, refO h t = o := ⟨_, rfl⟩
  have HR : Hid (o = if opB h t = true then some (t : Int) else find (cR h t) (dFrom h) 8 d0) := Lib.hid (by rw [← hd0, ← ho]; rfl)
  rw [ho]
  clear ho
  clear ht hd0 hh
  go_enter Tryd.func15, Tryd.ntmps15
  go_wp2_with (refine wpList_load_row rfl 30 _ rfl w.heap.size rfl 30 (stC r h) (0, 0) _ (Bk.new w _ _) Tryd.underlying30 rfl (st_info _ _) ?_)
  refine (HO.out _).mono ?_; rintro e w1 ⟨rfl, hG1⟩
  have hB1 := (Bk.new w 30 (stC r h)).quiet hG1
  have hG : G w w1 none := ((G.refl w none).alloc _).trans hG1
  clear hG1 HO
  cases hop : opB h t with
  | true =>
    have HN : Hid (nofV o = .tuple #[.int .i64 (t : Int), .bool true]) := Lib.hid (by rw [HR.out, if_pos hop]; rfl)
    clear hop
    go_wp2_with fail
    go_ret2
    exact ⟨by rw [HN.out]; rfl, hG⟩
  | false =>
    have HN : Hid (o = find (cR h t) (dFrom h) 8 d0) := Lib.hid (by rw [HR.out, if_neg (by simp [hop])])
    clear hop HR
    go_wp2_with fail
    go_loopw [6] (NofRel w r h t d0 o) (fun i _ => (4010 - (intOf i)).toNat)
    case atStart => exact ⟨0, by omega, congrArg (Value.int .i64) (by omega), HN.out, hG, hB1⟩
    case round =>
      obtain ⟨k, hk, rfl, heq, hG2, hB2⟩ := hrel
      have HE := Lib.hid heq
      clear heq hG hB1 HN
      by_cases hlt : k < 8
      · have HF : Hid (o = if cR h t (d0 + k) = true then some (dFrom h (d0 + k)) else find (cR h t) (dFrom h) (8 - (k + 1)) (d0 + (k + 1))) := Lib.hid (by rw [HE.out, show 8 - k = (8 - (k + 1)) + 1 by omega]; rfl)
        have HC : Hid (cR h t (d0 + k) = (decide ((t : Int) < dFrom h (d0 + k)) && decide (dFrom h (d0 + k) < 5761440) && decide (h ((d0 + k) % 7 * 2) < h ((d0 + k) % 7 * 2 + 1)))) := Lib.hid rfl
        have HV : Hid (dFrom h (d0 + k) = ((d0 : Int) + (k : Int)) * 1440 + h ((d0 + k) % 7 * 2)) := Lib.hid (by unfold dFrom; omega)
        obtain ⟨b11, b12⟩ := hb ((d0 + k) % 7 * 2)
        have hm7 : (d0 + k) % 7 < 7 := Nat.mod_lt _ (by omega)
        have HP := Lib.hid (stC_pair r h hB2 ((d0 + k) % 7) hm7)
        have hmq : ((d0 : Int) + (k : Int)) % 7 = (((d0 + k) % 7 : Nat) : Int) := by omega
        obtain ⟨m, hm⟩ : ∃ m, (d0 + k) % 7 = m := ⟨_, rfl⟩
        rw [hm] at HC HV b11 b12 hm7 HP hmq
        clear hm
        go_wp2_with (refine wpList_load_at rfl 27 _ rfl ⟨w.heap.size, 1 + m * 2, none⟩ rfl #[.int .i64 (h (m * 2)), .int .i64 (h (m * 2 + 1))] _ HP.out Tryd.underlying27 rfl (wn_info _ _) ?_)
        focus
          have hc : cR h t (d0 + k) = true := by rw [HC.out, HV.out]; simp only [Bool.and_eq_true, decide_eq_true_eq]; omega
          have HN2 : Hid (nofV o = .tuple #[.int .i64 (((d0 : Int) + (k : Int)) * 1440 + h (m * 2)), .bool true]) := Lib.hid (by rw [HF.out, if_pos hc, HV.out]; rfl)
          go_ret2
          exact ⟨by rw [HN2.out]; rfl, hG2.alloc _⟩
        all_goals
          have hc : cR h t (d0 + k) = false := by rw [HC.out, HV.out]; simp only [Bool.and_eq_false_iff, decide_eq_false_iff_not]; omega
          refine ⟨⟨k + 1, by omega, congrArg (Value.int .i64) (by omega), by rw [HF.out, if_neg (by simp [hc])], hG2.alloc _, hB2.alloc _⟩, ?_⟩
          simp only [intOf]
          omega
      · obtain rfl : k = 8 := by omega
        have HN2 : Hid (nofV o = .tuple #[.int .i64 0, .bool false]) := Lib.hid (by rw [HE.out]; rfl)
        go_wp2_with fail
        go_ret2
        exact ⟨by rw [HN2.out]; rfl, hG2⟩

/-! ### The minutes of a window -/
/-- How many moments it is open in the first so many days of a window. -/
def accD (h : Nat → Int) (a b : Int) (d0 : Nat) : Nat → Int
  | 0 => 0
  | k + 1 => accD h a b d0 k + ovl (dFrom h (d0 + k)) (dTo h (d0 + k)) a b
def nD (a b : Nat) : Nat := (b + 1439) / 1440 - a / 1440
def openIn (h : Nat → Int) (a b : Nat) : Int := accD h a b (a / 1440) (nD a b)
theorem accD_bd (h : Nat → Int) (a b : Nat) (d0 k : Nat) (hab : a ≤ b) : 0 ≤ accD h a b d0 k ∧ accD h a b d0 k ≤ (k : Int) * ((b : Int) - (a : Int)) := by
  induction k with
  | zero => simp [accD]
  | succ k ih =>
    have h1 : 0 ≤ ovl (dFrom h (d0 + k)) (dTo h (d0 + k)) a b ∧ ovl (dFrom h (d0 + k)) (dTo h (d0 + k)) a b ≤ (b : Int) - (a : Int) := by unfold ovl; omega
    unfold accD
    have h2 : ((k + 1 : Nat) : Int) * ((b : Int) - (a : Int)) = (k : Int) * ((b : Int) - (a : Int)) + ((b : Int) - (a : Int)) := by
      rw [Int.natCast_add, Int.add_mul]; simp
    omega
theorem accD_le (h : Nat → Int) (a b : Nat) (d0 k : Nat) (hab : a ≤ b) (hb : b ≤ 5761440) (hk : k ≤ 4010) : 0 ≤ accD h a b d0 k ∧ accD h a b d0 k ≤ 100000000000 := by
  have h1 := accD_bd h a b d0 k hab
  have h2 : (k : Int) * ((b : Int) - (a : Int)) ≤ 4010 * 5761440 := by
    have h3 : (k : Int) * ((b : Int) - (a : Int)) ≤ 4010 * ((b : Int) - (a : Int)) := Int.mul_le_mul_of_nonneg_right (by omega) (by omega)
    omega
  omega
theorem nD_lt {a b : Nat} (k : Nat) : k < nD a b ↔ (a / 1440 + k) * 1440 < b := by unfold nD; omega
theorem nD_le {a b : Nat} (hb : b ≤ 5761440) : nD a b ≤ 4001 := by unfold nD; omega
def MinRel (w : World) (r : ByteArray) (h : Nat → Int) (a b d0 : Nat) (v i : Value) (wr : World) : Prop :=
  ∃ k : Nat, k ≤ nD a b ∧ i = .int .i64 ((d0 : Int) + (k : Int)) ∧ v = .int .i64 (accD h a b d0 k) ∧ G w wr none ∧ Bk wr w.heap.size 30 (stC r h) ∧ Bk wr (w.heap.size + 1) 27 #[.int .i64 (a : Int), .int .i64 (b : Int)]
set_option maxRecDepth 100000 in
set_option maxHeartbeats 2000000 in
theorem openIn_c (r : ByteArray) (h : Nat → Int) (a b : Nat) (w : World) (hb : HB h) (hab : a ≤ b) (hbe : b ≤ 5761440) :
    Calls Tryd.prog 20 #[.agg (stC r h), .agg #[.int .i64 (a : Int), .int .i64 (b : Int)]] w fun e w' => e = .returned (.int .i64 (openIn h a b)) ∧ G w w' none := by
  have HLT := Lib.hid (fun k => nD_lt (a := a) (b := b) k)
  have HAC := Lib.hid (fun d0 k hk => accD_le h a b d0 k hab hbe hk)
  have HN4 := Lib.hid (nD_le (a := a) hbe)
  obtain ⟨d0, hd0⟩ : ∃ d0 : Nat, a / 1440 = d0 := ⟨_, rfl⟩
  have HD := Lib.hid hd0
  have hdq : (a : Int) / 1440 = (d0 : Int) := by omega
  have hd4 : d0 ≤ 4001 := by omega
  have ha9 : (a : Int) ≤ 10000000 := by omega
  have hb9 : (b : Int) ≤ 10000000 := by omega
  clear hbe hd0
  go_enter Tryd.func20, Tryd.ntmps20
  go_wp2_with fail
  go_loopw [5, 6] (MinRel w r h a b d0) (fun _ i _ => (20000 - (intOf i)).toNat)
  case atStart => exact ⟨0, by omega, congrArg (Value.int .i64) (by omega), rfl, ((G.refl w none).alloc _).alloc _, (Bk.new w _ _).alloc _, Bk.newAt (by simp) _ _⟩
  case round =>
    obtain ⟨k, hk, rfl, rfl, hG2, hB2, hW2⟩ := hrel
    have hlt := HLT.out k
    have hac := HAC.out d0 k (by have := HN4.out; omega)
    rw [HD.out] at hlt
    have hc0 : wr.cell? ⟨w.heap.size + 1, 0, none⟩ = some (.int .i64 (a : Int)) := hW2.cell 0
    have hc1 : wr.cell? ⟨w.heap.size + 1, 1, none⟩ = some (.int .i64 (b : Int)) := hW2.cell 1
    have hwl := hW2.lt
    obtain ⟨ac0, ac1⟩ := hac
    by_cases hl : k < nD a b
    · have hlt2 : ((d0 : Int) + (k : Int)) * 1440 < (b : Int) := by have := hlt.1 hl; omega
      have HK : Hid (k + 1 ≤ nD a b) := Lib.hid (by omega)
      have HA : Hid (accD h a b d0 (k + 1) = accD h a b d0 k + ovl (dFrom h (d0 + k)) (dTo h (d0 + k)) a b) := Lib.hid rfl
      have hkk : (k : Int) ≤ 4010 := by have := HN4.out; omega
      obtain ⟨b11, b12⟩ := hb ((d0 + k) % 7 * 2)
      obtain ⟨b21, b22⟩ := hb ((d0 + k) % 7 * 2 + 1)
      have hm7 : (d0 + k) % 7 < 7 := Nat.mod_lt _ (by omega)
      have HP := Lib.hid (stC_pair r h hB2 ((d0 + k) % 7) hm7)
      have hmq : ((d0 : Int) + (k : Int)) % 7 = (((d0 + k) % 7 : Nat) : Int) := by omega
      have HV : Hid (dFrom h (d0 + k) = ((d0 : Int) + (k : Int)) * 1440 + h ((d0 + k) % 7 * 2) ∧ dTo h (d0 + k) = ((d0 : Int) + (k : Int)) * 1440 + h ((d0 + k) % 7 * 2 + 1)) := Lib.hid (by unfold dFrom dTo; omega)
      obtain ⟨m, hm⟩ : ∃ m, (d0 + k) % 7 = m := ⟨_, rfl⟩
      rw [hm] at HV b11 b12 b21 b22 hm7 HP hmq
      clear hm hlt hk hl
      generalize accD h a b d0 k = acc at ac0 ac1 HA ⊢
      go_wp2_with (refine wpList_load_at rfl 27 _ rfl ⟨w.heap.size, 1 + m * 2, none⟩ rfl #[.int .i64 (h (m * 2)), .int .i64 (h (m * 2 + 1))] _ HP.out Tryd.underlying27 rfl (wn_info _ _) ?_)
      have h9 := HA.out
      rw [HV.out.1, HV.out.2] at h9
      unfold ovl at h9
      have H9 := Lib.hid h9
      clear h9
      refine ⟨⟨k + 1, HK.out, congrArg (Value.int .i64) (by omega), congrArg (Value.int .i64) (by have := H9.out; omega), hG2.alloc _, hB2.alloc _, hW2.alloc _⟩, ?_⟩
      simp only [intOf]
      omega
    · obtain rfl : k = nD a b := by omega
      have hge : (b : Int) ≤ ((d0 : Int) + (nD a b : Int)) * 1440 := by have h8 : ¬ (d0 + nD a b) * 1440 < b := fun hn => hl (hlt.2 hn); omega
      have HF : Hid (openIn h a b = accD h a b d0 (nD a b)) := Lib.hid (by rw [← HD.out]; rfl)
      have hn9 : (nD a b : Int) ≤ 4010 := by have := HN4.out; omega
      clear hlt hl hk
      generalize accD h a b d0 (nD a b) = acc at ac0 ac1 HF ⊢
      generalize nD a b = n at hge hn9 ⊢
      go_wp2_with fail
      go_ret
      exact ⟨ret_int HF.out.symm, hG2⟩
def minE (r : ByteArray) (h : Nat → Int) (a b : Int) : Int := if stErr [(r, h)] = 0 then winE a b else stErr [(r, h)]
def minR (r : ByteArray) (h : Nat → Int) (a b : Int) : Int := if minE r h a b = 0 then openIn h a.toNat b.toNat else 0
set_option maxRecDepth 100000 in
set_option maxHeartbeats 2000000 in
theorem openMinutes_c (r : ByteArray) (h : Nat → Int) (a b : Int) (w : World) (hr : r.size ≤ 9223372036854775807) (hb : HB h) :
    Calls Tryd.prog 11 #[.agg (stC r h), .agg #[.int .i64 a, .int .i64 b]] w fun e w' => e = .returned (.tuple #[.int .i64 (minR r h a b), .int .i64 (minE r h a b)]) ∧ G w w' none := by
  have hk : KeysOk [(r, h)] := by intro p hp; obtain rfl := List.mem_singleton.1 hp; exact ⟨hr, hb⟩
  have HB1 := Lib.hid ((((Bk.new w 30 (stC r h)).alloc (.cells #[.int .i64 a, .int .i64 b] 27))).at_)
  have hB0 := (((Bk.new w 30 (stC r h)).alloc (.cells #[.int .i64 a, .int .i64 b] 27))).alloc (.cells (stC r h) 30)
  have hW0 := (Bk.newAt (w := w.alloc (.cells (stC r h) 30)) (b := w.heap.size + 1) (by simp) 27 #[.int .i64 a, .int .i64 b]).alloc (.cells (stC r h) 30)
  by_cases h0 : stErr [(r, h)] = 0
  · by_cases hw : winB a b = true
    · simp only [winB, Bool.and_eq_true, decide_eq_true_eq] at hw
      obtain ⟨⟨a0, ab⟩, be⟩ := hw
      obtain ⟨a, rfl⟩ := Int.eq_ofNat_of_zero_le a0
      obtain ⟨b, rfl⟩ := Int.eq_ofNat_of_zero_le (show 0 ≤ b by omega)
      have hwt : winB (a : Int) (b : Int) = true := by simp [winB]; omega
      have H : Hid (minR r h (a : Int) (b : Int) = openIn h a b ∧ minE r h (a : Int) (b : Int) = 0) := Lib.hid (by simp [minR, minE, winE, h0, hwt])
      have HW := Lib.hid hwt
      have HLT := Lib.hid (fun k => nD_lt (a := a) (b := b) k)
      have HAC := Lib.hid (fun d0 k hk => accD_le h a b d0 k (by omega) (by omega) hk)
      have HN4 := Lib.hid (nD_le (a := a) (b := b) (by omega))
      obtain ⟨d0, hd0⟩ : ∃ d0 : Nat, a / 1440 = d0 := ⟨_, rfl⟩
      have HD := Lib.hid hd0
      have hdq : (a : Int) / 1440 = (d0 : Int) := by omega
      have hd4 : d0 ≤ 4001 := by omega
      have ha9 : (a : Int) ≤ 10000000 := by omega
      have hb9 : (b : Int) ≤ 10000000 := by omega
      clear be hd0 hwt ab
      go_enter Tryd.func11, Tryd.ntmps11
      go_wp2_with (refine wpList_load_at rfl 30 _ rfl ⟨w.heap.size, 0, none⟩ rfl #[.string r, .int .i64 (h 0), .int .i64 (h 1), .int .i64 (h 2), .int .i64 (h 3), .int .i64 (h 4), .int .i64 (h 5), .int .i64 (h 6), .int .i64 (h 7), .int .i64 (h 8), .int .i64 (h 9), .int .i64 (h 10), .int .i64 (h 11), .int .i64 (h 12), .int .i64 (h 13)] _ HB1.out Tryd.underlying30 rfl (st_info _ _) ?_)
      refine (checkStations_c _ [(r, h)] _ (rd_one r h (by simp)) hk (by simp)).mono ?_; rintro e w1 ⟨rfl, hG1⟩
      have hB1 := hB0.quiet hG1
      have hW1 := hW0.quiet hG1
      have hG : G w w1 none := ((((G.refl w none).alloc _).alloc _).alloc _).trans hG1
      rw [h0]
      clear hG1 h0 hB0 hW0 HB1
      have hwl := hW1.lt
      have hc0 : w1.cell? ⟨w.heap.size + 1, 0, none⟩ = some (.int .i64 (a : Int)) := hW1.cell 0
      have hc1 : w1.cell? ⟨w.heap.size + 1, 1, none⟩ = some (.int .i64 (b : Int)) := hW1.cell 1
      go_wp2_with fail
      refine (isWindow_c _ _ _).mono ?_; rintro e w2 ⟨rfl, hG2⟩
      rw [HW.out]
      have hB2 := hB1.quiet hG2
      have hW2 := hW1.quiet hG2
      have hG02 := hG.trans hG2
      clear hG hG2 hB1 hW1 hc0 hc1 hwl
      have hwl := hW2.lt
      have hc0 : w2.cell? ⟨w.heap.size + 1, 0, none⟩ = some (.int .i64 (a : Int)) := hW2.cell 0
      have hc1 : w2.cell? ⟨w.heap.size + 1, 1, none⟩ = some (.int .i64 (b : Int)) := hW2.cell 1
      go_wp2_with fail
      clear hc0 hc1 hwl
      go_loopw [7, 8] (MinRel w r h a b d0) (fun _ i _ => (20000 - (intOf i)).toNat)
      case atStart => exact ⟨0, by omega, congrArg (Value.int .i64) (by omega), rfl, hG02, hB2, hW2⟩
      case round =>
        clear hG02 hB2 hW2
        obtain ⟨k, hk, rfl, rfl, hG2, hB2, hW2⟩ := hrel
        have hlt := HLT.out k
        have hac := HAC.out d0 k (by have := HN4.out; omega)
        rw [HD.out] at hlt
        have hc0 : wr.cell? ⟨w.heap.size + 1, 0, none⟩ = some (.int .i64 (a : Int)) := hW2.cell 0
        have hc1 : wr.cell? ⟨w.heap.size + 1, 1, none⟩ = some (.int .i64 (b : Int)) := hW2.cell 1
        have hwl := hW2.lt
        obtain ⟨ac0, ac1⟩ := hac
        by_cases hl : k < nD a b
        · have hlt2 : ((d0 : Int) + (k : Int)) * 1440 < (b : Int) := by have := hlt.1 hl; omega
          have HK : Hid (k + 1 ≤ nD a b) := Lib.hid (by omega)
          have HA : Hid (accD h a b d0 (k + 1) = accD h a b d0 k + ovl (dFrom h (d0 + k)) (dTo h (d0 + k)) a b) := Lib.hid rfl
          have hkk : (k : Int) ≤ 4010 := by have := HN4.out; omega
          clear hlt hk hl
          generalize accD h a b d0 k = acc at ac0 ac1 HA ⊢
          go_wp2_with fail
          clear hc0 hc1 hwl
          refine wp_region_quiet (C := fun w' => G wr w' none) (by kernel_rfl) (by kernel_rfl) ((G.refl _ _).drew) ?_
          refine wpQuiet_op rfl (fun K hK => ?_); refine quiet_value _ (fun _ _ => rfl) (hK _ ?_); clear hK K
          refine wpQuiet_op rfl (fun K hK => ?_); refine quiet_load_row 30 _ rfl w.heap.size rfl 30 (stC r h) _ (fun w' hw' => hB2.quiet hw') Tryd.underlying30 rfl (st_info _ _) (hK _ ?_); clear hK K
          refine wpQuiet_op rfl (fun K hK => ?_); refine quiet_value _ (fun _ _ => rfl) (hK _ ?_); clear hK K
          have hdf := dFrom_bd hb (d0 + k)
          have hdt := dTo_bd hb (d0 + k)
          have hk7 : (d0 : Int) + (k : Int) ≤ 7000 := by omega
          have ho := HA.out
          have hoB : 0 ≤ ovl (dFrom h (d0 + k)) (dTo h (d0 + k)) a b ∧ ovl (dFrom h (d0 + k)) (dTo h (d0 + k)) a b ≤ 10000000 := by unfold ovl; omega
          have HOV := Lib.hid (fun w => overlap_c (dFrom h (d0 + k)) (dTo h (d0 + k)) (a : Int) (b : Int) w (by unfold small; omega) (by unfold small; omega) (by unfold small; omega) (by unfold small; omega))
          have HHO := Lib.hid (fun w => hoursOn_c r h (d0 + k) w hb (by omega))
          clear hdf hdt ho hb
          generalize ovl (dFrom h (d0 + k)) (dTo h (d0 + k)) a b = O at HA hoB HOV
          generalize dFrom h (d0 + k) = x at HOV HHO
          generalize dTo h (d0 + k) = z at HOV HHO
          obtain ⟨o0, o1⟩ := hoB
          refine wpQuiet_op rfl (fun K hK => ?_); refine quiet_call 36 #[.agg (stC r h), .int .i64 ((d0 : Int) + (k : Int))] (.agg #[.int .i64 x, .int .i64 z]) (fun _ => by go_simp) (fun w' hw' => by rw [show (d0 : Int) + (k : Int) = ((d0 + k : Nat) : Int) by omega]; exact G.callNone hw' (HHO.out w')) (hK _ ?_); clear hK K
          refine wpQuiet_op rfl (fun K hK => ?_); refine quiet_load_row 27 _ rfl (w.heap.size + 1) rfl 27 #[.int .i64 (a : Int), .int .i64 (b : Int)] _ (fun w' hw' => hW2.quiet hw') Tryd.underlying27 rfl (wn_info _ _) (hK _ ?_); clear hK K
          refine wpQuiet_op rfl (fun K hK => ?_); refine quiet_call 38 #[.agg #[.int .i64 x, .int .i64 z], .agg #[.int .i64 (a : Int), .int .i64 (b : Int)]] (.int .i64 O) (fun _ => by go_simp) (fun w' hw' => G.callNone hw' (HOV.out w')) (hK _ ?_); clear hK K
          refine wpQuiet_op rfl (fun K hK => ?_); refine quiet_value (.int .i64 (acc + O)) (fun _ _ => by go_simp; exact IntWalk.i64_in _ (by omega)) (hK _ ?_); clear hK K
          refine wpQuiet_op rfl (fun K hK => ?_); refine quiet_value _ (fun _ _ => rfl) (hK _ ?_); clear hK K
          refine wpQuiet_nil ?_
          intro w5 hG5
          go_simp
          go_wp2_with fail
          refine ⟨⟨k + 1, HK.out, congrArg (Value.int .i64) (by omega), congrArg (Value.int .i64) HA.out.symm, hG2.trans hG5, hB2.quiet hG5, hW2.quiet hG5⟩, ?_⟩
          simp only [intOf]
          omega
        · obtain rfl : k = nD a b := by omega
          have hge : (b : Int) ≤ ((d0 : Int) + (nD a b : Int)) * 1440 := by have h8 : ¬ (d0 + nD a b) * 1440 < b := fun hn => hl (hlt.2 hn); omega
          have HF : Hid (openIn h a b = accD h a b d0 (nD a b)) := Lib.hid (by rw [← HD.out]; rfl)
          have hn9 : (nD a b : Int) ≤ 4010 := by have := HN4.out; omega
          clear hlt hl hk
          generalize accD h a b d0 (nD a b) = acc at ac0 ac1 HF ⊢
          generalize nD a b = n at hge hn9 ⊢
          go_wp2_with fail
          go_ret2
          exact ⟨by rw [H.out.1, H.out.2, HF.out]; rfl, hG2⟩
    · have H : Hid (minR r h a b = 0 ∧ minE r h a b = 1) := Lib.hid (by simp [minR, minE, winE, h0, hw])
      have HW : Hid (winB a b = false) := Lib.hid (by simpa using hw)
      clear hw
      go_enter Tryd.func11, Tryd.ntmps11
      go_wp2_with (refine wpList_load_at rfl 30 _ rfl ⟨w.heap.size, 0, none⟩ rfl #[.string r, .int .i64 (h 0), .int .i64 (h 1), .int .i64 (h 2), .int .i64 (h 3), .int .i64 (h 4), .int .i64 (h 5), .int .i64 (h 6), .int .i64 (h 7), .int .i64 (h 8), .int .i64 (h 9), .int .i64 (h 10), .int .i64 (h 11), .int .i64 (h 12), .int .i64 (h 13)] _ HB1.out Tryd.underlying30 rfl (st_info _ _) ?_)
      refine (checkStations_c _ [(r, h)] _ (rd_one r h (by simp)) hk (by simp)).mono ?_; rintro e w1 ⟨rfl, hG1⟩
      have hW1 := hW0.quiet hG1
      have hG : G w w1 none := ((((G.refl w none).alloc _).alloc _).alloc _).trans hG1
      rw [h0]
      clear hG1 h0 hB0 hW0 HB1
      have hwl := hW1.lt
      have hc0 : w1.cell? ⟨w.heap.size + 1, 0, none⟩ = some (.int .i64 a) := hW1.cell 0
      have hc1 : w1.cell? ⟨w.heap.size + 1, 1, none⟩ = some (.int .i64 b) := hW1.cell 1
      go_wp2_with fail
      refine (isWindow_c _ _ _).mono ?_; rintro e w2 ⟨rfl, hG2⟩
      rw [HW.out]
      go_wp2_with fail
      go_ret2
      exact ⟨by rw [H.out.1, H.out.2]; rfl, hG.trans hG2⟩
  · have H : Hid (minR r h a b = 0 ∧ minE r h a b = stErr [(r, h)]) := Lib.hid (by simp [minR, minE, h0])
    have h1 : (stErr [(r, h)] != 0) = true := by rw [bne_iff_ne]; exact h0
    clear h0
    go_enter Tryd.func11, Tryd.ntmps11
    go_wp2_with (refine wpList_load_at rfl 30 _ rfl ⟨w.heap.size, 0, none⟩ rfl #[.string r, .int .i64 (h 0), .int .i64 (h 1), .int .i64 (h 2), .int .i64 (h 3), .int .i64 (h 4), .int .i64 (h 5), .int .i64 (h 6), .int .i64 (h 7), .int .i64 (h 8), .int .i64 (h 9), .int .i64 (h 10), .int .i64 (h 11), .int .i64 (h 12), .int .i64 (h 13)] _ HB1.out Tryd.underlying30 rfl (st_info _ _) ?_)
    refine (checkStations_c _ [(r, h)] _ (rd_one r h (by simp)) hk (by simp)).mono ?_; rintro e w1 ⟨rfl, hG1⟩
    go_wp2_with fail
    go_ret2
    exact ⟨by rw [H.out.1, H.out.2]; rfl, ((((G.refl w none).alloc _).alloc _).alloc _).trans hG1⟩
end Go.Proofs.YtbddcbbjmgepnaaDoor

/- The law's own 'errs'. -/
namespace Go.Proofs.YtbddcbbjmgepnaaDoor
open Go.RowKit

/-- The first error of some. -/
def errsOf : List Int → Int
  | [] => 0
  | e :: r => if e = 0 then errsOf r else e
def ErrsRel (es : List Int) (i : Value) : Prop := ∃ k : Nat, k ≤ es.length ∧ i = .int .i64 k ∧ errsOf es = errsOf (es.drop k)
set_option maxRecDepth 100000 in
set_option maxHeartbeats 1000000 in
theorem errs_c (es : List Int) (v : Value) (w : World) (hr : Rd w 1 v es.length (es.map (Value.int .i64))) (hn : es.length ≤ 1000) :
    Calls Tryd.prog 13 #[v] w fun e w' => e = .returned (.int .i64 (errsOf es)) ∧ w = w' := by
  obtain ⟨a, cap, rfl, hcap, hm, hlen, hnil, hcell⟩ := hr
  go_enter Tryd.func13, Tryd.ntmps13
  go_wp2_with fail
  go_loop [7] (ErrsRel es) (fun i => es.length - (intOf i).toNat)
  case atStart => exact ⟨0, by omega, rfl, rfl⟩
  case round =>
    obtain ⟨k, hk, rfl, heq⟩ := hrel
    have HE := Lib.hid heq
    clear heq
    by_cases hlt : k < es.length
    · obtain ⟨x, hx⟩ : ∃ x, es[k]? = some x := ⟨_, List.getElem?_eq_getElem hlt⟩
      have HD : Hid (errsOf es = if x = 0 then errsOf (es.drop (k + 1)) else x) := Lib.hid (by
        rw [HE.out, List.drop_eq_getElem_cons hlt, (List.getElem?_eq_some_iff.1 hx).2]; rfl)
      cases a with
      | none => have := (hnil rfl).1; omega
      | some ad =>
        obtain ⟨bb, bo, bs⟩ := ad
        obtain ⟨e1, e2, e3⟩ := hcell _ rfl
        dsimp only at e1 e2 e3
        subst e1
        have hc := e3 k (.int .i64 x) (by rw [List.getElem?_map, hx]; rfl)
        clear hcell e3 hnil hx
        by_cases h0 : x = 0
        · subst h0
          have HF : Hid (errsOf es = errsOf (es.drop (k + 1))) := Lib.hid (by rw [HD.out, if_pos rfl])
          go_wp2_with fail
          go_round
          case rel => exact ⟨k + 1, by omega, by go_num, HF.out⟩
          case measure => simp [intOf]; omega
        · have HF : Hid (errsOf es = x) := Lib.hid (by rw [HD.out, if_neg h0])
          have h1 : (x != 0) = true := by rw [bne_iff_ne]; exact h0
          clear h0
          go_wp2_with fail
          go_ret
          exact ⟨ret_int HF.out.symm, rfl⟩
    · obtain rfl : k = es.length := by omega
      have HF : Hid (errsOf es = 0) := Lib.hid (by rw [HE.out, List.drop_length]; rfl)
      go_wp2_with fail
      go_ret
      exact ⟨ret_int HF.out.symm, rfl⟩
theorem errs_at (r : ByteArray) (h : Nat → Int) (t : Int) : errsOf [stErr [(r, h)], momE t] = atE r h t := by
  unfold atE
  show (if stErr [(r, h)] = 0 then (if momE t = 0 then 0 else momE t) else stErr [(r, h)]) = _
  by_cases h1 : stErr [(r, h)] = 0
  · rw [if_pos h1, if_pos h1]
    split
    · omega
    · rfl
  · rw [if_neg h1, if_neg h1]
theorem errs_min (r : ByteArray) (h : Nat → Int) (x y : Int) : errsOf [stErr [(r, h)], winE x y] = minE r h x y := by
  unfold minE
  show (if stErr [(r, h)] = 0 then (if winE x y = 0 then 0 else winE x y) else stErr [(r, h)]) = _
  by_cases h1 : stErr [(r, h)] = 0
  · rw [if_pos h1, if_pos h1]
    split
    · omega
    · rfl
  · rw [if_neg h1, if_neg h1]
end Go.Proofs.YtbddcbbjmgepnaaDoor

/- A map keyed by strings, told by a function from its keys to the values that stand at them, and by how many there are. No program. -/
namespace Go.Proofs.YtbddcbbjmgepnaaDoor
open Go.RowKit Go.ChangeMaps Go.MapKept
open Go.Maps (Keyed IsMap Tidy has size)

/-- Each value reads as itself. -/
def RV (v : Value) : Option (DataW Value × List MemPlace) := some (.held v, [])
def kL (s : ByteArray) : Lit := .string s.data.toList
theorem kL_inj {s t : ByteArray} (h : s ≠ t) : kL s ≠ kL t := fun e => h (Go.WideShapes.bytes_inj (by unfold kL at e; injection e))
theorem kL_key (s : ByteArray) : WideAt.IsKeyLit (kL s) := trivial
abbrev Fn := ByteArray → Option Value
/-- What a map holds, as a datum. -/
def MapIs (D : DataW Value) (c : Nat) (f : Fn) : Prop := Tidy D ∧ size D = c ∧ ∀ s, has D (kL s) = (f s).isSome ∧ ∀ v, f s = some v → ∀ z, D.atKey (kL s) z = .held v
/-- Block 'b' is a map of 'c' keys that holds what 'f' says. -/
def OwnM (P : Program) (k : TypeId) (w : World) (b c : Nat) (f : Fn) : Prop := ∃ D n, w.ownsMap P k RV b n D ∧ n ≤ c ∧ MapIs D c f
def fput (f : Fn) (s : ByteArray) (v : Value) : Fn := fun t => if t = s then some v else f t
def fdel (f : Fn) (s : ByteArray) : Fn := fun t => if t = s then none else f t
def cput (c : Nat) (f : Fn) (s : ByteArray) : Nat := if (f s).isSome = true then c else c + 1
theorem MapIs.empty : MapIs (.map []) 0 (fun _ => none) := ⟨Maps.tidy_empty, rfl, fun _ => ⟨rfl, fun _ h => by cases h⟩⟩
theorem MapIs.put {D : DataW Value} {c : Nat} {f : Fn} (h : MapIs D c f) (s : ByteArray) (v : Value) : MapIs (D.put (kL s) (.held v)) (cput c f s) (fput f s v) := by
  obtain ⟨h1, h2, h3⟩ := h
  refine ⟨h1.put (kL_key s) _, ?_, fun t => ?_⟩
  · rw [Maps.size_put h1, (h3 s).1, h2]
    rfl
  · by_cases e : t = s
    · subst e
      simp only [fput, if_pos]
      exact ⟨by rw [Maps.has_put_same h1.isMap (kL_key t)]; rfl, fun u hu z => by cases hu; exact Maps.atKey_put_same h1.isMap (kL_key t) _ _⟩
    · simp only [fput, if_neg e]
      exact ⟨by rw [Maps.has_put_other (kL_inj e)]; exact (h3 t).1, fun u hu z => by rw [Maps.atKey_put_other (kL_inj e)]; exact (h3 t).2 u hu z⟩
theorem MapIs.del {D : DataW Value} {c : Nat} {f : Fn} (h : MapIs D c f) (s : ByteArray) : MapIs (D.del (kL s)) (if (f s).isSome = true then c - 1 else c) (fdel f s) := by
  obtain ⟨h1, h2, h3⟩ := h
  refine ⟨h1.del _, ?_, fun t => ?_⟩
  · have := Maps.size_del h1 (k := kL s)
    rw [(h3 s).1, h2] at this
    split at this <;> simp_all <;> omega
  · by_cases e : t = s
    · subst e
      simp only [fdel, if_pos]
      exact ⟨by rw [Maps.has_del_same]; rfl, fun u hu => by cases hu⟩
    · simp only [fdel, if_neg e]
      exact ⟨by rw [Maps.has_del_other (kL_inj e)]; exact (h3 t).1, fun u hu z => by rw [Maps.atKey_del_other (kL_inj e)]; exact (h3 t).2 u hu z⟩

section
variable {P : Program} {k : TypeId} {w : World} {b c : Nat} {f : Fn}
theorem OwnM.made (w : World) (P : Program) (k : TypeId) {b : Nat} (hb : w.heap.size = b) : OwnM P k (w.alloc (.map #[] 0)) b 0 (fun _ => none) := by
  subst hb
  exact ⟨_, 0, World.ownsMap_made w P k RV, Nat.le_refl _, MapIs.empty⟩
theorem OwnM.lt (h : OwnM P k w b c f) : b < w.heap.size := by obtain ⟨D, n, h, _⟩ := h; exact h.lt
theorem OwnM.grown {w' : World} {s : Option Nat} (h : OwnM P k w b c f) (hg : G w w' s) (hs : some b ≠ s) : OwnM P k w' b c f := by obtain ⟨D, n, h, r⟩ := h; exact ⟨D, n, h.kept hg hs, r⟩
theorem OwnM.quiet {w' : World} (h : OwnM P k w b c f) (hg : G w w' none) : OwnM P k w' b c f := h.grown hg (by simp)
theorem OwnM.alloc (h : OwnM P k w b c f) (o : Obj) : OwnM P k (w.alloc o) b c f := h.quiet ((G.refl _ _).alloc o)
theorem OwnM.drewN (h : OwnM P k w b c f) (n : Nat) : OwnM P k (w.drewN n) b c f := h.quiet ((G.refl _ _).drewN n)
theorem OwnM.setCell (h : OwnM P k w b c f) {p : Addr} (hp : b ≠ p.block) (u : Value) : OwnM P k (w.setCell p u) b c f := h.grown (grownBy_setCell_row w p u) (by simpa using hp)
theorem OwnM.setRow (h : OwnM P k w b c f) {g : Nat} (hp : b ≠ g) (cs : Array Value) : OwnM P k (w.setRow g cs) b c f := h.grown (grownBy_setRow w g cs) (by simpa using hp)
theorem OwnM.look {t e : TypeId} (h : OwnM P k w b c f) (hk : P.underlying k = some .string) (ht : P.underlying t = some (.map k e)) {z : Value} (hz : (zeroValue e).run P w = .ok z w) {s : ByteArray} (hs : s.size ≤ maxLen) :
    (Instr.lookup t (.map (some b)) (.string s) false).run P w = .ok ((f s).getD z) w := by
  obtain ⟨D, n, h, _, h1, h2, h3⟩ := h
  obtain ⟨v, ps, hrun, hv⟩ := h.lookup (Maps.string_keyed hk) ht hz (zd := .held z) (zp := []) rfl (Go.WideMaps.keyOf_string_mk hk hs)
  rw [hrun]
  have e : DataW.held v = D.atKey (kL s) (.held z) := by have := congrArg (fun o => o.map Prod.fst) hv; simpa [RV, kL] using this
  cases hf : f s with
  | none =>
    have hn := (h3 s).1
    rw [hf] at hn
    rw [Maps.atKey_of_not_has hn] at e
    injection e with e
    rw [e]; rfl
  | some u =>
    rw [(h3 s).2 u hf] at e
    injection e with e
    rw [e]; rfl
theorem OwnM.look_ok {t e : TypeId} (h : OwnM P k w b c f) (hk : P.underlying k = some .string) (ht : P.underlying t = some (.map k e)) {z : Value} (hz : (zeroValue e).run P w = .ok z w) {s : ByteArray} (hs : s.size ≤ maxLen) :
    (Instr.lookup t (.map (some b)) (.string s) true).run P w = .ok (.tuple #[(f s).getD z, .bool (f s).isSome]) w := by
  obtain ⟨D, n, h, _, h1, h2, h3⟩ := h
  obtain ⟨v, ps, hrun, hv⟩ := h.look_ok (Maps.string_keyed hk) ht hz (zd := .held z) (zp := []) rfl (Go.WideMaps.keyOf_string_mk hk hs)
  rw [hrun]
  have e : DataW.held v = D.atKey (kL s) (.held z) := by have := congrArg (fun o => o.map Prod.fst) hv; simpa [RV, kL] using this
  have hb : has D (kL s) = (f s).isSome := (h3 s).1
  rw [show Maps.has D (Lit.string s.data.toList) = (f s).isSome from hb]
  cases hf : f s with
  | none =>
    have hn := (h3 s).1
    rw [hf] at hn
    rw [Maps.atKey_of_not_has hn] at e
    injection e with e
    rw [e]; rfl
  | some u =>
    rw [(h3 s).2 u hf] at e
    injection e with e
    rw [e]; rfl
theorem OwnM.store {t e : TypeId} (h : OwnM P k w b c f) (hk : P.underlying k = some .string) (ht : P.underlying t = some (.map k e)) (hc : c < maxLen) {s : ByteArray} (hs : s.size ≤ maxLen) (v : Value) :
    ∃ w', (Instr.mapUpdate t (.map (some b)) (.string s) v).run P w = .ok () w' ∧ OwnM P k w' b (cput c f s) (fput f s v) ∧ w.grownBy w' (some b) := by
  obtain ⟨D, n, h, hn, hM⟩ := h
  obtain ⟨w', hrun, h1, h2⟩ := h.update (Maps.string_keyed hk) ht (Nat.lt_of_le_of_lt hn hc) (Go.WideMaps.keyOf_string_mk hk hs) (val := v) (d := .held v) (ps := []) rfl
  have hM' := hM.put s v
  refine ⟨w', hrun, ⟨_, size (D.put (kL s) (.held v)), ?_, Nat.le_of_eq hM'.2.1, hM'⟩, h2⟩
  obtain ⟨es, clock, hb, F, _, hD⟩ := h1
  have hD' : D.put (kL s) (.held v) = .map ((es.toList.map (Go.WideElems.rg P k RV)).foldr DataW.insert []) := hD
  refine ⟨es, clock, hb, F, ?_, hD⟩
  rw [hD']
  simp [size, length_sorted]
theorem OwnM.drop {t e : TypeId} (h : OwnM P k w b c f) (hk : P.underlying k = some .string) (ht : P.underlying t = some (.map k e)) {s : ByteArray} (hs : s.size ≤ maxLen) (ty : TypeId) :
    ∃ w', (Builtin.delete_ #[t, k] ty #[.map (some b), .string s]).run P w = .ok (.tuple #[]) w' ∧ OwnM P k w' b (if (f s).isSome = true then c - 1 else c) (fdel f s) ∧ w.grownBy w' (some b) := by
  obtain ⟨D, n, h, hn, hM⟩ := h
  obtain ⟨w', hrun, h1, h2⟩ := h.drop (Maps.string_keyed hk) ht (Go.WideMaps.keyOf_string_mk hk hs) ty
  have hM' := hM.del s
  refine ⟨w', hrun, ⟨_, size (D.del (kL s)), ?_, Nat.le_of_eq hM'.2.1, hM'⟩, h2.grown⟩
  obtain ⟨es, clock, hb, F, _, hD⟩ := h1
  have hD' : D.del (kL s) = .map ((es.toList.map (Go.WideElems.rg P k RV)).foldr DataW.insert []) := hD
  refine ⟨es, clock, hb, F, ?_, hD⟩
  rw [hD']
  simp [size, length_sorted]
end

/-! ### At the operation, for the walk -/
section
variable {P : Program} {w : World} {ops : Array Oper} {rest : List Oper} {o : Oper} {a : Act} {Q : Exit → Act → World → Prop}
theorem wpM_look (hg : o.guard = none) (m x : Operand) (t : TypeId) (hop : o.op = Op.lookup t m x false) (k e : TypeId) (hk : P.underlying k = some .string) (ht : P.underlying t = some (.map k e)) (z : Value) (hz : (zeroValue e).run P w = .ok z w)
    (b c : Nat) (f : Fn) (hm : a.eval m = .map (some b)) (hown : OwnM P k w b c f) (s : ByteArray) (hx : a.eval x = .string s) (hs : s.size ≤ maxLen) (hK : wpList P ops Q rest (a.put o.dst ((f s).getD z)) w) : wpList P ops Q (o :: rest) a w := by
  refine wpList_plain hg fun K' hK' => ?_
  unfold Oper.wp
  simp [execOp, hop, hm, hx, hown.look hk ht hz hs, Result.andThen]
  exact hK' _ _ hK
theorem wpM_look_ok (hg : o.guard = none) (m x : Operand) (t : TypeId) (hop : o.op = Op.lookup t m x true) (k e : TypeId) (hk : P.underlying k = some .string) (ht : P.underlying t = some (.map k e)) (z : Value) (hz : (zeroValue e).run P w = .ok z w)
    (b c : Nat) (f : Fn) (hm : a.eval m = .map (some b)) (hown : OwnM P k w b c f) (s : ByteArray) (hx : a.eval x = .string s) (hs : s.size ≤ maxLen) (hK : wpList P ops Q rest (a.put o.dst (.tuple #[(f s).getD z, .bool (f s).isSome])) w) : wpList P ops Q (o :: rest) a w := by
  refine wpList_plain hg fun K' hK' => ?_
  unfold Oper.wp
  simp [execOp, hop, hm, hx, hown.look_ok hk ht hz hs, Result.andThen]
  exact hK' _ _ hK
theorem wpM_store (hg : o.guard = none) (m x v : Operand) (t : TypeId) (hop : o.op = Op.mapUpdate t m x v) (k e : TypeId) (hk : P.underlying k = some .string) (ht : P.underlying t = some (.map k e))
    (b c : Nat) (f : Fn) (hm : a.eval m = .map (some b)) (hown : OwnM P k w b c f) (hc : c < maxLen) (s : ByteArray) (hx : a.eval x = .string s) (hs : s.size ≤ maxLen) (u : Value) (hv : a.eval v = u)
    (hK : ∀ w', OwnM P k w' b (cput c f s) (fput f s u) → w.grownBy w' (some b) → wpList P ops Q rest (a.put o.dst undef) w') : wpList P ops Q (o :: rest) a w := by
  refine wpList_plain hg fun K' hK' => ?_
  obtain ⟨w', hrun, r1, r2⟩ := hown.store hk ht hc hs u
  unfold Oper.wp
  simp [execOp, hop, hm, hx, hv, hrun, Result.andThen]
  exact hK' _ _ (hK w' r1 r2)
theorem wpM_delete (hg : o.guard = none) (m x : Operand) (t k : TypeId) (hop : o.op = Op.call { callee := Callee.builtin Builtin.delete, args := #[m, x], argTypes := #[t, k] }) (e : TypeId) (hk : P.underlying k = some .string) (ht : P.underlying t = some (.map k e))
    (b c : Nat) (f : Fn) (hm : a.eval m = .map (some b)) (hown : OwnM P k w b c f) (s : ByteArray) (hx : a.eval x = .string s) (hs : s.size ≤ maxLen)
    (hK : ∀ w', OwnM P k w' b (if (f s).isSome = true then c - 1 else c) (fdel f s) → w.grownBy w' (some b) → wpList P ops Q rest (a.put o.dst (.tuple #[])) w') : wpList P ops Q (o :: rest) a w := by
  refine wpList_plain hg fun K' hK' => ?_
  obtain ⟨w', hrun, r1, r2⟩ := hown.drop hk ht hs o.type
  unfold Oper.wp
  simp [execOp, hop, resolve, invoke, builtin, hm, hx, hrun, Result.andThen]
  exact hK' _ _ (hK w' r1 r2)
theorem wpM_len (hg : o.guard = none) (m : Operand) (t : TypeId) (hop : o.op = Op.call { callee := Callee.builtin Builtin.len, args := #[m], argTypes := #[t] }) (k e : TypeId) (ht : P.underlying t = some (.map k e))
    (b c : Nat) (f : Fn) (hm : a.eval m = .map (some b)) (hown : OwnM P k w b c f) (hK : wpList P ops Q rest (a.put o.dst (.int .i64 c)) w) : wpList P ops Q (o :: rest) a w := by
  obtain ⟨D, n, h, _, h1, h2, h3⟩ := hown
  refine wpList_len_own w hg m t hop k e ht RV b n D hm h ?_
  rw [h2]
  exact hK
end
end Go.Proofs.YtbddcbbjmgepnaaDoor

/- Classes: checkClassKeys, upsOf, comesBack, CheckClasses. -/
namespace Go.Proofs.YtbddcbbjmgepnaaDoor
open Go.RowKit

/-- A class: its key, the key of the one above. -/
abbrev Cla := ByteArray × ByteArray
def clC (p : Cla) : Array Value := #[.string p.1, .string p.2]
def clL (l : List Cla) : List Value := l.flatMap fun p => (clC p).toList
theorem clL_len (l : List Cla) : (clL l).length = l.length * 2 := by
  induction l with
  | nil => rfl
  | cons p l ih => rw [show clL (p :: l) = (clC p).toList ++ clL l from rfl, List.length_append, ih, List.length_cons, show (clC p).toList.length = 2 from rfl]; omega
theorem clL_at (l : List Cla) (k : Nat) (p : Cla) (hp : l[k]? = some p) : ∀ j v, (clC p).toList[j]? = some v → (clL l)[k * 2 + j]? = some v := by
  induction l generalizing k with
  | nil => simp at hp
  | cons q r ih =>
    intro j v hv
    have hl : (clC q).toList.length = 2 := rfl
    rw [show clL (q :: r) = (clC q).toList ++ clL r from rfl]
    cases k with
    | zero =>
      obtain rfl : q = p := by simpa using hp
      have hj : j < 2 := by rw [← hl]; exact (List.getElem?_eq_some_iff.1 hv).1
      rw [Nat.zero_mul, Nat.zero_add, List.getElem?_append_left (by rw [hl]; exact hj)]
      exact hv
    | succ k =>
      rw [List.getElem?_append_right (by rw [hl]; omega), hl, show (k + 1) * 2 + j - 2 = k * 2 + j by omega]
      exact ih k (by simpa using hp) j v hv
theorem cl_info (p : Cla) : (Tryd.prog.info? 80).map (·.size) = some (clC p).size := (by kernel_rfl : (Tryd.prog.info? 80).map (·.size) = some 2)
def Small (s : ByteArray) : Prop := s.size ≤ 9223372036854775807
def ClsOk (l : List Cla) : Prop := ∀ p ∈ l, Small p.1 ∧ Small p.2
/-- Not the empty string, and no key. -/
def badUp (u : ByteArray) : Bool := !u.toList.isEmpty && !keyB u
def ckErr (before : ByteArray) : List Cla → Int
  | [] => 0
  | p :: r => if keyB p.1 = false then 5 else if leB p.1 before = true then 7 else if badUp p.2 = true then 5 else ckErr p.1 r
def CkRel (w : World) (l : List Cla) (v i : Value) (wr : World) : Prop :=
  ∃ (k : Nat) (b : ByteArray), k ≤ l.length ∧ i = .int .i64 k ∧ v = .string b ∧ ckErr ⟨#[]⟩ l = ckErr b (l.drop k) ∧ G w wr none
set_option maxRecDepth 100000 in
set_option maxHeartbeats 2000000 in
theorem checkClassKeys_c (v : Value) (l : List Cla) (w : World) (hr : Rd w 2 v l.length (clL l)) (hl : ClsOk l) (hn : l.length ≤ 1000) :
    Calls Tryd.prog 102 #[v] w fun e w' => e = .returned (.int .i64 (ckErr ⟨#[]⟩ l)) ∧ G w w' none := by
  obtain ⟨a, cap, rfl, hcap, hm, hlen, hnil, hcell⟩ := hr
  go_enter Tryd.func102, Tryd.ntmps102
  go_wp2_with fail
  go_loopw [3, 8] (CkRel w l) (fun _ i _ => l.length - (intOf i).toNat)
  case atStart => exact ⟨0, ⟨#[]⟩, by omega, rfl, rfl, rfl, G.refl _ _⟩
  case round =>
    obtain ⟨k, b, hkl, rfl, rfl, heq, hG⟩ := hrel
    have HE := Lib.hid heq
    clear heq
    by_cases hk : k < l.length
    · obtain ⟨p, hp⟩ : ∃ p, l[k]? = some p := ⟨_, List.getElem?_eq_getElem hk⟩
      have hdrop : l.drop k = p :: l.drop (k + 1) := by rw [List.drop_eq_getElem_cons hk, ← (List.getElem?_eq_some_iff.1 hp).2]
      have hpl := hl p (List.mem_of_getElem? hp)
      cases a with
      | none => have := (hnil rfl).1; omega
      | some ad =>
        obtain ⟨bb, bo, bs⟩ := ad
        obtain ⟨e1, e2, e3⟩ := hcell _ rfl
        dsimp only at e1 e2 e3
        subst e1
        have hrow : ∀ j v, (clC p).toList[j]? = some v → wr.cell? ((⟨bb, bo + k * 2, none⟩ : Addr).add j) = some v := by
          intro j v hv
          rw [add_at]
          have h1 := e3 (k * 2 + j) v (clL_at l k p hp j v hv)
          rw [← Nat.add_assoc] at h1
          exact ((gcell hG).1 bb _ e2).trans h1
        have HR := Lib.hid hrow
        clear hrow hcell e3 hnil
        have hs1 := hpl.1
        have hs2 := hpl.2
        unfold Small at hs1 hs2
        have HS : Hid (ckErr b (l.drop k) = if keyB p.1 = false then 5 else if leB p.1 b = true then 7 else if badUp p.2 = true then 5 else ckErr p.1 (l.drop (k + 1))) := Lib.hid (by rw [hdrop]; rfl)
        clear hdrop
        go_wp2_with (refine wpList_load_at rfl 80 _ rfl ⟨bb, bo + k * 2, none⟩ rfl #[.string p.1, .string p.2] _ HR.out Tryd.underlying80 rfl (cl_info p) ?_)
        refine (isKey_c _ _ hs1).mono ?_; rintro e w' ⟨rfl, rfl⟩
        cases hkb : keyB p.1 with
        | false =>
          have HF : Hid (ckErr ⟨#[]⟩ l = 5) := Lib.hid (by rw [HE.out, HS.out, if_pos hkb])
          clear hkb
          go_wp2_with fail
          go_ret
          exact ⟨by rw [HF.out]; rfl, hG.alloc _⟩
        | true =>
          cases hle : leB p.1 b with
          | true =>
            have HF : Hid (ckErr ⟨#[]⟩ l = 7) := Lib.hid (by rw [HE.out, HS.out, if_neg (by simp [hkb]), if_pos hle])
            unfold leB at hle
            clear hkb
            go_wp2_with fail
            go_ret
            exact ⟨by rw [HF.out]; rfl, hG.alloc _⟩
          | false =>
            have HL := Lib.hid hle
            have HK := Lib.hid hkb
            unfold leB at hle
            clear hkb
            have hbu : badUp p.2 = (!p.2.toList.isEmpty && !keyB p.2) := rfl
            cases hem : p.2.toList.isEmpty with
            | true =>
              have HF : Hid (ckErr ⟨#[]⟩ l = ckErr p.1 (l.drop (k + 1))) := Lib.hid (by rw [HE.out, HS.out, if_neg (by simp [HK.out]), if_neg (by simp [HL.out]), if_neg (by simp [hbu, hem])])
              clear hbu
              go_wp2_with fail
              go_roundw
              case rel => exact ⟨k + 1, p.1, by omega, by go_num, rfl, HF.out, hG.alloc _⟩
              case measure => simp [intOf]; omega
            | false =>
              cases hk2 : keyB p.2 with
              | false =>
                have HF : Hid (ckErr ⟨#[]⟩ l = 5) := Lib.hid (by rw [HE.out, HS.out, if_neg (by simp [HK.out]), if_neg (by simp [HL.out]), if_pos (by simp [hbu, hem, hk2])])
                have HK2 := Lib.hid hk2
                clear hbu hk2
                go_wp2_with fail
                refine (isKey_c _ _ hs2).mono ?_; rintro e w' ⟨rfl, rfl⟩
                rw [HK2.out]
                go_wp2_with fail
                go_ret
                exact ⟨by rw [HF.out]; rfl, hG.alloc _⟩
              | true =>
                have HF : Hid (ckErr ⟨#[]⟩ l = ckErr p.1 (l.drop (k + 1))) := Lib.hid (by rw [HE.out, HS.out, if_neg (by simp [HK.out]), if_neg (by simp [HL.out]), if_neg (by simp [hbu, hk2])])
                have HK2 := Lib.hid hk2
                clear hbu hk2
                go_wp2_with fail
                refine (isKey_c _ _ hs2).mono ?_; rintro e w' ⟨rfl, rfl⟩
                rw [HK2.out]
                go_wp2_with fail
                go_roundw
                case rel => exact ⟨k + 1, p.1, by omega, by go_num, rfl, HF.out, hG.alloc _⟩
                case measure => simp [intOf]; omega
    · obtain rfl : k = l.length := by omega
      have HE2 : Hid (ckErr ⟨#[]⟩ l = 0) := Lib.hid (by rw [HE.out, List.drop_length]; rfl)
      go_wp2_with fail
      go_ret
      exact ⟨by rw [HE2.out]; rfl, hG⟩
end Go.Proofs.YtbddcbbjmgepnaaDoor

/- Classes: upsOf, comesBack, CheckClasses. -/
namespace Go.Proofs.YtbddcbbjmgepnaaDoor
open Go.RowKit

/-- What a list of classes says of the class above. -/
def upS : List Cla → ByteArray → Option ByteArray
  | [], _ => none
  | p :: r, s => match upS r s with | some u => some u | none => if s = p.1 then some p.2 else none
def sv (o : ByteArray → Option ByteArray) : Fn := fun s => (o s).map Value.string
def eF : Fn := fun _ => none
def upF (f : Fn) : List Cla → Fn
  | [] => f
  | p :: r => upF (fput f p.1 (.string p.2)) r
def upC (c : Nat) (f : Fn) : List Cla → Nat
  | [] => c
  | p :: r => upC (cput c f p.1) (fput f p.1 (.string p.2)) r
theorem upS_cons (p : Cla) (r : List Cla) (s : ByteArray) : upS (p :: r) s = match upS r s with | some u => some u | none => if s = p.1 then some p.2 else none := rfl
theorem upF_eq (f : Fn) (l : List Cla) (s : ByteArray) : upF f l s = match upS l s with | some u => some (.string u) | none => f s := by
  induction l generalizing f with
  | nil => rfl
  | cons p r ih =>
    show upF (fput f p.1 (.string p.2)) r s = _
    rw [ih, upS_cons]
    cases h : upS r s with
    | some u => rfl
    | none =>
      simp only [fput]
      by_cases e : s = p.1
      · simp [e]
      · simp [e]
theorem upF_sv (l : List Cla) : upF eF l = sv (upS l) := by
  funext s
  rw [upF_eq]
  unfold sv eF
  cases upS l s <;> rfl
theorem upC_le (c : Nat) (f : Fn) (l : List Cla) : upC c f l ≤ c + l.length := by
  induction l generalizing c f with
  | nil => simp [upC]
  | cons p r ih =>
    have h1 := ih (cput c f p.1) (fput f p.1 (.string p.2))
    have h2 : cput c f p.1 ≤ c + 1 := by unfold cput; split <;> omega
    show upC (cput c f p.1) (fput f p.1 (.string p.2)) r ≤ _
    simp only [List.length_cons]
    omega
theorem upF_snoc (f : Fn) (l : List Cla) (p : Cla) : upF f (l ++ [p]) = fput (upF f l) p.1 (.string p.2) := by
  induction l generalizing f with
  | nil => rfl
  | cons q r ih => exact ih _
theorem upC_snoc (c : Nat) (f : Fn) (l : List Cla) (p : Cla) : upC c f (l ++ [p]) = cput (upC c f l) (upF f l) p.1 := by
  induction l generalizing c f with
  | nil => rfl
  | cons q r ih => exact ih _ _
abbrev MapOf (w : World) (b c : Nat) (f : Fn) : Prop := OwnM Tryd.prog 9 w b c f
theorem zs_run (w : World) : (zeroValue 9).run Tryd.prog w = .ok (.string ⟨#[]⟩) w := by kernel_rfl
def UpsPost (l : List Cla) (w : World) (e : Ending) (w' : World) : Prop := ∃ b : Nat, e = .returned (.map (some b)) ∧ w.heap.size ≤ b ∧ MapOf w' b (upC 0 eF l) (upF eF l) ∧ G w w' none
def UpsRel (w : World) (l : List Cla) (g : Nat) (i : Value) (wr : World) : Prop :=
  ∃ k : Nat, k ≤ l.length ∧ i = .int .i64 k ∧ MapOf wr g (upC 0 eF (l.take k)) (upF eF (l.take k)) ∧ G w wr none
theorem take_snoc' {α : Type} (l : List α) (k : Nat) (p : α) (h : l[k]? = some p) : l.take (k + 1) = l.take k ++ [p] := by
  have hk := (List.getElem?_eq_some_iff.1 h).1
  rw [List.take_succ_eq_append_getElem hk, (List.getElem?_eq_some_iff.1 h).2]
set_option maxRecDepth 100000 in
set_option maxHeartbeats 2000000 in
theorem upsOf_c (v : Value) (l : List Cla) (w : World) (hr : Rd w 2 v l.length (clL l)) (hl : ClsOk l) (hn : l.length ≤ 1000) :
    Calls Tryd.prog 103 #[v] w (UpsPost l w) := by
  obtain ⟨a, cap, rfl, hcap, hm, hlen, hnil, hcell⟩ := hr
  have hmm : ∀ (n : Nat) (w : World), (Instr.makeMap 149 (some (.int .i64 (n : Int)))).run Tryd.prog w = .ok (.map (some w.heap.size)) (w.alloc (.map #[] 0)) := fun _ _ => rfl
  go_enter Tryd.func103, Tryd.ntmps103
  go_wp2_with fail
  go_loopw [11] (UpsRel w l w.heap.size) (fun i _ => l.length - (intOf i).toNat)
  case atStart => exact ⟨0, by omega, rfl, OwnM.made _ _ _ rfl, (G.refl _ _).alloc _⟩
  case round =>
    obtain ⟨k, hkl, rfl, hM, hG⟩ := hrel
    by_cases hk : k < l.length
    · obtain ⟨p, hp⟩ : ∃ p, l[k]? = some p := ⟨_, List.getElem?_eq_getElem hk⟩
      have hpl := hl p (List.mem_of_getElem? hp)
      cases a with
      | none => have := (hnil rfl).1; omega
      | some ad =>
        obtain ⟨bb, bo, bs⟩ := ad
        obtain ⟨e1, e2, e3⟩ := hcell _ rfl
        dsimp only at e1 e2 e3
        subst e1
        have hrow : ∀ j v, (clC p).toList[j]? = some v → wr.cell? ((⟨bb, bo + k * 2, none⟩ : Addr).add j) = some v := by
          intro j v hv
          rw [add_at]
          have h1 := e3 (k * 2 + j) v (clL_at l k p hp j v hv)
          rw [← Nat.add_assoc] at h1
          exact ((gcell hG).1 bb _ e2).trans h1
        have HR := Lib.hid hrow
        clear hrow hcell e3 hnil
        have hs1 := hpl.1
        unfold Small at hs1
        have hcc := upC_le 0 eF (l.take k)
        have hct : (l.take k).length ≤ k := List.length_take_le _ _
        have HT : Hid (cput (upC 0 eF (l.take k)) (upF eF (l.take k)) p.1 = upC 0 eF (l.take (k + 1)) ∧ fput (upF eF (l.take k)) p.1 (.string p.2) = upF eF (l.take (k + 1))) := Lib.hid (by rw [take_snoc' l k p hp, upC_snoc, upF_snoc]; exact ⟨rfl, rfl⟩)
        have hclt : upC 0 eF (l.take k) < maxLen := by unfold maxLen; omega
        have hgl := hM.lt
        clear hp hcc hct
        go_wp2_with (first | (refine wpList_load_at rfl 80 _ rfl ⟨bb, bo + k * 2, none⟩ rfl #[.string p.1, .string p.2] _ HR.out Tryd.underlying80 rfl (cl_info p) ?_) | (at_mapUpdate; refine wpM_store rfl _ _ _ 149 rfl 9 9 Tryd.underlying9 Tryd.underlying149 w.heap.size _ _ rfl (hM.alloc _) hclt p.1 rfl hs1 (.string p.2) rfl ?_; intro w1 hM1 hG1))
        rw [HT.out.1, HT.out.2] at hM1
        refine ⟨⟨k + 1, by omega, by go_num, hM1, ?_⟩, by simp only [intOf]; omega⟩
        exact (hG.alloc _).other hG1 (fun j e => .inl (by obtain rfl := Option.some.inj e; exact Nat.le_refl _))
    · obtain rfl : k = l.length := by omega
      rw [List.take_length] at hM
      go_wp2_with fail
      go_ret
      exact ⟨_, rfl, Nat.le_refl _, hM, hG⟩
end Go.Proofs.YtbddcbbjmgepnaaDoor

/- Classes: comesBack, CheckClasses. -/
namespace Go.Proofs.YtbddcbbjmgepnaaDoor
open Go.RowKit

def eS : ByteArray := ⟨#[]⟩
abbrev Up := ByteArray → Option ByteArray
def UpOk (u : Up) : Prop := ∀ s t, u s = some t → Small t
theorem sv_getD (u : Up) (s : ByteArray) : (sv u s).getD (.string ⟨#[]⟩) = .string ((u s).getD eS) := by unfold sv eS; cases u s <;> rfl
theorem sv_isSome (u : Up) (s : ByteArray) : (sv u s).isSome = (u s).isSome := by unfold sv; cases u s <;> rfl
theorem Small.eS : Small eS := by show (0 : Nat) ≤ _; omega
theorem UpOk.get {u : Up} (h : UpOk u) (s : ByteArray) : Small ((u s).getD eS) := by
  cases hu : u s with
  | none => exact Small.eS
  | some t => exact h s t hu
theorem upS_ok {l : List Cla} (h : ClsOk l) : UpOk (upS l) := by
  induction l with
  | nil => intro s t e; cases e
  | cons p r ih =>
    intro s t e
    rw [upS_cons] at e
    cases hr : upS r s with
    | some v => rw [hr] at e; cases e; exact ih (fun q hq => h q (List.mem_cons_of_mem _ hq)) s _ hr
    | none =>
      rw [hr] at e
      dsimp only at e
      split at e
      · cases e; exact (h p (by simp)).2
      · cases e
section
variable {w : World} {ops : Array Oper} {rest : List Oper} {o : Oper} {a : Act} {Q : Exit → Act → World → Prop}
theorem wpS_look (hg : o.guard = none) (m x : Operand) (hop : o.op = Op.lookup 149 m x false) (b c : Nat) (u : Up) (hm : a.eval m = .map (some b)) (hown : MapOf w b c (sv u)) (s : ByteArray) (hx : a.eval x = .string s) (hs : Small s)
    (hK : wpList Tryd.prog ops Q rest (a.put o.dst (.string ((u s).getD eS))) w) : wpList Tryd.prog ops Q (o :: rest) a w :=
  wpM_look hg m x 149 hop 9 9 Tryd.underlying9 Tryd.underlying149 _ (zs_run w) b c _ hm hown s hx hs (by rw [sv_getD]; exact hK)
theorem wpS_look_ok (hg : o.guard = none) (m x : Operand) (hop : o.op = Op.lookup 149 m x true) (b c : Nat) (u : Up) (hm : a.eval m = .map (some b)) (hown : MapOf w b c (sv u)) (s : ByteArray) (hx : a.eval x = .string s) (hs : Small s)
    (hK : wpList Tryd.prog ops Q rest (a.put o.dst (.tuple #[.string ((u s).getD eS), .bool (u s).isSome])) w) : wpList Tryd.prog ops Q (o :: rest) a w :=
  wpM_look_ok hg m x 149 hop 9 9 Tryd.underlying9 Tryd.underlying149 _ (zs_run w) b c _ hm hown s hx hs (by rw [sv_getD, sv_isSome]; exact hK)
theorem wpS_len (hg : o.guard = none) (m : Operand) (hop : o.op = Op.call { callee := Callee.builtin Builtin.len, args := #[m], argTypes := #[149] }) (b c : Nat) (u : Up) (hm : a.eval m = .map (some b)) (hown : MapOf w b c (sv u))
    (hK : wpList Tryd.prog ops Q rest (a.put o.dst (.int .i64 c)) w) : wpList Tryd.prog ops Q (o :: rest) a w :=
  wpM_len hg m 149 hop 9 9 Tryd.underlying149 b c _ hm hown hK
end
def eqB (a b : ByteArray) : Bool := a.toList == b.toList
theorem eqB_iff {a b : ByteArray} : eqB a b = true ↔ a = b := by
  unfold eqB
  rw [beq_iff_eq]
  constructor
  · intro h
    apply Go.WideShapes.bytes_inj
    rw [ByteArray.toList_eq, ByteArray.toList_eq] at h
    exact h
  · intro h; rw [h]
/-- So many steps up come to the key. -/
def cbk (u : Up) (key : ByteArray) : Nat → ByteArray → Bool
  | 0, _ => false
  | n + 1, up => if eqB up key = true then true else cbk u key n ((u up).getD eS)
def cbB (u : Up) (c : Nat) (key : ByteArray) : Bool := cbk u key c ((u key).getD eS)
def CbRel (u : Up) (c : Nat) (key : ByteArray) (v i : Value) : Prop :=
  ∃ (k : Nat) (up : ByteArray), k ≤ c ∧ i = .int .i64 k ∧ v = .string up ∧ Small up ∧ cbB u c key = cbk u key (c - k) up
set_option maxRecDepth 100000 in
set_option maxHeartbeats 2000000 in
theorem comesBack_c (b c : Nat) (u : Up) (key : ByteArray) (w : World) (hM : MapOf w b c (sv u)) (hu : UpOk u) (hk : Small key) (hc : c ≤ 1000) :
    Calls Tryd.prog 104 #[.map (some b), .string key] w fun e w' => e = .returned (.bool (cbB u c key)) ∧ w = w' := by
  have hg0 := hu.get key
  go_enter Tryd.func104, Tryd.ntmps104
  go_wp2_with (first | (at_lookup; refine wpS_look rfl _ _ rfl b c u rfl hM key rfl hk ?_) | (at_len; refine wpS_len rfl _ rfl b c u rfl hM ?_))
  go_loop [5, 11] (CbRel u c key) (fun _ i => c - (intOf i).toNat)
  case atStart => exact ⟨0, _, by omega, rfl, rfl, hg0, rfl⟩
  case round =>
    clear hg0
    obtain ⟨k, up, hkc, rfl, rfl, hup, heq⟩ := hrel
    have HE := Lib.hid heq
    clear heq
    by_cases hlt : k < c
    · have HF : Hid (cbB u c key = if eqB up key = true then true else cbk u key (c - (k + 1)) ((u up).getD eS)) := Lib.hid (by rw [HE.out, show c - k = (c - (k + 1)) + 1 by omega]; rfl)
      cases he : eqB up key with
      | true =>
        have HN : Hid (cbB u c key = true) := Lib.hid (by rw [HF.out, if_pos he])
        unfold eqB at he
        go_wp2_with fail
        go_ret
        exact ⟨ret_bool HN.out.symm, rfl⟩
      | false =>
        have HN : Hid (cbB u c key = cbk u key (c - (k + 1)) ((u up).getD eS)) := Lib.hid (by rw [HF.out, if_neg (by simp [he])])
        unfold eqB at he
        have hg1 := hu.get up
        go_wp2_with (at_lookup; refine wpS_look rfl _ _ rfl b c u rfl hM up rfl hup ?_)
        go_round
        case rel => exact ⟨k + 1, _, by omega, by go_num, rfl, hg1, HN.out⟩
        case measure => simp [intOf]; omega
    · obtain rfl : k = c := by omega
      have HN : Hid (cbB u k key = false) := Lib.hid (by rw [HE.out, Nat.sub_self]; rfl)
      go_wp2_with fail
      go_ret
      exact ⟨ret_bool HN.out.symm, rfl⟩

/-! ### CheckClasses -/
def badKnown (u : Up) (p : Cla) : Bool := !p.2.toList.isEmpty && !(u p.2).isSome
def clTail (u : Up) (c : Nat) (l : List Cla) : Int := if l.any (badKnown u) = true then 8 else if l.any (fun p => cbB u c p.1) = true then 14 else 0
def clErr (l : List Cla) : Int :=
  if 30 < l.length then 2 else if ckErr ⟨#[]⟩ l = 0 then clTail (upS l) (upC 0 eF l) l else ckErr ⟨#[]⟩ l
def C1Rel (w : World) (l : List Cla) (u : Up) (c g : Nat) (i : Value) (wr : World) : Prop :=
  ∃ k : Nat, k ≤ l.length ∧ i = .int .i64 k ∧ (l.take k).any (badKnown u) = false ∧ MapOf wr g c (sv u) ∧ G w wr none
def C2Rel (w : World) (l : List Cla) (u : Up) (c g : Nat) (i : Value) (wr : World) : Prop :=
  ∃ k : Nat, k ≤ l.length ∧ i = .int .i64 k ∧ (l.take k).any (fun p => cbB u c p.1) = false ∧ MapOf wr g c (sv u) ∧ G w wr none
theorem any_of_at {α : Type} (q : α → Bool) (l : List α) (k : Nat) (p : α) (hp : l[k]? = some p) (hq : q p = true) : l.any q = true := List.any_eq_true.2 ⟨p, List.mem_of_getElem? hp, hq⟩
set_option maxRecDepth 100000 in
set_option maxHeartbeats 4000000 in
theorem checkClasses_c (v : Value) (l : List Cla) (w : World) (hr : Rd w 2 v l.length (clL l)) (hl : ClsOk l) (hn : l.length ≤ 1000) :
    Calls Tryd.prog 89 #[v] w fun e w' => e = .returned (.int .i64 (clErr l)) ∧ G w w' none := by
  by_cases h30 : 30 < l.length
  · have H := Lib.hid (show clErr l = 2 by simp [clErr, h30])
    obtain ⟨a, cap, rfl, hcap, hm, hlen, hnil, hcell⟩ := hr
    go_enter Tryd.func89, Tryd.ntmps89
    go_wp2_with fail
    go_ret
    exact ⟨by rw [H.out]; rfl, G.refl _ _⟩
  · by_cases hck : ckErr ⟨#[]⟩ l = 0
    · have H := Lib.hid (show clErr l = clTail (upS l) (upC 0 eF l) l by simp [clErr, h30, hck])
      have HCK := Lib.hid hck
      clear hck
      have HR := Lib.hid hr
      obtain ⟨a, cap, rfl, hcap, hm, hlen, hnil, hcell⟩ := hr
      have hcc := upC_le 0 eF l
      have HU := Lib.hid (upS_ok hl)
      go_enter Tryd.func89, Tryd.ntmps89
      go_wp2_with fail
      refine (checkClassKeys_c _ l _ HR.out hl hn).mono ?_; rintro e w1 ⟨rfl, hG1⟩
      rw [HCK.out]
      go_wp2_with fail
      refine (upsOf_c _ l _ (HR.out.quiet hG1) hl hn).mono ?_; rintro e w2 ⟨b, rfl, hb, hM, hG2⟩
      rw [upF_sv] at hM
      have hG := hG1.trans hG2
      clear hG1 hG2 hb
      generalize upS l = u at hM HU H
      generalize upC 0 eF l = c at hM hcc H
      go_wp2_with fail
      go_loopw [23] (C1Rel w l u c b) (fun i _ => l.length - (intOf i).toNat)
      case atStart => exact ⟨0, by omega, rfl, rfl, hM, hG⟩
      case round =>
        clear hM hG
        obtain ⟨k, hkl, rfl, hany, hM, hG⟩ := hrel
        have HA := Lib.hid hany
        clear hany
        by_cases hk : k < l.length
        · obtain ⟨p, hp⟩ : ∃ p, l[k]? = some p := ⟨_, List.getElem?_eq_getElem hk⟩
          have hpl := hl p (List.mem_of_getElem? hp)
          cases a with
          | none => have := (hnil rfl).1; omega
          | some ad =>
            obtain ⟨bb, bo, bs⟩ := ad
            obtain ⟨e1, e2, e3⟩ := hcell _ rfl
            dsimp only at e1 e2 e3
            subst e1
            have hrow : ∀ j v, (clC p).toList[j]? = some v → wr.cell? ((⟨bb, bo + k * 2, none⟩ : Addr).add j) = some v := by
              intro j v hv
              rw [add_at]
              have h1 := e3 (k * 2 + j) v (clL_at l k p hp j v hv)
              rw [← Nat.add_assoc] at h1
              exact ((gcell hG).1 bb _ e2).trans h1
            have HW := Lib.hid hrow
            clear hrow hcell e3 hnil
            have hs2 := hpl.2
            have HP := Lib.hid hp
            clear hp
            have hbk : badKnown u p = (!p.2.toList.isEmpty && !(u p.2).isSome) := rfl
            have HB := Lib.hid hbk
            clear hbk
            have hM' := hM.alloc (.cells #[.string p.1, .string p.2] 80)
            cases hem : p.2.toList.isEmpty with
            | true =>
              have HN : Hid ((l.take (k + 1)).any (badKnown u) = false) := Lib.hid (by rw [take_snoc' l k p HP.out, List.any_append, HA.out, List.any_cons, HB.out, hem]; rfl)
              go_wp2_with (first | (refine wpList_load_at rfl 80 _ rfl ⟨bb, bo + k * 2, none⟩ rfl #[.string p.1, .string p.2] _ HW.out Tryd.underlying80 rfl (cl_info p) ?_) | (at_lookup; refine wpS_look_ok rfl _ _ rfl b c u rfl hM' p.2 rfl hs2 ?_))
              go_roundw
              case rel => exact ⟨k + 1, by omega, by go_num, HN.out, hM', hG.alloc _⟩
              case measure => simp [intOf]; omega
            | false =>
              cases hso : (u p.2).isSome with
              | true =>
                have HN : Hid ((l.take (k + 1)).any (badKnown u) = false) := Lib.hid (by rw [take_snoc' l k p HP.out, List.any_append, HA.out, List.any_cons, HB.out, hso, hem]; rfl)
                go_wp2_with (first | (refine wpList_load_at rfl 80 _ rfl ⟨bb, bo + k * 2, none⟩ rfl #[.string p.1, .string p.2] _ HW.out Tryd.underlying80 rfl (cl_info p) ?_) | (at_lookup; refine wpS_look_ok rfl _ _ rfl b c u rfl hM' p.2 rfl hs2 ?_))
                go_roundw
                case rel => exact ⟨k + 1, by omega, by go_num, HN.out, hM', hG.alloc _⟩
                case measure => simp [intOf]; omega
              | false =>
                have HN : Hid (clErr l = 8) := Lib.hid (by rw [H.out, clTail, if_pos (any_of_at _ l k p HP.out (by rw [HB.out, hso, hem]; rfl))])
                go_wp2_with (first | (refine wpList_load_at rfl 80 _ rfl ⟨bb, bo + k * 2, none⟩ rfl #[.string p.1, .string p.2] _ HW.out Tryd.underlying80 rfl (cl_info p) ?_) | (at_lookup; refine wpS_look_ok rfl _ _ rfl b c u rfl hM' p.2 rfl hs2 ?_))
                go_ret
                exact ⟨ret_int HN.out.symm, hG.alloc _⟩
        · obtain rfl : k = l.length := by omega
          rw [List.take_length] at HA
          have HH : Hid (clErr l = if l.any (fun p => cbB u c p.1) = true then 14 else 0) := Lib.hid (by rw [H.out, clTail, if_neg (by simp [HA.out])])
          clear hk hkl
          go_wp2_with fail
          go_loopw [44] (C2Rel w l u c b) (fun i _ => l.length - (intOf i).toNat)
          case atStart => exact ⟨0, by omega, rfl, rfl, hM, hG⟩
          case round =>
            clear hM hG HA
            obtain ⟨k, hkl, rfl, hany, hM, hG⟩ := hrel
            have HA := Lib.hid hany
            clear hany
            by_cases hk : k < l.length
            · obtain ⟨p, hp⟩ : ∃ p, l[k]? = some p := ⟨_, List.getElem?_eq_getElem hk⟩
              have hpl := hl p (List.mem_of_getElem? hp)
              cases a with
              | none => have := (hnil rfl).1; omega
              | some ad =>
                obtain ⟨bb, bo, bs⟩ := ad
                obtain ⟨e1, e2, e3⟩ := hcell _ rfl
                dsimp only at e1 e2 e3
                subst e1
                have hrow : ∀ j v, (clC p).toList[j]? = some v → wr.cell? ((⟨bb, bo + k * 2, none⟩ : Addr).add j) = some v := by
                  intro j v hv
                  rw [add_at]
                  have h1 := e3 (k * 2 + j) v (clL_at l k p hp j v hv)
                  rw [← Nat.add_assoc] at h1
                  exact ((gcell hG).1 bb _ e2).trans h1
                have HW := Lib.hid hrow
                clear hrow hcell e3 hnil
                have hs1 := hpl.1
                have HP := Lib.hid hp
                clear hp
                have hM' := hM.alloc (.cells #[.string p.1, .string p.2] 80)
                go_wp2_with (refine wpList_load_at rfl 80 _ rfl ⟨bb, bo + k * 2, none⟩ rfl #[.string p.1, .string p.2] _ HW.out Tryd.underlying80 rfl (cl_info p) ?_)
                refine (comesBack_c b c u p.1 _ hM' HU.out hs1 (by omega)).mono ?_; rintro e w3 ⟨rfl, rfl⟩
                cases hcb : cbB u c p.1 with
                | true =>
                  have HN : Hid (clErr l = 14) := Lib.hid (by rw [HH.out, if_pos (any_of_at _ l k p HP.out hcb)])
                  clear hcb
                  go_wp2_with fail
                  go_ret
                  exact ⟨ret_int HN.out.symm, hG.alloc _⟩
                | false =>
                  have HN : Hid ((l.take (k + 1)).any (fun p => cbB u c p.1) = false) := Lib.hid (by rw [take_snoc' l k p HP.out, List.any_append, HA.out, List.any_cons, hcb]; rfl)
                  clear hcb
                  go_wp2_with fail
                  go_roundw
                  case rel => exact ⟨k + 1, by omega, by go_num, HN.out, hM', hG.alloc _⟩
                  case measure => simp [intOf]; omega
            · obtain rfl : k = l.length := by omega
              rw [List.take_length] at HA
              have HN : Hid (clErr l = 0) := Lib.hid (by rw [HH.out, if_neg (by simp [HA.out])])
              go_wp2_with fail
              go_ret
              exact ⟨ret_int HN.out.symm, hG⟩
    · have H := Lib.hid (show clErr l = ckErr ⟨#[]⟩ l by simp [clErr, h30, hck])
      have h1 : (ckErr ⟨#[]⟩ l != 0) = true := by rw [bne_iff_ne]; exact hck
      clear hck
      have HR := Lib.hid hr
      obtain ⟨a, cap, rfl, hcap, hm, hlen, hnil, hcell⟩ := hr
      go_enter Tryd.func89, Tryd.ntmps89
      go_wp2_with fail
      refine (checkClassKeys_c _ l _ HR.out hl hn).mono ?_; rintro e w1 ⟨rfl, hG1⟩
      go_wp2_with fail
      go_ret
      exact ⟨ret_int H.out.symm, hG1⟩
end Go.Proofs.YtbddcbbjmgepnaaDoor

/- The order of strings: what strings.Compare says, and what '<=' says. No program but strings.Compare's contract. -/
namespace Go.Proofs.YtbddcbbjmgepnaaDoor
open Go.RowKit Go.Shelf

abbrev cL := Lib.compareBytes
theorem cL_self (a : List UInt8) : cL a a = 0 := by
  induction a with
  | nil => rfl
  | cons x a ih => show (if x < x then (-1 : Int) else if x < x then 1 else cL a a) = 0; simp [ih]
theorem u8_tri (x y : UInt8) : x < y ∨ x = y ∨ y < x := by
  rcases Nat.lt_trichotomy x.toNat y.toNat with h | h | h
  · exact .inl (UInt8.lt_iff_toNat_lt.2 h)
  · exact .inr (.inl (UInt8.toNat_inj.1 h))
  · exact .inr (.inr (UInt8.lt_iff_toNat_lt.2 h))
theorem u8_asym {x y : UInt8} (h : x < y) : ¬ y < x := by rw [UInt8.lt_iff_toNat_lt] at h ⊢; omega
theorem u8_trans {x y z : UInt8} (h : x < y) (k : y < z) : x < z := by rw [UInt8.lt_iff_toNat_lt] at h k ⊢; omega
theorem cL_cons (x y : UInt8) (a b : List UInt8) : cL (x :: a) (y :: b) = if x < y then -1 else if y < x then 1 else cL a b := rfl
theorem cL_range (a b : List UInt8) : cL a b = -1 ∨ cL a b = 0 ∨ cL a b = 1 := by
  induction a generalizing b with
  | nil => cases b with
    | nil => exact .inr (.inl rfl)
    | cons _ _ => exact .inl rfl
  | cons x a ih => cases b with
    | nil => exact .inr (.inr rfl)
    | cons y b =>
      rw [cL_cons]
      split
      · exact .inl rfl
      · split
        · exact .inr (.inr rfl)
        · exact ih b
theorem cL_eq {a b : List UInt8} (h : cL a b = 0) : a = b := by
  induction a generalizing b with
  | nil => cases b with
    | nil => rfl
    | cons _ _ => cases (show (-1 : Int) = 0 from h)
  | cons x a ih => cases b with
    | nil => cases (show (1 : Int) = 0 from h)
    | cons y b =>
      rw [cL_cons] at h
      rcases u8_tri x y with h1 | rfl | h1
      · rw [if_pos h1] at h; omega
      · rw [if_neg (fun q => u8_asym q q), if_neg (fun q => u8_asym q q)] at h
        rw [ih h]
      · rw [if_neg (u8_asym h1), if_pos h1] at h; omega
theorem cL_neg (a b : List UInt8) : cL b a = - cL a b := by
  induction a generalizing b with
  | nil => cases b <;> rfl
  | cons x a ih => cases b with
    | nil => rfl
    | cons y b =>
      rw [cL_cons, cL_cons]
      rcases u8_tri x y with h1 | rfl | h1
      · rw [if_neg (u8_asym h1), if_pos h1, if_pos h1]; rfl
      · rw [if_neg (fun q => u8_asym q q), if_neg (fun q => u8_asym q q), if_neg (fun q => u8_asym q q), if_neg (fun q => u8_asym q q)]; exact ih b
      · rw [if_pos h1, if_neg (u8_asym h1), if_pos h1]
theorem cL_trans {a b c : List UInt8} (h : cL a b < 0) (k : cL b c < 0) : cL a c < 0 := by
  induction a generalizing b c with
  | nil => cases c with
    | nil => cases b with
      | nil => exact h
      | cons _ _ => have : (1 : Int) < 0 := k; omega
    | cons _ _ => show (-1 : Int) < 0; omega
  | cons x a ih => cases b with
    | nil => have : (1 : Int) < 0 := h; omega
    | cons y b => cases c with
      | nil => have : (1 : Int) < 0 := k; omega
      | cons z c =>
        rw [cL_cons] at h k ⊢
        rcases u8_tri x y with h1 | rfl | h1
        · rcases u8_tri y z with h2 | rfl | h2
          · rw [if_pos (u8_trans h1 h2)]; omega
          · rw [if_pos h1]; omega
          · rw [if_neg (u8_asym h2), if_pos h2] at k; omega
        · rw [if_neg (fun q => u8_asym q q), if_neg (fun q => u8_asym q q)] at h
          rcases u8_tri x z with h2 | rfl | h2
          · rw [if_pos h2]; omega
          · rw [if_neg (fun q => u8_asym q q), if_neg (fun q => u8_asym q q)] at k ⊢
            exact ih h k
          · rw [if_neg (u8_asym h2), if_pos h2] at k; omega
        · rw [if_neg (u8_asym h1), if_pos h1] at h; omega
theorem less_cL (a b : List UInt8) : Op.bytesLess a b = decide (cL a b < 0) := by
  induction a generalizing b with
  | nil => cases b <;> rfl
  | cons x a ih => cases b with
    | nil => rfl
    | cons y b =>
      rw [cL_cons]
      unfold Op.bytesLess
      rcases u8_tri x y with h1 | rfl | h1
      · simp [h1]
      · simp [ih]
      · have h2 := u8_asym h1
        have h3 : x ≠ y := fun e => by rw [e] at h1; exact u8_asym h1 h1
        simp [h1, h2, h3]

/-- What strings.Compare returns. -/
def cmpI (a b : ByteArray) : Int := cL a.data.toList b.data.toList
theorem compare_c (a b : ByteArray) (w : World) : Calls Tryd.prog 83 #[.string a, .string b] w fun e w' => e = .returned (.int .i64 (cmpI a b)) ∧ w = w' :=
  (Any.strings_Compare Tryd.lays106 a b w).mono fun _ _ ⟨h1, h2⟩ => ⟨h1, h2.symm⟩
theorem cmpI_eq {a b : ByteArray} : cmpI a b = 0 ↔ a = b := by
  constructor
  · intro h
    exact Go.WideShapes.bytes_inj (cL_eq h)
  · intro h; rw [h]; exact cL_self _
theorem cmpI_neg (a b : ByteArray) : cmpI b a = - cmpI a b := cL_neg _ _
theorem cmpI_trans {a b c : ByteArray} (h : cmpI a b < 0) (k : cmpI b c < 0) : cmpI a c < 0 := cL_trans h k
theorem cmpI_range (a b : ByteArray) : cmpI a b = -1 ∨ cmpI a b = 0 ∨ cmpI a b = 1 := cL_range _ _
theorem leB_cmp (a b : ByteArray) : leB a b = decide (cmpI a b ≤ 0) := by
  unfold leB cmpI
  rw [less_cL, ByteArray.toList_eq, ByteArray.toList_eq]
  rcases cL_range a.data.toList b.data.toList with h | h | h
  · rw [h]; rfl
  · rw [h, cL_eq h]; simp
  · have : a.data.toList ≠ b.data.toList := fun e => by rw [e, cL_self] at h; omega
    rw [h, beq_eq_false_iff_ne.2 this]; rfl
theorem eqB_cmp (a b : ByteArray) : eqB a b = decide (cmpI a b = 0) := by
  rw [Bool.eq_iff_iff, eqB_iff, decide_eq_true_iff]
  exact cmpI_eq.symm
/-- Rising. -/
def Rise (l : List ByteArray) : Prop := l.Pairwise (fun a b => cmpI a b < 0)
def hasK (l : List ByteArray) (t : ByteArray) : Bool := l.any fun s => eqB s t
theorem hasK_iff {l : List ByteArray} {t : ByteArray} : hasK l t = true ↔ t ∈ l := by
  unfold hasK
  rw [List.any_eq_true]
  constructor
  · rintro ⟨s, hs, he⟩
    rw [eqB_iff] at he
    exact he ▸ hs
  · intro h
    exact ⟨t, h, eqB_iff.2 rfl⟩
theorem ck_rise (b : ByteArray) (l : List Cla) (h : ckErr b l = 0) : Rise (l.map (·.1)) ∧ ∀ p ∈ l, cmpI b p.1 < 0 := by
  induction l generalizing b with
  | nil => exact ⟨List.Pairwise.nil, fun p hp => by cases hp⟩
  | cons p r ih =>
    unfold ckErr at h
    split at h
    · omega
    · split at h
      · omega
      · rename_i hle
        split at h
        · omega
        · obtain ⟨i1, i2⟩ := ih p.1 h
          have hb : cmpI b p.1 < 0 := by
            rw [leB_cmp] at hle
            have h1 := cmpI_neg p.1 b
            simp at hle
            omega
          refine ⟨List.pairwise_cons.2 ⟨fun s hs => ?_, i1⟩, fun q hq => ?_⟩
          · obtain ⟨q, hq, rfl⟩ := List.mem_map.1 hs
            exact i2 q hq
          · rcases List.mem_cons.1 hq with rfl | hq
            · exact hb
            · exact cmpI_trans hb (i2 q hq)
theorem sta_rise (b : ByteArray) (l : List Sta) (h : staErr b l = 0) : Rise (l.map (·.1)) ∧ ∀ p ∈ l, cmpI b p.1 < 0 := by
  induction l generalizing b with
  | nil => exact ⟨List.Pairwise.nil, fun p hp => by cases hp⟩
  | cons p r ih =>
    unfold staErr at h
    split at h
    · omega
    · split at h
      · omega
      · rename_i hle
        split at h
        · omega
        · obtain ⟨i1, i2⟩ := ih p.1 h
          have hb : cmpI b p.1 < 0 := by
            rw [leB_cmp] at hle
            have h1 := cmpI_neg p.1 b
            simp at hle
            omega
          refine ⟨List.pairwise_cons.2 ⟨fun s hs => ?_, i1⟩, fun q hq => ?_⟩
          · obtain ⟨q, hq, rfl⟩ := List.mem_map.1 hs
            exact i2 q hq
          · rcases List.mem_cons.1 hq with rfl | hq
            · exact hb
            · exact cmpI_trans hb (i2 q hq)
/-- The binary search's end: all below 'i' are less, none from 'i' on is. -/
theorem bs_found (l : List ByteArray) (t : ByteArray) (hr : Rise l) (i : Nat) (hi : i ≤ l.length) (h1 : ∀ (j : Nat) (s : ByteArray), j < i → l[j]? = some s → cmpI s t < 0) (h2 : ∀ (j : Nat) (s : ByteArray), i ≤ j → l[j]? = some s → 0 ≤ cmpI s t) :
    hasK l t = (match l[i]? with | some s => decide (cmpI s t = 0) | none => false) := by
  cases hs : l[i]? with
  | none =>
    rw [← Bool.not_eq_true, hasK_iff]
    intro hm
    obtain ⟨j, hj⟩ := List.getElem?_of_mem hm
    have hjl := (List.getElem?_eq_some_iff.1 hj).1
    have hil := List.getElem?_eq_none_iff.1 hs
    have := h1 j t (by omega) hj
    rw [cmpI_eq.2 rfl] at this
    omega
  | some s =>
    rw [Bool.eq_iff_iff, hasK_iff, decide_eq_true_iff]
    constructor
    · intro hm
      obtain ⟨j, hj⟩ := List.getElem?_of_mem hm
      by_cases hji : j < i
      · have := h1 j t hji hj
        rw [cmpI_eq.2 rfl] at this
        omega
      · by_cases e : j = i
        · subst e
          rw [hs] at hj
          obtain rfl := Option.some.inj hj
          exact cmpI_eq.2 rfl
        · have h3 := h2 i s (Nat.le_refl _) hs
          have h4 : cmpI s t < 0 := by
            have hjl := (List.getElem?_eq_some_iff.1 hj)
            have hil := (List.getElem?_eq_some_iff.1 hs)
            have := List.pairwise_iff_getElem.1 hr i j hil.1 hjl.1 (by omega)
            rw [hil.2, hjl.2] at this
            exact this
          omega
    · intro h
      rw [cmpI_eq] at h
      subst h
      exact List.mem_of_getElem? hs
end Go.Proofs.YtbddcbbjmgepnaaDoor

/- basic.IsTime, basic.IsMoment. -/
namespace Go.Proofs.YtbddcbbjmgepnaaDoor
open Go.RowKit

theorem wi_info (a b : Int) : (Tryd.prog.info? 27).map (·.size) = some #[Value.int .i64 a, .int .i64 b].size := (by kernel_rfl : (Tryd.prog.info? 27).map (·.size) = some 2)
theorem wi_one (a b : Int) : #[Value.int .i64 a, .int .i64 b].all (·.oneCell') = true := by simp [Value.oneCell']
def timB (a z : Int) : Bool := decide (0 ≤ a) && (decide (a < z) && decide (z < 5761440))
theorem timB_iff (a z : Int) : timB a z = true ↔ 0 ≤ a ∧ a < z ∧ z < 5761440 := by unfold timB; simp
theorem timB_yes {a z : Int} (h : 0 ≤ a ∧ a < z ∧ z < 5761440) : timB a z = true := (timB_iff a z).2 h
theorem timB_no {a z : Int} (h : ¬ (0 ≤ a ∧ a < z ∧ z < 5761440)) : timB a z = false := by
  cases hb : timB a z with
  | false => rfl
  | true => exact absurd ((timB_iff a z).1 hb) h
set_option maxRecDepth 100000 in
set_option maxHeartbeats 1000000 in
theorem isTime_c (a z : Int) (w : World) : Calls Tryd.prog 59 #[.agg #[.int .i64 a, .int .i64 z]] w fun e w' => e = .returned (.bool (timB a z)) ∧ G w w' none := by
  have hG : G w (w.alloc (.cells #[.int .i64 a, .int .i64 z] 27)) none := (G.refl w none).alloc _
  rcases (show a < 0 ∨ (0 ≤ a ∧ z ≤ a) ∨ (0 ≤ a ∧ a < z ∧ 5761440 ≤ z) ∨ (0 ≤ a ∧ a < z ∧ z < 5761440) by omega) with h1 | ⟨h1, h2⟩ | ⟨h1, h2, h3⟩ | ⟨h1, h2, h3⟩
  · have HF : Hid (timB a z = false) := Lib.hid (timB_no (by omega))
    go_enter Tryd.func59, Tryd.ntmps59
    go_wp2_with fail
    go_ret
    exact ⟨ret_bool HF.out.symm, hG⟩
  · have HF : Hid (timB a z = false) := Lib.hid (timB_no (by omega))
    go_enter Tryd.func59, Tryd.ntmps59
    go_wp2_with fail
    go_ret
    exact ⟨ret_bool HF.out.symm, hG⟩
  · have HF : Hid (timB a z = false) := Lib.hid (timB_no (by omega))
    have h4 : ¬ z < 5761440 := by omega
    go_enter Tryd.func59, Tryd.ntmps59
    go_wp2_with fail
    go_ret
    exact ⟨ret_bool (by rw [HF.out] <;> exact decide_eq_false h4), hG⟩
  · have HF : Hid (timB a z = true) := Lib.hid (timB_yes ⟨h1, h2, h3⟩)
    go_enter Tryd.func59, Tryd.ntmps59
    go_wp2_with fail
    go_ret
    exact ⟨ret_bool (by rw [HF.out] <;> exact decide_eq_true h3), hG⟩
end Go.Proofs.YtbddcbbjmgepnaaDoor

/- Bookings: checkForm; the reference's BookingForm. -/
namespace Go.Proofs.YtbddcbbjmgepnaaDoor
open Go.RowKit

/-- A booking: key, class, from, to, made, percent. -/
abbrev Bo := ByteArray × ByteArray × Int × Int × Int × Int
def boC (x : Bo) : Array Value := #[.string x.1, .string x.2.1, .int .i64 x.2.2.1, .int .i64 x.2.2.2.1, .int .i64 x.2.2.2.2.1, .int .i64 x.2.2.2.2.2]
theorem boC_sz (x : Bo) : (boC x).size = 6 := rfl
theorem bo_info (x : Bo) : (Tryd.prog.info? 96).map (·.size) = some (boC x).size := (by kernel_rfl : (Tryd.prog.info? 96).map (·.size) = some 6)
def boB (x : Bo) : Prop := Small x.1 ∧ Small x.2.1 ∧ bnd x.2.2.1 ∧ bnd x.2.2.2.1 ∧ bnd x.2.2.2.2.1 ∧ bnd x.2.2.2.2.2
def BoOk (l : List Bo) : Prop := ∀ x ∈ l, boB x
def boT (a z m p : Int) : Bool := timB a z && (inB m 0 a && inB p 0 100)
def boErr (b : ByteArray) : List Bo → Int
  | [] => 0
  | x :: r => if keyB x.1 = false then 5 else if keyB x.2.1 = false then 5 else if leB x.1 b = true then 7 else if boT x.2.2.1 x.2.2.2.1 x.2.2.2.2.1 x.2.2.2.2.2 = false then 1 else boErr x.1 r
def boE (l : List Bo) : Int := if 500 < l.length then 2 else boErr ⟨#[]⟩ l
def BoRel (w : World) (l : List Bo) (v i : Value) (wr : World) : Prop :=
  ∃ (k : Nat) (b : ByteArray), k ≤ l.length ∧ i = .int .i64 k ∧ v = .string b ∧ boErr ⟨#[]⟩ l = boErr b (l.drop k) ∧ G w wr none
theorem boRow {W w : World} {bb bo n cap : Nat} {l : List Bo} (h : RdR W 6 boC (.slice (some ⟨bb, bo, none⟩) n cap) l) (hG : G W w none) {k : Nat} {p : Bo} (hp : l[k]? = some p) :
    ∀ j v, (boC p).toList[j]? = some v → w.cell? ((⟨bb, bo + k * 6, none⟩ : Addr).add j) = some v := fun j v hv => by
  rw [add_at]
  exact RdR.cell boC_sz h hG hp j v hv
theorem boTime {w : World} {g : Nat} {T : TypeId} {p : Bo} (h : Bk w g T (boC p)) : ∀ j v, (#[Value.int .i64 p.2.2.1, .int .i64 p.2.2.2.1] : Array Value).toList[j]? = some v → w.cell? ((⟨g, 2, none⟩ : Addr).add j) = some v := fun j v hv => by
  rw [add_at, h.cell]
  match j, hv with
  | 0, hv => exact hv
  | 1, hv => exact hv
  | n + 2, hv => simp at hv
set_option maxRecDepth 100000 in
set_option maxHeartbeats 4000000 in
theorem checkForm_c (v : Value) (l : List Bo) (w : World) (hr : RdR w 6 boC v l) (hl : BoOk l) (hn : l.length ≤ 1000) :
    Calls Tryd.prog 63 #[v] w fun e w' => e = .returned (.int .i64 (boE l)) ∧ G w w' none := by
  have HR := Lib.hid hr
  obtain ⟨a, cap, rfl, hcap, hm⟩ := RdR.form hr
  clear hr
  by_cases h30 : 500 < l.length
  · have H := Lib.hid (show boE l = 2 by simp [boE, h30])
    go_enter Tryd.func63, Tryd.ntmps63
    go_wp2_with fail
    go_ret
    exact ⟨by rw [H.out]; rfl, G.refl _ _⟩
  · have H := Lib.hid (show boE l = boErr ⟨#[]⟩ l by simp [boE, h30])
    go_enter Tryd.func63, Tryd.ntmps63
    go_wp2_with fail
    go_loopw [3, 11] (BoRel w l) (fun _ i _ => l.length - (intOf i).toNat)
    case atStart => exact ⟨0, ⟨#[]⟩, by omega, rfl, rfl, rfl, G.refl _ _⟩
    case round =>
      obtain ⟨k, b, hkl, rfl, rfl, heq, hG⟩ := hrel
      have HE := Lib.hid heq
      clear heq
      by_cases hk : k < l.length
      · obtain ⟨p, hp⟩ : ∃ p, l[k]? = some p := ⟨_, List.getElem?_eq_getElem hk⟩
        have hdrop : l.drop k = p :: l.drop (k + 1) := by rw [List.drop_eq_getElem_cons hk, ← (List.getElem?_eq_some_iff.1 hp).2]
        have hpl := hl p (List.mem_of_getElem? hp)
        obtain ⟨bb, bo, rfl, hbb, _⟩ := RdR.elem boC_sz HR.out hG hp
        have HW := Lib.hid (boRow HR.out hG hp)
        have hs1 := hpl.1
        have hs2 := hpl.2.1
        unfold Small at hs1 hs2
        have HS : Hid (boErr b (l.drop k) = if keyB p.1 = false then 5 else if keyB p.2.1 = false then 5 else if leB p.1 b = true then 7 else if boT p.2.2.1 p.2.2.2.1 p.2.2.2.2.1 p.2.2.2.2.2 = false then 1 else boErr p.1 (l.drop (k + 1))) := Lib.hid (by rw [hdrop]; rfl)
        have hB5 := Bk.new wr 96 (boC p)
        have hG5 := hG.alloc (.cells (boC p) 96)
        clear hdrop hp hpl hG
        go_wp2_with (refine wpList_load_at rfl 96 _ rfl ⟨bb, bo + k * 6, none⟩ rfl #[.string p.1, .string p.2.1, .int .i64 p.2.2.1, .int .i64 p.2.2.2.1, .int .i64 p.2.2.2.2.1, .int .i64 p.2.2.2.2.2] _ HW.out Tryd.underlying96 rfl (bo_info p) ?_)
        have hB5 : Bk (wr.alloc (.cells #[.string p.1, .string p.2.1, .int .i64 p.2.2.1, .int .i64 p.2.2.2.1, .int .i64 p.2.2.2.2.1, .int .i64 p.2.2.2.2.2] 96)) wr.heap.size 96 (boC p) := hB5
        have hG5 : G w (wr.alloc (.cells #[.string p.1, .string p.2.1, .int .i64 p.2.2.1, .int .i64 p.2.2.2.1, .int .i64 p.2.2.2.2.1, .int .i64 p.2.2.2.2.2] 96)) none := hG5
        have hg5 := hB5.lt
        generalize wr.alloc (.cells #[.string p.1, .string p.2.1, .int .i64 p.2.2.1, .int .i64 p.2.2.2.1, .int .i64 p.2.2.2.2.1, .int .i64 p.2.2.2.2.2] 96) = w5 at hB5 hG5 hg5 ⊢
        generalize wr.heap.size = g at hB5 hg5 ⊢
        refine (isKey_c _ _ hs1).mono ?_; rintro e w1 ⟨rfl, rfl⟩
        have c0 : World.cell? w5 ⟨g, 0, none⟩ = some (.string p.1) := hB5.cell 0
        have c1 : World.cell? w5 ⟨g, 1, none⟩ = some (.string p.2.1) := hB5.cell 1
        have c2 : World.cell? w5 ⟨g, 2, none⟩ = some (.int .i64 p.2.2.1) := hB5.cell 2
        have c3 : World.cell? w5 ⟨g, 3, none⟩ = some (.int .i64 p.2.2.2.1) := hB5.cell 3
        have c4 : World.cell? w5 ⟨g, 4, none⟩ = some (.int .i64 p.2.2.2.2.1) := hB5.cell 4
        have c5 : World.cell? w5 ⟨g, 5, none⟩ = some (.int .i64 p.2.2.2.2.2) := hB5.cell 5
        cases hkb : keyB p.1 with
        | false =>
          have HF : Hid (boE l = 5) := Lib.hid (by rw [H.out, HE.out, HS.out, if_pos hkb])
          clear hkb
          go_wp2_with fail
          go_ret
          exact ⟨by rw [HF.out]; rfl, hG5⟩
        | true =>
          have HK := Lib.hid hkb
          clear hkb
          go_wp2_with fail
          refine (isKey_c _ _ hs2).mono ?_; rintro e w1 ⟨rfl, rfl⟩
          cases hkb : keyB p.2.1 with
          | false =>
            have HF : Hid (boE l = 5) := Lib.hid (by rw [H.out, HE.out, HS.out, if_neg (by simp [HK.out]), if_pos hkb])
            clear hkb
            go_wp2_with fail
            go_ret
            exact ⟨by rw [HF.out]; rfl, hG5⟩
          | true =>
            have HK2 := Lib.hid hkb
            clear hkb
            cases hle : leB p.1 b with
            | true =>
              have HF : Hid (boE l = 7) := Lib.hid (by rw [H.out, HE.out, HS.out, if_neg (by simp [HK.out]), if_neg (by simp [HK2.out]), if_pos hle])
              unfold leB at hle
              go_wp2_with fail
              go_ret
              exact ⟨by rw [HF.out]; rfl, hG5⟩
            | false =>
              have HS2 : Hid (boErr ⟨#[]⟩ l = if boT p.2.2.1 p.2.2.2.1 p.2.2.2.2.1 p.2.2.2.2.2 = false then 1 else boErr p.1 (l.drop (k + 1))) := Lib.hid (by rw [HE.out, HS.out, if_neg (by simp [HK.out]), if_neg (by simp [HK2.out]), if_neg (by simp [hle])])
              unfold leB at hle
              clear HS HE
              have HT := Lib.hid (boTime hB5)
              go_wp2_with (refine wpList_load_at rfl 27 _ rfl ⟨g, 2, none⟩ rfl #[.int .i64 p.2.2.1, .int .i64 p.2.2.2.1] _ HT.out Tryd.underlying27 rfl (wi_info _ _) ?_)
              refine (isTime_c _ _ _).mono ?_; rintro e w2 ⟨rfl, hG2⟩
              have hB5 := hB5.quiet hG2
              have hG5 := hG5.trans hG2
              clear hG2 HT c0 c1 c2 c3 c4 c5
              have c0 : w2.cell? ⟨g, 0, none⟩ = some (.string p.1) := hB5.cell 0
              have c1 : w2.cell? ⟨g, 1, none⟩ = some (.string p.2.1) := hB5.cell 1
              have c2 : w2.cell? ⟨g, 2, none⟩ = some (.int .i64 p.2.2.1) := hB5.cell 2
              have c3 : w2.cell? ⟨g, 3, none⟩ = some (.int .i64 p.2.2.2.1) := hB5.cell 3
              have c4 : w2.cell? ⟨g, 4, none⟩ = some (.int .i64 p.2.2.2.2.1) := hB5.cell 4
              have c5 : w2.cell? ⟨g, 5, none⟩ = some (.int .i64 p.2.2.2.2.2) := hB5.cell 5
              cases ht : timB p.2.2.1 p.2.2.2.1 with
              | false =>
                have HF : Hid (boE l = 1) := Lib.hid (by rw [H.out, HS2.out, if_pos (by simp [boT, ht])])
                go_wp2_with fail
                go_ret
                exact ⟨by rw [HF.out]; rfl, hG5⟩
              | true =>
                have HTB := Lib.hid ht
                clear ht
                go_wp2_with fail
                refine (within_c _ _ _ _).mono ?_; rintro e w' ⟨rfl, rfl⟩
                cases hm1 : inB p.2.2.2.2.1 0 p.2.2.1 with
                | false =>
                  have HF : Hid (boE l = 1) := Lib.hid (by rw [H.out, HS2.out, if_pos (by simp [boT, hm1])])
                  go_wp2_with fail
                  go_ret
                  exact ⟨by rw [HF.out]; rfl, hG5⟩
                | true =>
                  have HM := Lib.hid hm1
                  clear hm1
                  go_wp2_with fail
                  refine (within_c _ _ _ _).mono ?_; rintro e w' ⟨rfl, rfl⟩
                  cases hp1 : inB p.2.2.2.2.2 0 100 with
                  | false =>
                    have HF : Hid (boE l = 1) := Lib.hid (by rw [H.out, HS2.out, if_pos (by simp [boT, hp1])])
                    go_wp2_with fail
                    go_ret
                    exact ⟨by rw [HF.out]; rfl, hG5⟩
                  | true =>
                    have HF : Hid (boErr ⟨#[]⟩ l = boErr p.1 (l.drop (k + 1))) := Lib.hid (by rw [HS2.out, if_neg (by simp [boT, HTB.out, HM.out, hp1])])
                    clear hp1
                    go_wp2_with fail
                    go_roundw
                    case rel => exact ⟨k + 1, p.1, by omega, by go_num, rfl, HF.out, hG5⟩
                    case measure => simp [intOf]; omega
      · obtain rfl : k = l.length := by omega
        have HE2 : Hid (boE l = 0) := Lib.hid (by rw [H.out, HE.out, List.drop_length]; rfl)
        go_wp2_with fail
        go_ret
        exact ⟨by rw [HE2.out]; rfl, hG⟩
set_option maxRecDepth 100000 in
set_option maxHeartbeats 4000000 in
theorem bookingForm_c (v : Value) (l : List Bo) (w : World) (hr : RdR w 6 boC v l) (hl : BoOk l) (hn : l.length ≤ 1000) :
    Calls Tryd.prog 24 #[v] w fun e w' => e = .returned (.int .i64 (boE l)) ∧ G w w' none := by
  have HR := Lib.hid hr
  obtain ⟨a, cap, rfl, hcap, hm⟩ := RdR.form hr
  clear hr
  by_cases h30 : 500 < l.length
  · have H := Lib.hid (show boE l = 2 by simp [boE, h30])
    go_enter Tryd.func24, Tryd.ntmps24
    go_wp2_with fail
    go_ret
    exact ⟨by rw [H.out]; rfl, G.refl _ _⟩
  · have H := Lib.hid (show boE l = boErr ⟨#[]⟩ l by simp [boE, h30])
    go_enter Tryd.func24, Tryd.ntmps24
    go_wp2_with fail
    go_loopw [3, 11] (BoRel w l) (fun _ i _ => l.length - (intOf i).toNat)
    case atStart => exact ⟨0, ⟨#[]⟩, by omega, rfl, rfl, rfl, G.refl _ _⟩
    case round =>
      obtain ⟨k, b, hkl, rfl, rfl, heq, hG⟩ := hrel
      have HE := Lib.hid heq
      clear heq
      by_cases hk : k < l.length
      · obtain ⟨p, hp⟩ : ∃ p, l[k]? = some p := ⟨_, List.getElem?_eq_getElem hk⟩
        have hdrop : l.drop k = p :: l.drop (k + 1) := by rw [List.drop_eq_getElem_cons hk, ← (List.getElem?_eq_some_iff.1 hp).2]
        have hpl := hl p (List.mem_of_getElem? hp)
        obtain ⟨bb, bo, rfl, hbb, _⟩ := RdR.elem boC_sz HR.out hG hp
        have HW := Lib.hid (boRow HR.out hG hp)
        have hs1 := hpl.1
        have hs2 := hpl.2.1
        unfold Small at hs1 hs2
        have HS : Hid (boErr b (l.drop k) = if keyB p.1 = false then 5 else if keyB p.2.1 = false then 5 else if leB p.1 b = true then 7 else if boT p.2.2.1 p.2.2.2.1 p.2.2.2.2.1 p.2.2.2.2.2 = false then 1 else boErr p.1 (l.drop (k + 1))) := Lib.hid (by rw [hdrop]; rfl)
        have hB5 := Bk.new wr 96 (boC p)
        have hG5 := hG.alloc (.cells (boC p) 96)
        clear hdrop hp hpl hG
        go_wp2_with (refine wpList_load_at rfl 96 _ rfl ⟨bb, bo + k * 6, none⟩ rfl #[.string p.1, .string p.2.1, .int .i64 p.2.2.1, .int .i64 p.2.2.2.1, .int .i64 p.2.2.2.2.1, .int .i64 p.2.2.2.2.2] _ HW.out Tryd.underlying96 rfl (bo_info p) ?_)
        have hB5 : Bk (wr.alloc (.cells #[.string p.1, .string p.2.1, .int .i64 p.2.2.1, .int .i64 p.2.2.2.1, .int .i64 p.2.2.2.2.1, .int .i64 p.2.2.2.2.2] 96)) wr.heap.size 96 (boC p) := hB5
        have hG5 : G w (wr.alloc (.cells #[.string p.1, .string p.2.1, .int .i64 p.2.2.1, .int .i64 p.2.2.2.1, .int .i64 p.2.2.2.2.1, .int .i64 p.2.2.2.2.2] 96)) none := hG5
        have hg5 := hB5.lt
        generalize wr.alloc (.cells #[.string p.1, .string p.2.1, .int .i64 p.2.2.1, .int .i64 p.2.2.2.1, .int .i64 p.2.2.2.2.1, .int .i64 p.2.2.2.2.2] 96) = w5 at hB5 hG5 hg5 ⊢
        generalize wr.heap.size = g at hB5 hg5 ⊢
        refine (rkey_c _ _ hs1).mono ?_; rintro e w1 ⟨rfl, hG1⟩
        have hB5 := hB5.quiet hG1
        have hG5 := hG5.trans hG1
        clear hG1
        have c0 : World.cell? w1 ⟨g, 0, none⟩ = some (.string p.1) := hB5.cell 0
        have c1 : World.cell? w1 ⟨g, 1, none⟩ = some (.string p.2.1) := hB5.cell 1
        have c2 : World.cell? w1 ⟨g, 2, none⟩ = some (.int .i64 p.2.2.1) := hB5.cell 2
        have c3 : World.cell? w1 ⟨g, 3, none⟩ = some (.int .i64 p.2.2.2.1) := hB5.cell 3
        have c4 : World.cell? w1 ⟨g, 4, none⟩ = some (.int .i64 p.2.2.2.2.1) := hB5.cell 4
        have c5 : World.cell? w1 ⟨g, 5, none⟩ = some (.int .i64 p.2.2.2.2.2) := hB5.cell 5
        cases hkb : keyB p.1 with
        | false =>
          have HF : Hid (boE l = 5) := Lib.hid (by rw [H.out, HE.out, HS.out, if_pos hkb])
          clear hkb
          go_wp2_with fail
          go_ret
          exact ⟨by rw [HF.out]; rfl, hG5⟩
        | true =>
          have HK := Lib.hid hkb
          clear hkb
          go_wp2_with fail
          refine (rkey_c _ _ hs2).mono ?_; rintro e w1 ⟨rfl, hG1⟩
          have hB5 := hB5.quiet hG1
          have hG5 := hG5.trans hG1
          clear hG1
          clear c0 c1 c2 c3 c4 c5
          have c0 : w1.cell? ⟨g, 0, none⟩ = some (.string p.1) := hB5.cell 0
          have c1 : w1.cell? ⟨g, 1, none⟩ = some (.string p.2.1) := hB5.cell 1
          have c2 : w1.cell? ⟨g, 2, none⟩ = some (.int .i64 p.2.2.1) := hB5.cell 2
          have c3 : w1.cell? ⟨g, 3, none⟩ = some (.int .i64 p.2.2.2.1) := hB5.cell 3
          have c4 : w1.cell? ⟨g, 4, none⟩ = some (.int .i64 p.2.2.2.2.1) := hB5.cell 4
          have c5 : w1.cell? ⟨g, 5, none⟩ = some (.int .i64 p.2.2.2.2.2) := hB5.cell 5
          cases hkb : keyB p.2.1 with
          | false =>
            have HF : Hid (boE l = 5) := Lib.hid (by rw [H.out, HE.out, HS.out, if_neg (by simp [HK.out]), if_pos hkb])
            clear hkb
            go_wp2_with fail
            go_ret
            exact ⟨by rw [HF.out]; rfl, hG5⟩
          | true =>
            have HK2 := Lib.hid hkb
            clear hkb
            cases hle : leB p.1 b with
            | true =>
              have HF : Hid (boE l = 7) := Lib.hid (by rw [H.out, HE.out, HS.out, if_neg (by simp [HK.out]), if_neg (by simp [HK2.out]), if_pos hle])
              unfold leB at hle
              go_wp2_with fail
              go_ret
              exact ⟨by rw [HF.out]; rfl, hG5⟩
            | false =>
              have HS2 : Hid (boErr ⟨#[]⟩ l = if boT p.2.2.1 p.2.2.2.1 p.2.2.2.2.1 p.2.2.2.2.2 = false then 1 else boErr p.1 (l.drop (k + 1))) := Lib.hid (by rw [HE.out, HS.out, if_neg (by simp [HK.out]), if_neg (by simp [HK2.out]), if_neg (by simp [hle])])
              unfold leB at hle
              clear HS HE
              rcases (show p.2.2.1 < 0 ∨ (0 ≤ p.2.2.1 ∧ p.2.2.2.1 ≤ p.2.2.1) ∨ (0 ≤ p.2.2.1 ∧ p.2.2.1 < p.2.2.2.1 ∧ 5761439 < p.2.2.2.1) ∨ (0 ≤ p.2.2.1 ∧ p.2.2.1 < p.2.2.2.1 ∧ p.2.2.2.1 ≤ 5761439) by omega) with t1 | ⟨t1, t2⟩ | ⟨t1, t2, t3⟩ | ⟨t1, t2, t3⟩
              · have HF : Hid (boE l = 1) := Lib.hid (by rw [H.out, HS2.out, if_pos (by rw [boT, timB_no (by omega)]; rfl)])
                go_wp2_with fail
                go_ret
                exact ⟨by rw [HF.out]; rfl, hG5⟩
              · have HF : Hid (boE l = 1) := Lib.hid (by rw [H.out, HS2.out, if_pos (by rw [boT, timB_no (by omega)]; rfl)])
                go_wp2_with fail
                go_ret
                exact ⟨by rw [HF.out]; rfl, hG5⟩
              · have HF : Hid (boE l = 1) := Lib.hid (by rw [H.out, HS2.out, if_pos (by rw [boT, timB_no (by omega)]; rfl)])
                go_wp2_with fail
                go_ret
                exact ⟨by rw [HF.out]; rfl, hG5⟩
              · have HTB := Lib.hid (timB_yes ⟨t1, t2, show p.2.2.2.1 < 5761440 by omega⟩)
                go_wp2_with fail
                refine (in_c _ _ _ _).mono ?_; rintro e w' ⟨rfl, rfl⟩
                cases hm1 : inB p.2.2.2.2.1 0 p.2.2.1 with
                | false =>
                  have HF : Hid (boE l = 1) := Lib.hid (by rw [H.out, HS2.out, if_pos (by simp [boT, hm1])])
                  go_wp2_with fail
                  go_ret
                  exact ⟨by rw [HF.out]; rfl, hG5⟩
                | true =>
                  have HM := Lib.hid hm1
                  clear hm1
                  go_wp2_with fail
                  refine (in_c _ _ _ _).mono ?_; rintro e w' ⟨rfl, rfl⟩
                  cases hp1 : inB p.2.2.2.2.2 0 100 with
                  | false =>
                    have HF : Hid (boE l = 1) := Lib.hid (by rw [H.out, HS2.out, if_pos (by simp [boT, hp1])])
                    go_wp2_with fail
                    go_ret
                    exact ⟨by rw [HF.out]; rfl, hG5⟩
                  | true =>
                    have HF : Hid (boErr ⟨#[]⟩ l = boErr p.1 (l.drop (k + 1))) := Lib.hid (by rw [HS2.out, if_neg (by simp [boT, HTB.out, HM.out, hp1])])
                    clear hp1
                    go_wp2_with fail
                    go_roundw
                    case rel => exact ⟨k + 1, p.1, by omega, by go_num, rfl, HF.out, hG5⟩
                    case measure => simp [intOf]; omega
      · obtain rfl : k = l.length := by omega
        have HE2 : Hid (boE l = 0) := Lib.hid (by rw [H.out, HE.out, List.drop_length]; rfl)
        go_wp2_with fail
        go_ret
        exact ⟨by rw [HE2.out]; rfl, hG⟩
end Go.Proofs.YtbddcbbjmgepnaaDoor

/- Extras: CheckExtras, its reference, ExtraCost, its reference. -/
namespace Go.Proofs.YtbddcbbjmgepnaaDoor
open Go.RowKit

/-- An extra: its key, Once, Day, Most. -/
abbrev Ext := ByteArray × Int × Int × Int
def exC (x : Ext) : Array Value := #[.string x.1, .int .i64 x.2.1, .int .i64 x.2.2.1, .int .i64 x.2.2.2]
theorem exC_sz (x : Ext) : (exC x).size = 4 := rfl
def ExOk (l : List Ext) : Prop := ∀ x ∈ l, Small x.1 ∧ bnd x.2.1 ∧ bnd x.2.2.1 ∧ bnd x.2.2.2
def exBad (x : Ext) : Bool := !inB x.2.1 0 1000000 || (!inB x.2.2.1 0 1000000 || !inB x.2.2.2 (-1) 1000000)
def exErr (b : ByteArray) : List Ext → Int
  | [] => 0
  | x :: r => if keyB x.1 = false then 5 else if leB x.1 b = true then 7 else if exBad x = true then 1 else exErr x.1 r
def exE (l : List Ext) : Int := if 30 < l.length then 2 else exErr ⟨#[]⟩ l
def ExRel (w : World) (l : List Ext) (v i : Value) (wr : World) : Prop :=
  ∃ (k : Nat) (b : ByteArray), k ≤ l.length ∧ i = .int .i64 k ∧ v = .string b ∧ exErr ⟨#[]⟩ l = exErr b (l.drop k) ∧ G w wr none
end Go.Proofs.YtbddcbbjmgepnaaDoor

/- Fees: CheckFees, its reference. -/
namespace Go.Proofs.YtbddcbbjmgepnaaDoor
open Go.RowKit

/-- A fee: from, to, cents. -/
abbrev Fe := ByteArray × ByteArray × Int
def feC (x : Fe) : Array Value := #[.string x.1, .string x.2.1, .int .i64 x.2.2]
theorem feC_sz (x : Fe) : (feC x).size = 3 := rfl
def FeOk (l : List Fe) : Prop := ∀ x ∈ l, Small x.1 ∧ Small x.2.1 ∧ bnd x.2.2
/-- The first that is not 0. -/
def orI (x y : Int) : Int := if x = 0 then y else x
def cmpF (x y : Fe) : Int := orI (cmpI x.1 y.1) (cmpI x.2.1 y.2.1)
set_option maxRecDepth 100000 in
set_option maxHeartbeats 1000000 in
theorem or2_c (x y : Int) (g : Nat) (w : World) (hB : Bk w g 3 #[.int .i64 x, .int .i64 y]) :
    Calls Tryd.prog 93 #[.slice (some ⟨g, 0, none⟩) 2 2] w fun e w' => e = .returned (.int .i64 (orI x y)) ∧ w = w' := by
  have hc0 := hB.cell 0
  have hc1 := hB.cell 1
  rw [show (#[Value.int .i64 x, .int .i64 y] : Array Value)[0]? = some (.int .i64 x) from rfl] at hc0
  rw [show (#[Value.int .i64 x, .int .i64 y] : Array Value)[1]? = some (.int .i64 y) from rfl] at hc1
  clear hB
  by_cases hx : x = 0
  · rw [orI, if_pos hx]
    subst hx
    by_cases hy : y = 0
    · subst hy
      go_enter Tryd.func93, Tryd.ntmps93
      go_wp2_with fail
      refine wp_loop_rounds 3 ?_
      rw [rounds_succ]
      go_wp2_with fail
      rw [rounds_succ]
      go_wp2_with fail
      rw [rounds_succ]
      go_wp2_with fail
      go_ret
      exact ⟨rfl, rfl⟩
    · have hy' : (y != 0) = true := by rw [bne_iff_ne]; exact hy
      clear hy
      go_enter Tryd.func93, Tryd.ntmps93
      go_wp2_with fail
      refine wp_loop_rounds 3 ?_
      rw [rounds_succ]
      go_wp2_with fail
      rw [rounds_succ]
      go_wp2_with fail
      go_ret
      exact ⟨rfl, rfl⟩
  · rw [orI, if_neg hx]
    have hx' : (x != 0) = true := by rw [bne_iff_ne]; exact hx
    clear hx
    go_enter Tryd.func93, Tryd.ntmps93
    go_wp2_with fail
    refine wp_loop_rounds 3 ?_
    rw [rounds_succ]
    go_wp2_with fail
    go_ret
    exact ⟨rfl, rfl⟩
def feAfter (b : Option Fe) (x : Fe) : Bool := match b with | none => false | some y => decide (0 ≤ cmpF y x)
def feErr : Option Fe → List Fe → Int
  | _, [] => 0
  | b, x :: r => if keyB x.1 = false then 5 else if keyB x.2.1 = false then 5 else if eqB x.1 x.2.1 = true then 14 else if feAfter b x = true then 7 else if inB x.2.2 0 1000000 = false then 1 else feErr (some x) r
def feE (l : List Fe) : Int := if 500 < l.length then 2 else feErr none l
def prevAt {α : Type} (l : List α) (k : Nat) : Option α := if k = 0 then none else l[k - 1]?
theorem prevAt_succ {α : Type} (l : List α) (k : Nat) (p : α) (h : l[k]? = some p) : prevAt l (k + 1) = some p := by
  unfold prevAt
  rw [if_neg (by omega), Nat.add_sub_cancel, h]
def FeRel (w : World) (l : List Fe) (i : Value) (wr : World) : Prop :=
  ∃ k : Nat, k ≤ l.length ∧ i = .int .i64 k ∧ feErr none l = feErr (prevAt l k) (l.drop k) ∧ G w wr none
end Go.Proofs.YtbddcbbjmgepnaaDoor

/- Tiers: CheckTiers; the reference's TiersFault. -/
namespace Go.Proofs.YtbddcbbjmgepnaaDoor
open Go.RowKit

/-- A tier: before, permille. -/
abbrev Ti := Int × Int
def tiC (x : Ti) : Array Value := #[.int .i64 x.1, .int .i64 x.2]
theorem tiC_sz (x : Ti) : (tiC x).size = 2 := rfl
def TiOk (l : List Ti) : Prop := ∀ x ∈ l, bnd x.1 ∧ bnd x.2
def tiAfter (b : Option Ti) (x : Ti) : Bool := match b with | none => false | some y => decide (y.1 ≤ x.1) || decide (x.2 < y.2)
def tiErr : Option Ti → List Ti → Int
  | _, [] => 0
  | b, x :: r => if inB x.1 1 5761440 = false then 1 else if inB x.2 0 1000 = false then 1 else if tiAfter b x = true then 7 else tiErr (some x) r
def tiE (l : List Ti) : Int := if 10 < l.length then 2 else tiErr none l
def TiRel (w : World) (l : List Ti) (i : Value) (wr : World) : Prop :=
  ∃ k : Nat, k ≤ l.length ∧ i = .int .i64 k ∧ tiErr none l = tiErr (prevAt l k) (l.drop k) ∧ G w wr none
theorem tiRow {W w : World} {bb bo n cap : Nat} {l : List Ti} (h : RdR W 2 tiC (.slice (some ⟨bb, bo, none⟩) n cap) l) (hG : G W w none) {k : Nat} {p : Ti} (hp : l[k]? = some p) :
    ∀ j v, (tiC p).toList[j]? = some v → w.cell? ((⟨bb, bo + k * 2, none⟩ : Addr).add j) = some v := fun j v hv => by
  rw [add_at]
  exact RdR.cell tiC_sz h hG hp j v hv
end Go.Proofs.YtbddcbbjmgepnaaDoor

/- What was picked; a block as a row; 'when' at literals. -/
namespace Go.Proofs.YtbddcbbjmgepnaaDoor
open Go.RowKit

theorem small_of {s : ByteArray} (h : s.size ≤ 100) : Small s := by unfold Small; omega
theorem bnd_pick {zs : List Int} {r : Int} (h : r ∈ zs) (hz : zs.all (fun z => decide (-1099511627776 ≤ z ∧ z ≤ 1099511627776)) = true) : bnd r := by
  unfold bnd
  exact of_decide_eq_true (List.all_eq_true.1 hz r h)
theorem small_pick {zs : List ByteArray} {r : ByteArray} (h : r ∈ zs) (hz : zs.all (fun z => decide (z.size ≤ 100)) = true) : Small r := small_of (of_decide_eq_true (List.all_eq_true.1 hz r h))
theorem Bk.rd {w : World} {g : Nat} {T : TypeId} {cs : Array Value} (h : Bk w g T cs) (z n : Nat) (hc : cs.size = n * z) (hn : n ≤ 1000) : Rd w z (.slice (some ⟨g, 0, none⟩) n n) n cs.toList := by
  refine ⟨_, n, rfl, Nat.le_refl _, by unfold maxLen; omega, by simpa using hc, (fun e => by cases e), fun b hb => ?_⟩
  obtain rfl := Option.some.inj hb
  refine ⟨rfl, h.lt, fun j u hj => ?_⟩
  rw [Nat.zero_add, h.cell]
  simpa using hj
theorem when_t (n : Int) (w : World) : Calls Tryd.prog 16 #[.bool true, .int .i64 n] w fun e w' => e = .returned (.int .i64 n) ∧ w = w' := by simpa using when_c true n w
theorem when_f (n : Int) (w : World) : Calls Tryd.prog 16 #[.bool false, .int .i64 n] w fun e w' => e = .returned (.int .i64 0) ∧ w = w' := by simpa using when_c false n w
end Go.Proofs.YtbddcbbjmgepnaaDoor

/- CancelFee; the reference's CancelOf. -/
namespace Go.Proofs.YtbddcbbjmgepnaaDoor
open Go.RowKit

/-- The permille of the last tier that is meant. -/
def cnS (d a : Int) (x : Ti) : Int := if d < x.1 then x.2 else a
def cnP (l : List Ti) (d : Int) : Int := l.foldl (cnS d) 0
theorem cnP_succ {l : List Ti} {k : Nat} {p : Ti} (d : Int) (hp : l[k]? = some p) : cnP (l.take (k + 1)) d = cnS d (cnP (l.take k) d) p := by
  have hk : k < l.length := (List.getElem?_eq_some_iff.1 hp).1
  have e : l.take (k + 1) = l.take k ++ [p] := by
    rw [List.take_succ_eq_append_getElem hk, (List.getElem?_eq_some_iff.1 hp).2]
  unfold cnP
  rw [e, List.foldl_append]
  rfl
theorem cnP_rng {l : List Ti} (h : ∀ x ∈ l, 0 ≤ x.2 ∧ x.2 ≤ 1000) (d : Int) : 0 ≤ cnP l d ∧ cnP l d ≤ 1000 := by
  have : ∀ (r : List Ti) (a : Int), (∀ x ∈ r, 0 ≤ x.2 ∧ x.2 ≤ 1000) → 0 ≤ a ∧ a ≤ 1000 → 0 ≤ r.foldl (cnS d) a ∧ r.foldl (cnS d) a ≤ 1000 := by
    intro r
    induction r with
    | nil => intro a _ ha; exact ha
    | cons x r ih =>
      intro a hx ha
      refine ih _ (fun y hy => hx y (List.mem_cons_of_mem _ hy)) ?_
      unfold cnS
      split
      · exact hx x (List.mem_cons_self ..)
      · exact ha
  exact this l 0 h (by omega)
theorem tiErr_ok {l : List Ti} : ∀ {b : Option Ti}, tiErr b l = 0 → ∀ x ∈ l, 0 ≤ x.2 ∧ x.2 ≤ 1000 := by
  induction l with
  | nil => intro b _ x hx; cases hx
  | cons y r ih =>
    intro b h
    unfold tiErr at h
    split at h
    · exact absurd h (by decide)
    · split at h
      · exact absurd h (by decide)
      · rename_i h2
        split at h
        · exact absurd h (by decide)
        · intro x hx
          rcases List.mem_cons.1 hx with rfl | hx
          · simp only [inB, Bool.not_eq_false, Bool.and_eq_true, decide_eq_true_eq] at h2
            omega
          · exact ih h x hx
theorem tiE_ok {l : List Ti} (h : tiE l = 0) : ∀ x ∈ l, 0 ≤ x.2 ∧ x.2 ≤ 1000 := by
  unfold tiE at h
  split at h
  · exact absurd h (by decide)
  · exact tiErr_ok h
theorem boE_ok {b : Bo} (h : boE [b] = 0) : 0 ≤ b.2.2.1 ∧ b.2.2.1 < 5761440 := by
  have h1 : boErr ⟨#[]⟩ [b] = 0 := h
  unfold boErr at h1
  split at h1
  · exact absurd h1 (by decide)
  · split at h1
    · exact absurd h1 (by decide)
    · split at h1
      · exact absurd h1 (by decide)
      · split at h1
        · exact absurd h1 (by decide)
        · rename_i h2
          simp only [boT, Bool.not_eq_false, Bool.and_eq_true] at h2
          have := (timB_iff _ _).1 h2.1
          omega
theorem one_len (b : Bo) : ([b] : List Bo).length ≤ 1000 := by simp
theorem RdR.one {w : World} {g : Nat} {b : Bo} (h : Bk w g 96 (boC b)) : RdR w 6 boC (.slice (some ⟨g, 0, none⟩) 1 1) [b] := h.rd 6 1 rfl (by omega)
theorem BoOk.one {b : Bo} (h : boB b) : BoOk [b] := fun x hx => by
  obtain rfl := List.mem_singleton.1 hx
  exact h
def cfE (l : List Ti) (b : Bo) (c t : Int) : Int := if tiE l = 0 then (if boE [b] = 0 then (if inB c 0 1000000000 = false then 1 else if momB t = false then 1 else 0) else boE [b]) else tiE l
def cfN (l : List Ti) (b : Bo) (c t : Int) : Int := if cfE l b c t = 0 then c * cnP l (b.2.2.1 - t) / 1000 else 0
def CfRel (w : World) (l : List Ti) (d : Int) (g : Nat) (b : Bo) (s i : Value) (wr : World) : Prop :=
  ∃ k : Nat, k ≤ l.length ∧ i = .int .i64 k ∧ s = .int .i64 (cnP (l.take k) d) ∧ Bk wr g 96 (boC b) ∧ G w wr none
def CcoRel (w : World) (l : List Ti) (d c : Int) (g : Nat) (b : Bo) (s i : Value) (wr : World) : Prop :=
  ∃ k : Nat, k ≤ l.length ∧ i = .int .i64 k ∧ s = .int .i64 (c * cnP (l.take k) d / 1000) ∧ Bk wr g 96 (boC b) ∧ G w wr none
end Go.Proofs.YtbddcbbjmgepnaaDoor

/- basic.Lowest. -/
namespace Go.Proofs.YtbddcbbjmgepnaaDoor
open Go.RowKit

def frC (a b : Int) : Array Value := #[.int .i64 a, .int .i64 b]
theorem fr_info (a b : Int) : (Tryd.prog.info? 61).map (·.size) = some (frC a b).size := (by kernel_rfl : (Tryd.prog.info? 61).map (·.size) = some 2)
theorem fr_one (a b : Int) : (frC a b).all (·.oneCell') = true := by simp [frC, Value.oneCell']
theorem quo_wrap (n a q : Nat) (hn : n ≤ 1000000000000000000) (hq : n / a = q) : IntKind.i64.wrap ((n : Int) / (a : Int)) = (q : Int) := by
  have h2 : q ≤ n := by rw [← hq]; exact Nat.div_le_self n a
  have h1 : (n : Int) / (a : Int) = (q : Int) := by rw [← hq]; rfl
  rw [h1, IntKind.wrap_i64]
  omega
def LowRel (n d : Nat) (s5 s6 : Value) (w wr : World) : Prop :=
  ∃ a b : Nat, s5 = .int .i64 a ∧ s6 = .int .i64 b ∧ Nat.gcd a b = Nat.gcd d n ∧ a ≤ 1000000000000000000 ∧ b ≤ 1000000000000000000 ∧ 0 < a ∧ Bk wr w.heap.size 61 (frC 0 0) ∧ G w wr none
set_option maxRecDepth 100000 in
set_option maxHeartbeats 2000000 in
theorem lowest_c (n d : Nat) (w : World) (hn : n ≤ 1000000000000000000) (hd : d ≤ 1000000000000000000) (h0 : 0 < d) :
    Calls Tryd.prog 49 #[.int .i64 n, .int .i64 d] w fun e w' => e = .returned (.agg (frC (n / Nat.gcd d n : Nat) (d / Nat.gcd d n : Nat))) ∧ G w w' none := by
  go_enter Tryd.func49, Tryd.ntmps49
  go_wp2_with fail
  go_loopw [5, 6] (fun s5 s6 wr => LowRel n d s5 s6 w wr) (fun _ i _ => (intOf i).toNat)
  case atStart => exact ⟨d, n, rfl, rfl, rfl, hd, hn, h0, Bk.new w _ _, (G.refl _ _).alloc _⟩
  case round =>
    obtain ⟨a, b, rfl, rfl, hg, ha, hb, a0, hB, hG⟩ := hrel
    have HG := Lib.hid hg
    clear hg
    by_cases hb0 : b = 0
    · subst hb0
      have hag : a = Nat.gcd d n := by rw [← HG.out]; simp
      have HA := Lib.hid hag
      clear hag
      obtain ⟨q1, hq1⟩ : ∃ q, n / a = q := ⟨_, rfl⟩
      obtain ⟨q2, hq2⟩ : ∃ q, d / a = q := ⟨_, rfl⟩
      have hane : ¬ a = 0 := by omega
      have hw1 := quo_wrap n a q1 hn hq1
      have hw2 := quo_wrap d a q2 hd hq2
      have HQ1 := Lib.hid hq1
      have HQ2 := Lib.hid hq2
      clear hq1 hq2
      go_wp2_with fail
      have HQQ : Hid (Ending.returned (.agg (frC q1 q2)) = .returned (.agg (frC (n / Nat.gcd d n : Nat) (d / Nat.gcd d n : Nat)))) := Lib.hid (by rw [← HA.out, HQ1.out, HQ2.out])
      go_still_tail 7, (by kernel_rfl)
      change wpList _ _ _ _ _ wr.drew
      have hBd := hB.quiet ((G.refl wr none).drew)
      have hGd := hG.drew
      clear hB hG
      generalize wr.drew = w2 at hBd hGd ⊢
      go_wp2_with (refine wpList_store_row rfl 61 _ _ rfl w.heap.size (frC q1 q2) rfl rfl 61 _ hBd (fr_info q1 q2) rfl (fr_one q1 q2) ?_)
      refine bodyPost_ret (results_cell_row rfl _ _ w.heap.size 61 (frC q1 q2) (0, 0) _ rfl (hBd.setRow _) Tryd.underlying61 rfl (fr_info q1 q2)) rfl ?_
      exact ⟨HQQ.out, hGd.setRow (.inl (Nat.le_refl _)) _⟩
    · have hbp : 0 < b := by omega
      have hne : ((b : Int) != 0) = true := by rw [bne_iff_ne]; omega
      have hbq : ((b : Int) == 0) = false := by rw [beq_eq_false_iff_ne]; omega
      have htm : (a : Int).tmod (b : Int) = ((a % b : Nat) : Int) := by rw [Int.tmod_eq_emod_of_nonneg (by omega)]; rfl
      have hmw : IntKind.i64.wrap ((a % b : Nat) : Int) = ((a % b : Nat) : Int) := by have := Nat.mod_lt a hbp; rw [IntKind.wrap_i64]; omega
      have HML := Lib.hid (Nat.mod_lt a hbp)
      go_wp2_with fail
      go_quiet (fail)
      have hGq := hG.drewN nq
      have hBq := hB.drewN nq
      go_wp2_with fail
      go_roundw
      case rel => exact ⟨b, a % b, rfl, rfl, by rw [← HG.out, Nat.gcd_comm a b]; exact (Nat.gcd_rec b a).symm ▸ by rw [Nat.gcd_comm], hb, by have := HML.out; omega, hbp, hBq, hGq⟩
      case measure => have := HML.out; simp [intOf]; omega
end Go.Proofs.YtbddcbbjmgepnaaDoor

/- The law's own 'booked': the odds of one booking. -/
namespace Go.Proofs.YtbddcbbjmgepnaaDoor
open Go.RowKit

def coE (l : List Bo) : Int := if boE l = 0 then (if 9 < l.length then 2 else 0) else boE l
set_option maxRecDepth 100000 in
set_option maxHeartbeats 1000000 in
theorem checkOdds_c (v : Value) (l : List Bo) (w : World) (hr : RdR w 6 boC v l) (hl : BoOk l) (hn : l.length ≤ 1000) :
    Calls Tryd.prog 47 #[v] w fun e w' => e = .returned (.int .i64 (coE l)) ∧ G w w' none := by
  have HR := Lib.hid hr
  obtain ⟨a, cap, rfl, hcap, hm⟩ := RdR.form hr
  clear hr
  go_enter Tryd.func47, Tryd.ntmps47
  go_wp2_with fail
  refine (checkForm_c _ l _ HR.out hl hn).mono ?_; rintro e w1 ⟨rfl, hG1⟩
  by_cases h0 : boE l = 0
  · have HE : Hid (coE l = if 9 < l.length then 2 else 0) := Lib.hid (by rw [coE, if_pos h0])
    rw [h0]
    clear h0
    by_cases h9 : 9 < l.length
    · have HF : Hid (coE l = 2) := Lib.hid (by rw [HE.out, if_pos h9])
      go_wp2_with fail
      go_ret
      exact ⟨by rw [HF.out]; rfl, hG1⟩
    · have HF : Hid (coE l = 0) := Lib.hid (by rw [HE.out, if_neg h9])
      go_wp2_with fail
      go_ret
      exact ⟨by rw [HF.out]; rfl, hG1⟩
  · have HF : Hid (coE l = boE l) := Lib.hid (by rw [coE, if_neg h0])
    have h0' : (boE l != 0) = true := by rw [bne_iff_ne]; exact h0
    clear h0
    generalize boE l = E at h0' HF ⊢
    go_wp2_with fail
    go_ret
    exact ⟨by rw [HF.out]; rfl, hG1⟩
def bo1 : Bo := (⟨#[97]⟩, ⟨#[99]⟩, 0, 1, 0, 50)
set_option maxRecDepth 100000 in
set_option maxHeartbeats 4000000 in
theorem casesOf1_c (w : World) (b : Nat) (h : Bk w b 96 (boC bo1)) :
    Calls Tryd.prog 48 #[.slice (some ⟨b, 0, none⟩) 1 1] w fun e w' => ∃ g, e = .returned (.tuple #[.slice (some ⟨g, 0, none⟩) 2 2, .int .i64 100]) ∧ Bk w' g 3 #[.int .i64 50, .int .i64 50] ∧ G w w' none := by
  have HA := Lib.hid h.at_
  have hb := h.lt
  have h1 := h.alloc (.cells #[.int .i64 1] 3)
  have hG1 := (G.refl w none).alloc (.cells #[.int .i64 1] 3)
  have hN1 := Bk.new w 3 #[.int .i64 1]
  have HA1 := Lib.hid h1.at_
  have hms : ∀ w : World, (Instr.makeSlice 22 (.int .i64 2) (.int .i64 2)).run Tryd.prog w = .ok (.slice (some ⟨w.heap.size, 0, none⟩) 2 2) (w.alloc (.cells #[.int .i64 0, .int .i64 0] 3)) := fun _ => by kernel_rfl
  clear h
  go_enter Tryd.func48, Tryd.ntmps48
  go_wp2_with fail
  refine wp_loop_rounds 2 ?_
  rw [rounds_succ]
  go_wp2_with (refine wpList_load_at rfl 96 _ rfl ⟨b, 0, none⟩ rfl #[.string ⟨#[97]⟩, .string ⟨#[99]⟩, .int .i64 0, .int .i64 1, .int .i64 0, .int .i64 50] _ HA1.out Tryd.underlying96 rfl (bo_info bo1) ?_)
  refine wp_loop_rounds 2 ?_
  rw [rounds_succ]
  go_wp2_with fail
  have hP : Bk (((w.alloc (.cells #[.int .i64 1] 3)).alloc (.cells #[.string ⟨#[97]⟩, .string ⟨#[99]⟩, .int .i64 0, .int .i64 1, .int .i64 0, .int .i64 50] 96)).alloc (.cells #[.int .i64 0, .int .i64 0] 3)) (w.heap.size + 1) 96 (boC bo1) := (Bk.newAt (w := w.alloc (.cells #[.int .i64 1] 3)) (b := w.heap.size + 1) (by simp) 96 (boC bo1)).alloc _
  have hN : Bk (((w.alloc (.cells #[.int .i64 1] 3)).alloc (.cells #[.string ⟨#[97]⟩, .string ⟨#[99]⟩, .int .i64 0, .int .i64 1, .int .i64 0, .int .i64 50] 96)).alloc (.cells #[.int .i64 0, .int .i64 0] 3)) (w.heap.size + 1 + 1) 3 #[.int .i64 0, .int .i64 0] := Bk.newAt (w := ((w.alloc (.cells #[.int .i64 1] 3)).alloc (.cells #[.string ⟨#[97]⟩, .string ⟨#[99]⟩, .int .i64 0, .int .i64 1, .int .i64 0, .int .i64 50] 96))) (b := w.heap.size + 1 + 1) (by simp) 3 #[.int .i64 0, .int .i64 0]
  have hO : Bk (((w.alloc (.cells #[.int .i64 1] 3)).alloc (.cells #[.string ⟨#[97]⟩, .string ⟨#[99]⟩, .int .i64 0, .int .i64 1, .int .i64 0, .int .i64 50] 96)).alloc (.cells #[.int .i64 0, .int .i64 0] 3)) w.heap.size 3 #[.int .i64 1] := ((Bk.new w 3 #[.int .i64 1]).alloc _).alloc _
  have hG : G w (((w.alloc (.cells #[.int .i64 1] 3)).alloc (.cells #[.string ⟨#[97]⟩, .string ⟨#[99]⟩, .int .i64 0, .int .i64 1, .int .i64 0, .int .i64 50] 96)).alloc (.cells #[.int .i64 0, .int .i64 0] 3)) none := (((G.refl w none).alloc _).alloc _).alloc _
  clear h1 hG1 hN1 HA HA1
  generalize (((w.alloc (.cells #[.int .i64 1] 3)).alloc (.cells #[.string ⟨#[97]⟩, .string ⟨#[99]⟩, .int .i64 0, .int .i64 1, .int .i64 0, .int .i64 50] 96)).alloc (.cells #[.int .i64 0, .int .i64 0] 3)) = w4 at hP hN hO hG ⊢
  have p5 : w4.cell? ⟨w.heap.size + 1, 5, none⟩ = some (.int .i64 50) := hP.cell 5
  have n0 : w4.cell? ⟨w.heap.size + 1 + 1, 0, none⟩ = some (.int .i64 0) := hN.cell 0
  have f0 : w4.frozen? ⟨w.heap.size + 1 + 1, 0, none⟩ = false := hN.free 0
  go_still_tail 11, (by kernel_rfl)
  change wpList _ _ _ _ _ w4.drew
  have hPd := hP.quiet ((G.refl w4 none).drew)
  have hOd := hO.quiet ((G.refl w4 none).drew)
  have hNd := hN.quiet ((G.refl w4 none).drew)
  have hGd := hG.drew
  clear hP hN hO hG p5 n0 f0
  generalize w4.drew = w5 at hPd hOd hNd hGd ⊢
  have n0 : w5.cell? ⟨w.heap.size + 1 + 1, 0, none⟩ = some (.int .i64 0) := hNd.cell 0
  have f0 : w5.frozen? ⟨w.heap.size + 1 + 1, 0, none⟩ = false := hNd.free 0
  have hN : Bk (w5.setCell ⟨w.heap.size + 1 + 1, 0, none⟩ (.int .i64 50)) (w.heap.size + 1 + 1) 3 #[.int .i64 50, .int .i64 0] := hNd.set 0 _
  have hP := hPd.far (p := ⟨w.heap.size + 1 + 1, 0, none⟩) (show w.heap.size + 1 ≠ w.heap.size + 1 + 1 by omega) (.int .i64 50)
  have hG := hGd.setCell (p := ⟨w.heap.size + 1 + 1, 0, none⟩) (.inl (show w.heap.size ≤ w.heap.size + 1 + 1 by omega)) (.int .i64 50)
  clear hPd hNd hOd hGd
  go_wp2_with fail
  generalize w5.setCell ⟨w.heap.size + 1 + 1, 0, none⟩ (.int .i64 50) = w6 at hP hN hG ⊢
  have p5 : w6.cell? ⟨w.heap.size + 1, 5, none⟩ = some (.int .i64 50) := hP.cell 5
  have n1 : w6.cell? ⟨w.heap.size + 1 + 1, 1, none⟩ = some (.int .i64 0) := hN.cell 1
  have hw1 : IntKind.i64.wrap 1 = 1 := by decide
  have f1 : w6.frozen? ⟨w.heap.size + 1 + 1, 1, none⟩ = false := hN.free 1
  go_still_tail 11, (by kernel_rfl)
  change wpList _ _ _ _ _ w6.drew
  have hNd := hN.quiet ((G.refl w6 none).drew)
  have hGd := hG.drew
  clear hP hN hG p5 n1 f1
  generalize w6.drew = w7 at hNd hGd ⊢
  have n1 : w7.cell? ⟨w.heap.size + 1 + 1, 1, none⟩ = some (.int .i64 0) := hNd.cell 1
  have f1 : w7.frozen? ⟨w.heap.size + 1 + 1, 1, none⟩ = false := hNd.free 1
  have hN : Bk (w7.setCell ⟨w.heap.size + 1 + 1, 1, none⟩ (.int .i64 50)) (w.heap.size + 1 + 1) 3 #[.int .i64 50, .int .i64 50] := hNd.set 1 _
  have hG := hGd.setCell (p := ⟨w.heap.size + 1 + 1, 1, none⟩) (.inl (show w.heap.size ≤ w.heap.size + 1 + 1 by omega)) (.int .i64 50)
  clear hNd hGd
  go_wp2_with fail
  rw [rounds_succ]
  go_wp2_with fail
  rw [rounds_succ]
  go_wp2_with fail
  go_ret2
  exact ⟨_, rfl, hN, hG⟩
theorem bo1_ok : boB bo1 := ⟨small_of (by decide), small_of (by decide), by unfold bnd bo1; dsimp only; omega, by unfold bnd bo1; dsimp only; omega, by unfold bnd bo1; dsimp only; omega, by unfold bnd bo1; dsimp only; omega⟩
theorem coE_one : coE [bo1] = 0 := by
  have h1 : boE [bo1] = 0 := by
    show boErr ⟨#[]⟩ [bo1] = 0
    unfold boErr bo1
    dsimp only
    rw [if_neg (by rw [show keyB ⟨#[97]⟩ = true by decide]; decide), if_neg (by rw [show keyB ⟨#[99]⟩ = true by decide]; decide), if_neg (by rw [leB_cmp]; decide), if_neg (by decide)]
    rfl
  rw [coE, if_pos h1, if_neg (by decide)]
/-! A row of fractions that the call owns. -/
abbrev Fr := Int × Int
def frV (x : Fr) : Array Value := frC x.1 x.2
theorem frV_sz (x : Fr) : (frV x).size = 2 := rfl
abbrev OwnFr (w : World) (base : Nat) (v : Value) (l : List Fr) : Prop := w.ownsRow base 61 2 v l.length (rowL frV l)
theorem fr_row : (Tryd.prog.info? 61).map (fun i => (i.zero, i.size, i.bytes)) = some (some (.agg (frC 0 0)), 2, 16) := by kernel_rfl
theorem frV_one (r : Fr) : ∀ u ∈ (frV r).toList, u.oneCell' = true := by
  intro u hu
  simp [frV, frC] at hu
  rcases hu with rfl | rfl <;> rfl
theorem wp_append_fr {w : World} {o : Oper} {a : Act} {K : Act → World → Prop} {Q : Exit → Act → World → Prop} (s x : Operand)
    (ho : o.op = .call { callee := .builtin .append, args := #[s, x], argTypes := #[57, 57] }) (base : Nat) (v : Value) (l : List Fr) (hs : a.eval s = v) (hown : OwnFr w base v l)
    (g : Nat) (r : Fr) (hx : a.eval x = .slice (some ⟨g, 0, none⟩) 1 1) (hb : Bk w g 61 (frV r)) (hl : l.length ≤ 1000) (hbase : base ≤ w.heap.size)
    (hK : ∀ v' w', OwnFr w' base v' (l ++ [r]) → w.grownBy w' v.ownBlock → K (a.put o.dst v') w') : o.wp Tryd.prog a w K Q := by
  obtain ⟨i0, hi, hz0, hz1, hz2⟩ := info_parts fr_row
  refine wp_append_own w s x 57 ho base 61 i0 _ 2 16 Tryd.underlying57 hi hz0 hz1 hz2 rfl (by decide) v l.length (rowL frV l) hs hown ⟨g, 0, none⟩ 1 1 (frV r).toList hx rfl hb.at_ (frV_one r) (by unfold maxLen; omega) (by omega) hbase ?_
  intro v' w' h1 h2 _
  refine hK v' w' ?_ h2
  unfold OwnFr
  rw [List.length_append, rowL_snoc]
  exact h1
theorem OwnFr.alloc {w : World} {base : Nat} {v : Value} {l : List Fr} (h : OwnFr w base v l) (o : Obj) : OwnFr (w.alloc o) base v l := World.ownsRow.alloc h o
theorem OwnFr.quiet {w w' : World} {base : Nat} {v : Value} {l : List Fr} (h : OwnFr w base v l) (hg : G w w' none) : OwnFr w' base v l :=
  World.ownsRow.kept h hg (Classical.em _)
set_option maxRecDepth 100000 in
set_option maxHeartbeats 4000000 in
theorem spread1_c (w : World) (b : Nat) (h : Bk w b 96 (boC bo1)) :
    Calls Tryd.prog 26 #[.slice (some ⟨b, 0, none⟩) 1 1] w fun e w' => ∃ v, e = .returned (.tuple #[v, .int .i64 0]) ∧ OwnFr w' w.heap.size v [(1, 2), (1, 2)] ∧ G w w' none := by
  go_enter Tryd.func26, Tryd.ntmps26
  go_wp2_with fail
  refine (checkOdds_c _ [bo1] _ (RdR.one h) (BoOk.one bo1_ok) (one_len bo1)).mono ?_; rintro e w1 ⟨rfl, hG1⟩
  rw [coE_one]
  have h1 := h.quiet hG1
  go_wp2_with fail
  refine (casesOf1_c _ b h1).mono ?_; rintro e w2 ⟨g, rfl, hN2, hG2⟩
  have hG02 := hG1.trans hG2
  clear hG1 hG2 h h1
  have c0 : w2.cell? ⟨g, 0, none⟩ = some (.int .i64 50) := hN2.cell 0
  go_wp2_with fail
  refine wp_loop_rounds 3 ?_
  rw [rounds_succ]
  go_wp2_with fail
  refine (lowest_c 50 100 _ (by omega) (by omega) (by omega)).mono ?_; rintro e w3 ⟨rfl, hG3⟩
  rw [show frC ((50 / Nat.gcd 100 50 : Nat) : Int) ((100 / Nat.gcd 100 50 : Nat) : Int) = #[.int .i64 1, .int .i64 2] by rfl]
  have hN3 := (hN2.quiet hG3).alloc (.cells #[.int .i64 1, .int .i64 2] 61)
  have hG03 := (hG02.trans hG3).alloc (.cells #[.int .i64 1, .int .i64 2] 61)
  have hz3 := hG03.size
  clear hN2 hG02 hG3 c0
  go_wp2_with (at_builtin; refine wpList_plain rfl fun K' hK' => wp_append_fr _ _ rfl w.heap.size (.slice none 0 0) [] rfl (World.ownsRow_nil _ _ _ _) w3.heap.size (1, 2) rfl (Bk.new w3 _ _) (by simp) hz3 ?_; intro v1 w4 hown1 hgrow1; refine hK' _ _ ?_)
  have hN4 := hN3.quiet hgrow1
  have hG04 := hG03.trans hgrow1
  clear hN3 hG03 hz3 hgrow1
  have c1 : w4.cell? ⟨g, 1, none⟩ = some (.int .i64 50) := hN4.cell 1
  rw [rounds_succ]
  go_wp2_with fail
  refine (lowest_c 50 100 _ (by omega) (by omega) (by omega)).mono ?_; rintro e w5 ⟨rfl, hG5⟩
  rw [show frC ((50 / Nat.gcd 100 50 : Nat) : Int) ((100 / Nat.gcd 100 50 : Nat) : Int) = #[.int .i64 1, .int .i64 2] by rfl]
  have hown2 := (hown1.quiet hG5).alloc (.cells #[.int .i64 1, .int .i64 2] 61)
  have hG05 := (hG04.trans hG5).alloc (.cells #[.int .i64 1, .int .i64 2] 61)
  have hz5 := hG05.size
  clear hN4 hG04 hG5 c1 hown1
  go_wp2_with (at_builtin; refine wpList_plain rfl fun K' hK' => wp_append_fr _ _ rfl w.heap.size v1 [(1, 2)] rfl hown2 w5.heap.size (1, 2) rfl (Bk.new w5 _ _) (by simp) hz5 ?_; intro v2 w6 hown3 hgrow2; refine hK' _ _ ?_)
  have hG06 := hG05.other hgrow2 (fun j e => .inl (World.ownsRow.lt hown2 j e).1)
  rw [rounds_succ]
  go_wp2_with fail
  go_ret2
  exact ⟨_, rfl, hown3, hG06⟩
theorem fr_neq (x y : Fr) (w : World) : (binOp .neq 61 (.agg (frV x)) (.agg (frV y))).run Tryd.prog w = .ok (.bool (!(decide (x = y)))) w := by
  obtain ⟨a, b⟩ := x
  obtain ⟨c, d⟩ := y
  have ht : Tryd.prog.underlying 61 = some (.struct (Tryd.prog.fieldsOf 61)) := by kernel_rfl
  have hp : Tryd.prog.stoodInHeld 61 = false := by kernel_rfl
  rw [run_neq_struct, run_equalIn_agg w 9999 61 _ _ ht hp]
  simp [frV, frC, Tryd.underlying61, Tryd.underlying3, go_sem]
  by_cases h1 : a = c <;> by_cases h2 : b = d <;> simp [h1, h2]
def EqfRel (l m : List Fr) (w : World) (i : Value) (wr : World) : Prop := ∃ k n : Nat, k ≤ l.length ∧ i = .int .i64 k ∧ l.take k = m.take k ∧ wr = w.drewN n
theorem take_succ_eq {l m : List Fr} {k : Nat} {x : Fr} (h : l.take k = m.take k) (hx : l[k]? = some x) (hy : m[k]? = some x) : l.take (k + 1) = m.take (k + 1) := by
  rw [List.take_add_one, List.take_add_one, h, hx, hy]
end Go.Proofs.YtbddcbbjmgepnaaDoor

/- Odds: casesOf, for any bookings that are right. -/
namespace Go.Proofs.YtbddcbbjmgepnaaDoor
open Go.RowKit

def pcs (l : List Bo) : List Int := l.map fun x => x.2.2.2.2.2
def PcOk (l : List Bo) : Prop := ∀ p ∈ pcs l, 0 ≤ p ∧ p ≤ 100
theorem pow_le (k : Nat) (h : k ≤ 9) : (100 : Int) ^ k ≤ 1000000000000000000 := by
  have : k = 0 ∨ k = 1 ∨ k = 2 ∨ k = 3 ∨ k = 4 ∨ k = 5 ∨ k = 6 ∨ k = 7 ∨ k = 8 ∨ k = 9 := by omega
  rcases this with rfl | rfl | rfl | rfl | rfl | rfl | rfl | rfl | rfl | rfl <;> decide
theorem pow_pos100 (k : Nat) : (0 : Int) < 100 ^ k := Int.pow_pos (by omega)
theorem made_ints (n : Nat) : madeCells (Value.cells (.int .i64 0)) n = ic (List.replicate n 0) := by
  apply Array.ext
  · simp [madeCells, ic]
  · intro k h1 h2
    simp [madeCells, ic, Value.cells, Nat.mod_one]
theorem make_ints (n : Nat) (hn : n ≤ 1000) (w : World) : (Instr.makeSlice 22 (.int .i64 (n : Int)) (.int .i64 (n : Int))).run Tryd.prog w = .ok (.slice (some ⟨w.heap.size, 0, none⟩) n n) (w.alloc (.cells (ic (List.replicate n 0)) 3)) := by
  obtain ⟨i0, hi, hz0, hz1, hz2⟩ := info_parts (show (Tryd.prog.info? 3).map (fun i => (i.zero, i.size, i.bytes)) = some (some (.int .i64 0), 1, 8) by kernel_rfl)
  have h := run_make (P := Tryd.prog) w 22 3 i0 (.int .i64 0) Tryd.underlying22 hi hz0 .i64 .i64 n n (by omega) (by omega) (by rw [hz2]; omega) (by omega)
  rw [h, hz1, Int.toNat_natCast, Nat.mul_one, made_ints]
theorem take_le {c : List Int} (h : NN c) (j : Nat) : (c.take j).sum ≤ c.sum := by
  induction c generalizing j with
  | nil => simp
  | cons x r ih =>
    have h1 := h x (List.mem_cons_self ..)
    have hr : NN r := fun y hy => h y (List.mem_cons_of_mem _ hy)
    cases j with
    | zero =>
      have := hr.sum
      simp only [List.take_zero, List.sum_nil, List.sum_cons]
      omega
    | succ j =>
      have := ih hr j
      simp only [List.take_succ_cons, List.sum_cons]
      omega
theorem nx_bnds {c : List Int} {p P : Int} {j : Nat} (cn : NN c) (p0 : 0 ≤ p) (p1 : p ≤ 100) (hj : j < c.length) (hs : c.sum = P) :
    0 ≤ c.getD j 0 ∧ (0 ≤ c.getD j 0 * (100 - p) ∧ c.getD j 0 * (100 - p) ≤ P * 100) ∧ (0 ≤ c.getD j 0 * p ∧ c.getD j 0 * p ≤ P * 100) ∧
    (0 ≤ (nx c p j).getD j 0 ∧ (nx c p j).getD j 0 + c.getD j 0 * (100 - p) ≤ P * 100) ∧ (0 ≤ (nx c p j).getD (j + 1) 0 ∧ (nx c p j).getD (j + 1) 0 + c.getD j 0 * p ≤ P * 100) := by
  have h1 := cn.getD j
  have hn := nx_nn cn p0 p1 j
  have h2 := hn.le_sum j
  have h3 := hn.le_sum (j + 1)
  have h4 := nx_sum c p j (by omega)
  have h5 := take_sum c j hj
  have h6 := take_le cn (j + 1)
  have h7 := hn.getD j
  have h8 := hn.getD (j + 1)
  have m1 := Int.mul_nonneg h1 (show 0 ≤ 100 - p by omega)
  have m2 := Int.mul_nonneg h1 p0
  have m3 : c.getD j 0 * (100 - p) + c.getD j 0 * p = 100 * c.getD j 0 := by rw [← Int.mul_add]; rw [show (100 - p + p : Int) = 100 by omega, Int.mul_comm]
  have h9 := (show NN (c.take j) from fun x hx => cn x (List.mem_of_mem_take hx)).sum
  omega
def CoRelO (w : World) (l : List Bo) (s4 s5 s14 : Value) (wr : World) : Prop :=
  ∃ (k g : Nat), k ≤ l.length ∧ s14 = .int .i64 k ∧ s4 = .slice (some ⟨g, 0, none⟩) (k + 1) (k + 1) ∧ s5 = .int .i64 (100 ^ k) ∧ Bk wr g 3 (ic (cas ((pcs l).take k))) ∧ w.heap.size ≤ g ∧ G w wr none
def CoRelI (w : World) (c : List Int) (p : Int) (n g g2 gb : Nat) (x : Bo) (s24 : Value) (wr : World) : Prop :=
  ∃ j : Nat, j ≤ n ∧ s24 = .int .i64 j ∧ Bk wr g 3 (ic c) ∧ Bk wr g2 3 (ic (nx c p j)) ∧ Bk wr gb 96 (boC x) ∧ G w wr none
set_option maxRecDepth 100000 in
set_option maxHeartbeats 8000000 in
theorem casesOf_c (v : Value) (l : List Bo) (w : World) (hr : RdR w 6 boC v l) (hn : l.length ≤ 9) (hp : PcOk l) :
    Calls Tryd.prog 48 #[v] w fun e w' => ∃ g, e = .returned (.tuple #[.slice (some ⟨g, 0, none⟩) (l.length + 1) (l.length + 1), .int .i64 (100 ^ l.length)]) ∧ Bk w' g 3 (ic (cas (pcs l))) ∧ w.heap.size ≤ g ∧ G w w' none := by
  have HR := Lib.hid hr
  have HPC := Lib.hid hp
  obtain ⟨ad, cap, rfl, hcap, hm⟩ := RdR.form hr
  clear hr hp
  go_enter Tryd.func48, Tryd.ntmps48
  go_wp2_with fail
  go_loopw [4, 5, 14] (CoRelO w l) (fun _ _ i _ => l.length - (intOf i).toNat)
  case atStart => exact ⟨0, w.heap.size, by omega, rfl, rfl, rfl, Bk.new w _ _, Nat.le_refl _, (G.refl _ _).alloc _⟩
  case round =>
    obtain ⟨k, g, hkl, rfl, rfl, rfl, hB, hgw, hG⟩ := hrel
    by_cases hlt : k < l.length
    · obtain ⟨x, hx⟩ : ∃ x, l[k]? = some x := ⟨_, List.getElem?_eq_getElem hlt⟩
      have hpx : (pcs l)[k]? = some x.2.2.2.2.2 := by unfold pcs; rw [List.getElem?_map, hx]; rfl
      obtain ⟨p0, p1⟩ := HPC.out _ (List.mem_of_getElem? hpx)
      have hps : (pcs l).take (k + 1) = (pcs l).take k ++ [x.2.2.2.2.2] := by
        have hk' : k < (pcs l).length := (List.getElem?_eq_some_iff.1 hpx).1
        rw [List.take_succ_eq_append_getElem hk', (List.getElem?_eq_some_iff.1 hpx).2]
      obtain ⟨cl, cn, cs⟩ := cas_ok ((pcs l).take k) (fun q hq => HPC.out q (List.mem_of_mem_take hq))
      have htl : ((pcs l).take k).length = k := by rw [List.length_take]; unfold pcs; rw [List.length_map]; omega
      rw [htl] at cl cs
      have HC : Hid (cas ((pcs l).take (k + 1)) = nx (cas ((pcs l).take k)) x.2.2.2.2.2 (k + 1)) := Lib.hid (by rw [hps, cas_snoc, cl])
      obtain ⟨bb, bo, rfl, hbb, _⟩ := RdR.elem boC_sz HR.out hG hx
      have HW := Lib.hid (boRow HR.out hG hx)
      have hms : ∀ w : World, (Instr.makeSlice 22 (.int .i64 ((k : Int) + 1 + 1)) (.int .i64 ((k : Int) + 1 + 1))).run Tryd.prog w = .ok (.slice (some ⟨w.heap.size, 0, none⟩) (k + 1 + 1) (k + 1 + 1)) (w.alloc (.cells (ic (List.replicate (k + 1 + 1) 0)) 3)) := fun w => make_ints (k + 1 + 1) (by omega) w
      have hgl := hB.lt
      have hBx := Bk.new wr 96 (boC x)
      have hB1 := hB.alloc (.cells (boC x) 96)
      have hG1 := hG.alloc (.cells (boC x) 96)
      have hP9 := pow_le k (by omega)
      have hP10 := pow_le (k + 1) (by omega)
      have hPs : (100 : Int) ^ (k + 1) = 100 ^ k * 100 := Int.pow_succ ..
      have hPp := pow_pos100 k
      obtain ⟨P, hPd⟩ : ∃ P : Int, (100 : Int) ^ k = P := ⟨_, rfl⟩
      have HPd := Lib.hid hPd
      have HPs := Lib.hid hPs
      rw [hPs] at hP10
      rw [hPd] at cs hP9 hP10 hPp ⊢
      clear hx hpx hps hPd hPs hB hG htl
      obtain ⟨c, hc⟩ : ∃ c, cas ((pcs l).take k) = c := ⟨_, rfl⟩
      rw [hc] at cl cn cs HC hB1
      clear hc
      go_wp2_with (refine wpList_load_at rfl 96 _ rfl ⟨bb, bo + k * 6, none⟩ rfl #[.string x.1, .string x.2.1, .int .i64 x.2.2.1, .int .i64 x.2.2.2.1, .int .i64 x.2.2.2.2.1, .int .i64 x.2.2.2.2.2] _ HW.out Tryd.underlying96 rfl (bo_info x) ?_)
      have hX4 : Bk ((wr.alloc (.cells #[.string x.1, .string x.2.1, .int .i64 x.2.2.1, .int .i64 x.2.2.2.1, .int .i64 x.2.2.2.2.1, .int .i64 x.2.2.2.2.2] 96)).alloc (.cells (ic (List.replicate (k + 1 + 1) 0)) 3)) wr.heap.size 96 (boC x) := (Bk.new wr 96 (boC x)).alloc _
      have hN4 : Bk ((wr.alloc (.cells #[.string x.1, .string x.2.1, .int .i64 x.2.2.1, .int .i64 x.2.2.2.1, .int .i64 x.2.2.2.2.1, .int .i64 x.2.2.2.2.2] 96)).alloc (.cells (ic (List.replicate (k + 1 + 1) 0)) 3)) (wr.heap.size + 1) 3 (ic (nx c x.2.2.2.2.2 0)) := by
        have h := Bk.newAt (w := (wr.alloc (.cells #[.string x.1, .string x.2.1, .int .i64 x.2.2.1, .int .i64 x.2.2.2.1, .int .i64 x.2.2.2.2.1, .int .i64 x.2.2.2.2.2] 96))) (b := wr.heap.size + 1) (by simp) 3 (ic (List.replicate (k + 1 + 1) 0))
        have e : nx c x.2.2.2.2.2 0 = List.replicate (k + 1 + 1) 0 := by unfold nx; rw [cl]
        rw [e]
        exact h
      have hB4 : Bk ((wr.alloc (.cells #[.string x.1, .string x.2.1, .int .i64 x.2.2.1, .int .i64 x.2.2.2.1, .int .i64 x.2.2.2.2.1, .int .i64 x.2.2.2.2.2] 96)).alloc (.cells (ic (List.replicate (k + 1 + 1) 0)) 3)) g 3 (ic c) := hB1.alloc _
      have hG4 : G w ((wr.alloc (.cells #[.string x.1, .string x.2.1, .int .i64 x.2.2.1, .int .i64 x.2.2.2.1, .int .i64 x.2.2.2.2.1, .int .i64 x.2.2.2.2.2] 96)).alloc (.cells (ic (List.replicate (k + 1 + 1) 0)) 3)) none := hG1.alloc _
      clear hBx hB1 hG1 hms HW
      generalize ((wr.alloc (.cells #[.string x.1, .string x.2.1, .int .i64 x.2.2.1, .int .i64 x.2.2.2.1, .int .i64 x.2.2.2.2.1, .int .i64 x.2.2.2.2.2] 96)).alloc (.cells (ic (List.replicate (k + 1 + 1) 0)) 3)) = w4 at hX4 hN4 hB4 hG4 ⊢
      generalize wr.heap.size = gb at hX4 hN4 hgl ⊢
      go_loopw [24] (CoRelI w c x.2.2.2.2.2 (k + 1) g (gb + 1) gb x) (fun i _ => k + 1 - (intOf i).toNat)
      case atStart => exact ⟨0, by omega, rfl, hB4, hN4, hX4, hG4⟩
      case round =>
        clear hX4 hN4 hB4 hG4
        obtain ⟨j, hjk, rfl, hB, hN, hX, hG⟩ := hrel
        by_cases hj : j < k + 1
        · obtain ⟨b0, ⟨b1, b2⟩, ⟨b3, b4⟩, ⟨b5, b6⟩, b7, b8⟩ := nx_bnds cn p0 p1 (show j < c.length by omega) cs
          have hcj : World.cell? _ ⟨g, j, none⟩ = some (.int .i64 (c.getD j 0)) := (hB.cell j).trans (ic_at c j (by omega))
          have ha0 : World.cell? _ ⟨gb + 1, j, none⟩ = some (.int .i64 ((nx c x.2.2.2.2.2 j).getD j 0)) := (hN.cell j).trans (ic_at _ j (by rw [nx_len]; omega))
          have hp5 : World.cell? _ ⟨gb, 5, none⟩ = some (.int .i64 x.2.2.2.2.2) := hX.cell 5
          have fr0 := hN.free j
          have HNX : Hid (nx c x.2.2.2.2.2 (j + 1) = ((nx c x.2.2.2.2.2 j).set j ((nx c x.2.2.2.2.2 j).getD j 0 + c.getD j 0 * (100 - x.2.2.2.2.2))).set (j + 1) ((nx c x.2.2.2.2.2 j).getD (j + 1) 0 + c.getD j 0 * x.2.2.2.2.2)) := Lib.hid rfl
          have HL := Lib.hid (nx_len c x.2.2.2.2.2 j)
          have HIC : Hid (∀ (m : List Int), m.length = k + 1 + 1 → (ic m)[j + 1]? = some (.int .i64 (m.getD (j + 1) 0))) := Lib.hid fun m hm => ic_at m (j + 1) (by omega)
          have HGD : Hid (∀ v : Int, ((nx c x.2.2.2.2.2 j).set j v).getD (j + 1) 0 = (nx c x.2.2.2.2.2 j).getD (j + 1) 0) := Lib.hid fun v => gdset_ne _ _ _ _ (by omega)
          obtain ⟨A0, hA0⟩ : ∃ A0, (nx c x.2.2.2.2.2 j).getD j 0 = A0 := ⟨_, rfl⟩
          obtain ⟨A1, hA1⟩ : ∃ A1, (nx c x.2.2.2.2.2 j).getD (j + 1) 0 = A1 := ⟨_, rfl⟩
          obtain ⟨C, hC⟩ : ∃ C, c.getD j 0 = C := ⟨_, rfl⟩
          rw [hA0, hC] at HNX
          rw [hA1] at HNX HGD
          rw [hA0] at ha0 b5 b6
          rw [hA1] at b7 b8
          rw [hC] at hcj b0 b1 b2 b3 b4 b6 b8
          have hw1 : IntKind.i64.wrap (100 - x.2.2.2.2.2) = 100 - x.2.2.2.2.2 := by rw [IntKind.wrap_i64]; omega
          obtain ⟨M1, hM1⟩ : ∃ M1, C * (100 - x.2.2.2.2.2) = M1 := ⟨_, rfl⟩
          obtain ⟨M2, hM2⟩ : ∃ M2, C * x.2.2.2.2.2 = M2 := ⟨_, rfl⟩
          have hw2 : IntKind.i64.wrap (C * (100 - x.2.2.2.2.2)) = M1 := by rw [hM1, IntKind.wrap_i64]; omega
          have hw4 : IntKind.i64.wrap (C * x.2.2.2.2.2) = M2 := by rw [hM2, IntKind.wrap_i64]; omega
          rw [hM1] at b6 HNX
          rw [hM2] at b8 HNX
          obtain ⟨V1, hV1⟩ : ∃ V1, A0 + M1 = V1 := ⟨_, rfl⟩
          obtain ⟨V2, hV2⟩ : ∃ V2, A1 + M2 = V2 := ⟨_, rfl⟩
          have hw3 : IntKind.i64.wrap (A0 + M1) = V1 := by rw [hV1, IntKind.wrap_i64]; omega
          have hw5 : IntKind.i64.wrap (A1 + M2) = V2 := by rw [hV2, IntKind.wrap_i64]; omega
          rw [hV1, hV2] at HNX
          have hj0 : (0 : Int) ≤ (j : Int) := by omega
          have hj1 : (j : Int) < (k : Int) + 1 := by omega
          have hj2 : (j : Int) < (k : Int) + 1 + 1 := by omega
          have hj3 : (j : Int) + 1 < (k : Int) + 1 + 1 := by omega
          have hj4 : (0 : Int) ≤ (j : Int) + 1 := by omega
          have hwj : IntKind.i64.wrap ((j : Int) + 1) = (j : Int) + 1 := by rw [IntKind.wrap_i64]; omega
          have hjt : ((j : Int) + 1).toNat = j + 1 := by omega
          have hgg : g ≠ gb + 1 := by omega
          have hwg : w.heap.size ≤ gb + 1 := by omega
          clear hA0 hA1 hC hM1 hM2 hV1 hV2 b0 b1 b2 b3 b4 b5 b6 b7 b8
          go_wp2_with fail
          go_still_tail 11, (by kernel_rfl)
          change wpList _ _ _ _ _ wr.drew
          have hBd := hB.quiet ((G.refl wr none).drew)
          have hNd := hN.quiet ((G.refl wr none).drew)
          have hXd := hX.quiet ((G.refl wr none).drew)
          have hGd := hG.drew
          have ha0d : wr.drew.cell? ⟨gb + 1, j, none⟩ = some (.int .i64 A0) := ha0
          clear hB hN hX hG hcj ha0 hp5 fr0
          generalize wr.drew = w5 at hBd hNd hXd hGd ha0d ⊢
          have fr5 := hNd.free j
          have hN6 : Bk (w5.setCell ⟨gb + 1, j, none⟩ (.int .i64 V1)) (gb + 1) 3 (ic ((nx c x.2.2.2.2.2 j).set j V1)) := by
            have h := hNd.set j (.int .i64 V1)
            rw [ic_set] at h
            exact h
          have hB6 := hBd.far (p := ⟨gb + 1, j, none⟩) hgg (.int .i64 V1)
          have hX6 := hXd.far (p := ⟨gb + 1, j, none⟩) (show gb ≠ gb + 1 by omega) (.int .i64 V1)
          have hG6 := hGd.setCell (p := ⟨gb + 1, j, none⟩) (.inl hwg) (.int .i64 V1)
          clear hBd hNd hXd hGd
          go_wp2_with fail
          generalize w5.setCell ⟨gb + 1, j, none⟩ (.int .i64 V1) = w6 at hN6 hB6 hX6 hG6 ⊢
          have ha1 : w6.cell? ⟨gb + 1, j + 1, none⟩ = some (.int .i64 A1) := by
            rw [hN6.cell, HIC.out _ (by rw [List.length_set, HL.out, cl]), HGD.out]
          have hp5 : w6.cell? ⟨gb, 5, none⟩ = some (.int .i64 x.2.2.2.2.2) := hX6.cell 5
          have fr6 := hN6.free (j + 1)
          clear ha0d fr5
          go_still_tail 11, (by kernel_rfl)
          change wpList _ _ _ _ _ w6.drew
          have hBd := hB6.quiet ((G.refl w6 none).drew)
          have hNd := hN6.quiet ((G.refl w6 none).drew)
          have hXd := hX6.quiet ((G.refl w6 none).drew)
          have hGd := hG6.drew
          have ha1d : w6.drew.cell? ⟨gb + 1, j + 1, none⟩ = some (.int .i64 A1) := ha1
          clear hB6 hN6 hX6 hG6 ha1 hp5 fr6
          generalize w6.drew = w7 at hBd hNd hXd hGd ha1d ⊢
          have fr7 := hNd.free (j + 1)
          have hN8 : Bk (w7.setCell ⟨gb + 1, j + 1, none⟩ (.int .i64 V2)) (gb + 1) 3 (ic (nx c x.2.2.2.2.2 (j + 1))) := by
            have h := hNd.set (j + 1) (.int .i64 V2)
            rw [ic_set, ← HNX.out] at h
            exact h
          have hB8 := hBd.far (p := ⟨gb + 1, j + 1, none⟩) hgg (.int .i64 V2)
          have hX8 := hXd.far (p := ⟨gb + 1, j + 1, none⟩) (show gb ≠ gb + 1 by omega) (.int .i64 V2)
          have hG8 := hGd.setCell (p := ⟨gb + 1, j + 1, none⟩) (.inl hwg) (.int .i64 V2)
          clear hBd hNd hXd hGd
          go_wp2_with fail
          go_roundw
          case rel => exact ⟨j + 1, by omega, by go_num, hB8, hN8, hX8, hG8⟩
          case measure => simp [intOf]; omega
        · obtain rfl : j = k + 1 := by omega
          have hnj : ¬ (((k + 1 : Nat) : Int) < ((k + 1 : Nat) : Int)) := by omega
          have hnj2 : ¬ ((k : Int) + 1 < (k : Int) + 1) := by omega
          go_wp2_with fail
          go_roundw
          case rel => exact ⟨k + 1, gb + 1, by omega, by go_num, rfl, by rw [HPs.out, HPd.out], by rw [HC.out]; exact hN, by omega, hG⟩
          case measure => simp [intOf]; omega
    · obtain rfl : k = l.length := by omega
      have hB2 : Bk wr g 3 (ic (cas (pcs l))) := by
        have := hB
        rw [List.take_of_length_le (by unfold pcs; rw [List.length_map]; omega)] at this
        exact this
      go_wp2_with fail
      go_ret2
      exact ⟨g, rfl, hB2, hgw, hG⟩
end Go.Proofs.YtbddcbbjmgepnaaDoor

/- Odds: Spread, over, checkUnits, Over, for any bookings. -/
namespace Go.Proofs.YtbddcbbjmgepnaaDoor
open Go.RowKit

/-- A fraction in lowest terms. -/
def lowF (n d : Int) : Fr := (((n.toNat / Nat.gcd d.toNat n.toNat : Nat) : Int), ((d.toNat / Nat.gcd d.toNat n.toNat : Nat) : Int))
theorem lowest_i (n d : Int) (w : World) (n0 : 0 ≤ n) (hn : n ≤ 1000000000000000000) (d0 : 0 < d) (hd : d ≤ 1000000000000000000) :
    Calls Tryd.prog 49 #[.int .i64 n, .int .i64 d] w fun e w' => e = .returned (.agg (frV (lowF n d))) ∧ G w w' none := by
  obtain ⟨a, rfl⟩ := Int.eq_ofNat_of_zero_le n0
  obtain ⟨b, rfl⟩ := Int.eq_ofNat_of_zero_le (Int.le_of_lt d0)
  exact lowest_c a b w (by omega) (by omega) (by omega)
theorem boErr_pct {l : List Bo} : ∀ {b : ByteArray}, boErr b l = 0 → PcOk l := by
  induction l with
  | nil => intro b _ p hp; cases hp
  | cons y r ih =>
    intro b h
    unfold boErr at h
    split at h
    · exact absurd h (by decide)
    · split at h
      · exact absurd h (by decide)
      · split at h
        · exact absurd h (by decide)
        · split at h
          · exact absurd h (by decide)
          · rename_i h4
            intro p hp
            rcases List.mem_cons.1 (show p ∈ y.2.2.2.2.2 :: pcs r from hp) with rfl | hp
            · simp only [boT, inB, Bool.not_eq_false, Bool.and_eq_true, decide_eq_true_eq] at h4
              omega
            · exact ih h p hp
theorem coE_ok {l : List Bo} (h : coE l = 0) : PcOk l ∧ l.length ≤ 9 := by
  unfold coE at h
  split at h
  · rename_i h1
    split at h
    · exact absurd h (by decide)
    · refine ⟨?_, by omega⟩
      unfold boE at h1
      split at h1
      · exact absurd h1 (by decide)
      · exact boErr_pct h1
  · rename_i h1; exact absurd h h1
def spL (l : List Bo) : List Fr := (cas (pcs l)).map fun n => lowF n (100 ^ l.length)
theorem map_take_snoc {α β : Type} (f : α → β) {c : List α} {k : Nat} {x : α} (h : c[k]? = some x) : (c.take (k + 1)).map f = (c.take k).map f ++ [f x] := by
  have hk : k < c.length := (List.getElem?_eq_some_iff.1 h).1
  rw [List.take_succ_eq_append_getElem hk, (List.getElem?_eq_some_iff.1 h).2, List.map_append]
  rfl
def SpreadPost (l : List Bo) (w : World) (e : Ending) (w' : World) : Prop := ∃ u m, e = .returned (.tuple #[u, .int .i64 (coE l)]) ∧ RdR w' 2 frV u m ∧ m = (if coE l = 0 then spL l else []) ∧ G w w' none
def SpRel (w : World) (c : List Int) (H : Int) (g : Nat) (s7 s22 : Value) (wr : World) : Prop :=
  ∃ k : Nat, k ≤ c.length ∧ s22 = .int .i64 k ∧ OwnFr wr (g + 1) s7 ((c.take k).map fun n => lowF n H) ∧ Bk wr g 3 (ic c) ∧ w.heap.size ≤ g ∧ G w wr none
set_option maxRecDepth 100000 in
set_option maxHeartbeats 4000000 in
theorem spread_c (v : Value) (l : List Bo) (w : World) (hr : RdR w 6 boC v l) (hl : BoOk l) (hn : l.length ≤ 1000) :
    Calls Tryd.prog 26 #[v] w (SpreadPost l w) := by
  have HR := Lib.hid hr
  obtain ⟨ad, cap, rfl, hcap, hm⟩ := RdR.form hr
  clear hr
  go_enter Tryd.func26, Tryd.ntmps26
  go_wp2_with fail
  refine (checkOdds_c _ l _ HR.out hl hn).mono ?_; rintro e w1 ⟨rfl, hG1⟩
  by_cases h0 : coE l = 0
  · obtain ⟨hp, h9⟩ := coE_ok h0
    have HM : Hid ((if coE l = 0 then spL l else []) = (cas (pcs l)).map fun n => lowF n (100 ^ l.length)) := Lib.hid (by rw [if_pos h0]; rfl)
    have HZ := Lib.hid h0
    obtain ⟨cl, cn, cs⟩ := cas_ok (pcs l) hp
    have hpl : (pcs l).length = l.length := by unfold pcs; rw [List.length_map]
    rw [hpl] at cl cs
    have hH1 := pow_le l.length h9
    have hH0 := pow_pos100 l.length
    rw [h0]
    clear h0 hpl
    go_wp2_with fail
    refine (casesOf_c _ l _ (HR.out.quiet hG1) h9 hp).mono ?_; rintro e w2 ⟨g, rfl, hB2, hgw, hG2⟩
    have hG02 := hG1.trans hG2
    have hgw2 : w.heap.size ≤ g := Nat.le_trans hG1.size hgw
    clear hG1 hG2 hgw hp
    obtain ⟨c, hc⟩ : ∃ c, cas (pcs l) = c := ⟨_, rfl⟩
    obtain ⟨H, hH⟩ : ∃ H : Int, (100 : Int) ^ l.length = H := ⟨_, rfl⟩
    rw [hc, hH] at HM
    rw [hc] at cl cn cs hB2
    rw [hH] at cs hH1 hH0 ⊢
    clear hc hH
    go_wp2_with fail
    go_loopw [7, 22] (SpRel w c H g) (fun _ i _ => c.length - (intOf i).toNat)
    case atStart => exact ⟨0, by omega, rfl, World.ownsRow_nil _ _ _ _, hB2, hgw2, hG02⟩
    case round =>
      clear hB2 hgw2 hG02
      obtain ⟨k, hkc, rfl, hown, hB, hgw, hG⟩ := hrel
      by_cases hlt : k < l.length + 1
      · have hck : c[k]? = some (c.getD k 0) := by simp [List.getD, show k < c.length by omega]
        have hcell : wr.cell? ⟨g, k, none⟩ = some (.int .i64 (c.getD k 0)) := (hB.cell k).trans (ic_at c k (by omega))
        have HT : Hid ((c.take (k + 1)).map (fun n => lowF n H) = (c.take k).map (fun n => lowF n H) ++ [lowF (c.getD k 0) H]) := Lib.hid (map_take_snoc _ hck)
        have e0 := cn.getD k
        have e1 := cn.le_sum k
        have hkt : ((c.take k).map fun n => lowF n H).length ≤ 1000 := by rw [List.length_map, List.length_take]; omega
        have hki : (k : Int) < (l.length : Int) + 1 := by omega
        clear hck
        obtain ⟨x, hx⟩ : ∃ x, c.getD k 0 = x := ⟨_, rfl⟩
        rw [hx] at hcell HT e0 e1
        clear hx
        go_wp2_with fail
        refine (lowest_i x H _ e0 (by omega) hH0 hH1).mono ?_; rintro e w3 ⟨rfl, hG3⟩
        obtain ⟨F, hF⟩ : ∃ F, lowF x H = F := ⟨_, rfl⟩
        rw [hF] at HT ⊢
        clear hF
        rw [show frV F = #[.int .i64 F.1, .int .i64 F.2] from rfl]
        have hB3 := (hB.quiet hG3).alloc (.cells #[.int .i64 F.1, .int .i64 F.2] 61)
        have hown3 := (hown.quiet hG3).alloc (.cells #[.int .i64 F.1, .int .i64 F.2] 61)
        have hG03 := (hG.trans hG3).alloc (.cells #[.int .i64 F.1, .int .i64 F.2] 61)
        have hz3 := hB3.lt
        have hob := fun r e => (World.ownsRow.lt hown3 r e).1
        have hne : some g ≠ u7.ownBlock := fun e => by have := hob g e.symm; omega
        clear hB hown hG hG3 hcell
        go_wp2_with (at_builtin; refine wpList_plain rfl fun K' hK' => wp_append_fr _ _ rfl (g + 1) u7 _ rfl hown3 w3.heap.size F rfl (Bk.new w3 _ _) hkt hz3 ?_; intro v1 w4 hown4 hgrow; refine hK' _ _ ?_)
        go_roundw
        case rel => exact ⟨k + 1, by omega, by go_num, by rw [HT.out]; exact hown4, hB3.grown hgrow hne, hgw, hG03.other hgrow (fun r e => .inl (by have := hob r e; omega))⟩
        case measure => simp [intOf]; omega
      · obtain rfl : k = c.length := by omega
        have hnk : ¬ ((c.length : Int) < (l.length : Int) + 1) := by omega
        have hq : (c.take c.length).map (fun n => lowF n H) = c.map fun n => lowF n H := by rw [List.take_length]
        rw [hq] at hown
        clear hq
        go_wp2_with fail
        go_ret2
        exact ⟨_, _, by rw [HZ.out]; rfl, Rd.of_owns hown, HM.out.symm, hG⟩
  · have HZ : Hid ((if coE l = 0 then spL l else []) = []) := Lib.hid (by rw [if_neg h0])
    have h0' : (coE l != 0) = true := by rw [bne_iff_ne]; exact h0
    obtain ⟨E, hE⟩ : ∃ E, coE l = E := ⟨_, rfl⟩
    have HE := Lib.hid hE
    rw [hE] at h0' ⊢
    clear h0 hE
    go_wp2_with fail
    go_ret2
    exact ⟨_, [], by rw [HE.out]; rfl, RdR.nil _ _ _, HZ.out.symm, hG1⟩
end Go.Proofs.YtbddcbbjmgepnaaDoor
