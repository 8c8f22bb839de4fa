/- The walks of NextOpenOf, OpenIn, OpenMinutes. -/
import Derived.Test.YtbieiefbgcgogaaMin
import Derived.Test.YtbieiefbgcgogaaQuiet
namespace Go.Proofs.Ytbieiefbgcgogaa
open Go.RowKit

/-- What the reference's NextOpenOf returns. -/
def nofV (o : Option Int) : Value := match o with | some n => .tuple #[.int .i64 n, .bool true] | none => .tuple #[.int .i64 0, .bool false]
def NofRel (w : World) (r : ByteArray) (h : Nat → Int) (t d0 : Nat) (o : Option Int) (i : Value) (wr : World) : Prop :=
  ∃ k : Nat, k ≤ 8 ∧ i = .int .i64 ((d0 : Int) + (k : Int)) ∧ o = find (cR h t) (dFrom h) (8 - k) (d0 + k) ∧ G w wr none ∧ Bk wr w.heap.size 30 (stC r h)
/-! ### The minutes of a window -/
/-- How many moments it is open in the first so many days of a window. -/
def accD (h : Nat → Int) (a b : Int) (d0 : Nat) : Nat → Int
  | 0 => 0
  | k + 1 => accD h a b d0 k + ovl (dFrom h (d0 + k)) (dTo h (d0 + k)) a b
def nD (a b : Nat) : Nat := (b + 1439) / 1440 - a / 1440
def openIn (h : Nat → Int) (a b : Nat) : Int := accD h a b (a / 1440) (nD a b)
theorem accD_bd (h : Nat → Int) (a b : Nat) (d0 k : Nat) (hab : a ≤ b) : 0 ≤ accD h a b d0 k ∧ accD h a b d0 k ≤ (k : Int) * ((b : Int) - (a : Int)) := by
  induction k with
  | zero => simp [accD]
  | succ k ih =>
    have h1 : 0 ≤ ovl (dFrom h (d0 + k)) (dTo h (d0 + k)) a b ∧ ovl (dFrom h (d0 + k)) (dTo h (d0 + k)) a b ≤ (b : Int) - (a : Int) := by unfold ovl; omega
    unfold accD
    have h2 : ((k + 1 : Nat) : Int) * ((b : Int) - (a : Int)) = (k : Int) * ((b : Int) - (a : Int)) + ((b : Int) - (a : Int)) := by
      rw [Int.natCast_add, Int.add_mul]; simp
    omega
theorem accD_le (h : Nat → Int) (a b : Nat) (d0 k : Nat) (hab : a ≤ b) (hb : b ≤ 5761440) (hk : k ≤ 4010) : 0 ≤ accD h a b d0 k ∧ accD h a b d0 k ≤ 100000000000 := by
  have h1 := accD_bd h a b d0 k hab
  have h2 : (k : Int) * ((b : Int) - (a : Int)) ≤ 4010 * 5761440 := by
    have h3 : (k : Int) * ((b : Int) - (a : Int)) ≤ 4010 * ((b : Int) - (a : Int)) := Int.mul_le_mul_of_nonneg_right (by omega) (by omega)
    omega
  omega
theorem nD_lt {a b : Nat} (k : Nat) : k < nD a b ↔ (a / 1440 + k) * 1440 < b := by unfold nD; omega
theorem nD_le {a b : Nat} (hb : b ≤ 5761440) : nD a b ≤ 4001 := by unfold nD; omega
def MinRel (w : World) (r : ByteArray) (h : Nat → Int) (a b d0 : Nat) (v i : Value) (wr : World) : Prop :=
  ∃ k : Nat, k ≤ nD a b ∧ i = .int .i64 ((d0 : Int) + (k : Int)) ∧ v = .int .i64 (accD h a b d0 k) ∧ G w wr none ∧ Bk wr w.heap.size 30 (stC r h) ∧ Bk wr (w.heap.size + 1) 27 #[.int .i64 (a : Int), .int .i64 (b : Int)]
def minE (r : ByteArray) (h : Nat → Int) (a b : Int) : Int := if stErr [(r, h)] = 0 then winE a b else stErr [(r, h)]
def minR (r : ByteArray) (h : Nat → Int) (a b : Int) : Int := if minE r h a b = 0 then openIn h a.toNat b.toNat else 0
set_option maxRecDepth 100000 in
set_option maxHeartbeats 2000000 in
theorem openMinutes_c (r : ByteArray) (h : Nat → Int) (a b : Int) (w : World) (hr : r.size ≤ 9223372036854775807) (hb : HB h) :
    Calls Try.prog 6 #[.agg (stC r h), .agg #[.int .i64 a, .int .i64 b]] w fun e w' => e = .returned (.tuple #[.int .i64 (minR r h a b), .int .i64 (minE r h a b)]) ∧ G w w' none := by
  have hk : KeysOk [(r, h)] := by intro p hp; obtain rfl := List.mem_singleton.1 hp; exact ⟨hr, hb⟩
  have HB1 := Lib.hid ((((Bk.new w 30 (stC r h)).alloc (.cells #[.int .i64 a, .int .i64 b] 27))).at_)
  have hB0 := (((Bk.new w 30 (stC r h)).alloc (.cells #[.int .i64 a, .int .i64 b] 27))).alloc (.cells (stC r h) 30)
  have hW0 := (Bk.newAt (w := w.alloc (.cells (stC r h) 30)) (b := w.heap.size + 1) (by simp) 27 #[.int .i64 a, .int .i64 b]).alloc (.cells (stC r h) 30)
  by_cases h0 : stErr [(r, h)] = 0
  · by_cases hw : winB a b = true
    · simp only [winB, Bool.and_eq_true, decide_eq_true_eq] at hw
      obtain ⟨⟨a0, ab⟩, be⟩ := hw
      obtain ⟨a, rfl⟩ := Int.eq_ofNat_of_zero_le a0
      obtain ⟨b, rfl⟩ := Int.eq_ofNat_of_zero_le (show 0 ≤ b by omega)
      have hwt : winB (a : Int) (b : Int) = true := by simp [winB]; omega
      have H : Hid (minR r h (a : Int) (b : Int) = openIn h a b ∧ minE r h (a : Int) (b : Int) = 0) := Lib.hid (by simp [minR, minE, winE, h0, hwt])
      have HW := Lib.hid hwt
      have HLT := Lib.hid (fun k => nD_lt (a := a) (b := b) k)
      have HAC := Lib.hid (fun d0 k hk => accD_le h a b d0 k (by omega) (by omega) hk)
      have HN4 := Lib.hid (nD_le (a := a) (b := b) (by omega))
      obtain ⟨d0, hd0⟩ : ∃ d0 : Nat, a / 1440 = d0 := ⟨_, rfl⟩
      have HD := Lib.hid hd0
      have hdq : (a : Int) / 1440 = (d0 : Int) := by omega
      have hd4 : d0 ≤ 4001 := by omega
      have ha9 : (a : Int) ≤ 10000000 := by omega
      have hb9 : (b : Int) ≤ 10000000 := by omega
      clear be hd0 hwt ab
      go_enter Try.func6, Try.ntmps6
      go_wp2_with (refine wpList_load_at rfl 30 _ rfl ⟨w.heap.size, 0, none⟩ rfl #[.string r, .int .i64 (h 0), .int .i64 (h 1), .int .i64 (h 2), .int .i64 (h 3), .int .i64 (h 4), .int .i64 (h 5), .int .i64 (h 6), .int .i64 (h 7), .int .i64 (h 8), .int .i64 (h 9), .int .i64 (h 10), .int .i64 (h 11), .int .i64 (h 12), .int .i64 (h 13)] _ HB1.out Try.underlying30 rfl (st_info _ _) ?_)
      refine (checkStations_c _ [(r, h)] _ (rd_one r h (by simp)) hk (by simp)).mono ?_; rintro e w1 ⟨rfl, hG1⟩
      have hB1 := hB0.quiet hG1
      have hW1 := hW0.quiet hG1
      have hG : G w w1 none := ((((G.refl w none).alloc _).alloc _).alloc _).trans hG1
      rw [h0]
      clear hG1 h0 hB0 hW0 HB1
      have hwl := hW1.lt
      have hc0 : w1.cell? ⟨w.heap.size + 1, 0, none⟩ = some (.int .i64 (a : Int)) := hW1.cell 0
      have hc1 : w1.cell? ⟨w.heap.size + 1, 1, none⟩ = some (.int .i64 (b : Int)) := hW1.cell 1
      go_wp2_with fail
      refine (isWindow_c _ _ _).mono ?_; rintro e w2 ⟨rfl, hG2⟩
      rw [HW.out]
      have hB2 := hB1.quiet hG2
      have hW2 := hW1.quiet hG2
      have hG02 := hG.trans hG2
      clear hG hG2 hB1 hW1 hc0 hc1 hwl
      have hwl := hW2.lt
      have hc0 : w2.cell? ⟨w.heap.size + 1, 0, none⟩ = some (.int .i64 (a : Int)) := hW2.cell 0
      have hc1 : w2.cell? ⟨w.heap.size + 1, 1, none⟩ = some (.int .i64 (b : Int)) := hW2.cell 1
      go_wp2_with fail
      clear hc0 hc1 hwl
      go_loopw [7, 8] (MinRel w r h a b d0) (fun _ i _ => (20000 - (intOf i)).toNat)
      case atStart => exact ⟨0, by omega, congrArg (Value.int .i64) (by omega), rfl, hG02, hB2, hW2⟩
      case round =>
        clear hG02 hB2 hW2
        obtain ⟨k, hk, rfl, rfl, hG2, hB2, hW2⟩ := hrel
        have hlt := HLT.out k
        have hac := HAC.out d0 k (by have := HN4.out; omega)
        rw [HD.out] at hlt
        have hc0 : wr.cell? ⟨w.heap.size + 1, 0, none⟩ = some (.int .i64 (a : Int)) := hW2.cell 0
        have hc1 : wr.cell? ⟨w.heap.size + 1, 1, none⟩ = some (.int .i64 (b : Int)) := hW2.cell 1
        have hwl := hW2.lt
        obtain ⟨ac0, ac1⟩ := hac
        by_cases hl : k < nD a b
        · have hlt2 : ((d0 : Int) + (k : Int)) * 1440 < (b : Int) := by have := hlt.1 hl; omega
          have HK : Hid (k + 1 ≤ nD a b) := Lib.hid (by omega)
          have HA : Hid (accD h a b d0 (k + 1) = accD h a b d0 k + ovl (dFrom h (d0 + k)) (dTo h (d0 + k)) a b) := Lib.hid rfl
          have hkk : (k : Int) ≤ 4010 := by have := HN4.out; omega
          clear hlt hk hl
          generalize accD h a b d0 k = acc at ac0 ac1 HA ⊢
          go_wp2_with fail
          clear hc0 hc1 hwl
          refine wp_region_quiet (C := fun w' => G wr w' none) (by kernel_rfl) (by kernel_rfl) ((G.refl _ _).drew) ?_
          refine wpQuiet_op rfl (fun K hK => ?_); refine quiet_value _ (fun _ _ => rfl) (hK _ ?_); clear hK K
          refine wpQuiet_op rfl (fun K hK => ?_); refine quiet_load_row 30 _ rfl w.heap.size rfl 30 (stC r h) _ (fun w' hw' => hB2.quiet hw') Try.underlying30 rfl (st_info _ _) (hK _ ?_); clear hK K
          refine wpQuiet_op rfl (fun K hK => ?_); refine quiet_value _ (fun _ _ => rfl) (hK _ ?_); clear hK K
          have hdf := dFrom_bd hb (d0 + k)
          have hdt := dTo_bd hb (d0 + k)
          have hk7 : (d0 : Int) + (k : Int) ≤ 7000 := by omega
          have ho := HA.out
          have hoB : 0 ≤ ovl (dFrom h (d0 + k)) (dTo h (d0 + k)) a b ∧ ovl (dFrom h (d0 + k)) (dTo h (d0 + k)) a b ≤ 10000000 := by unfold ovl; omega
          have HOV := Lib.hid (fun w => overlap_c (dFrom h (d0 + k)) (dTo h (d0 + k)) (a : Int) (b : Int) w (by unfold small; omega) (by unfold small; omega) (by unfold small; omega) (by unfold small; omega))
          have HHO := Lib.hid (fun w => hoursOn_c r h (d0 + k) w hb (by omega))
          clear hdf hdt ho hb
          generalize ovl (dFrom h (d0 + k)) (dTo h (d0 + k)) a b = O at HA hoB HOV
          generalize dFrom h (d0 + k) = x at HOV HHO
          generalize dTo h (d0 + k) = z at HOV HHO
          obtain ⟨o0, o1⟩ := hoB
          refine wpQuiet_op rfl (fun K hK => ?_); refine quiet_call 18 #[.agg (stC r h), .int .i64 ((d0 : Int) + (k : Int))] (.agg #[.int .i64 x, .int .i64 z]) (fun _ => by go_simp) (fun w' hw' => by rw [show (d0 : Int) + (k : Int) = ((d0 + k : Nat) : Int) by omega]; exact G.callNone hw' (HHO.out w')) (hK _ ?_); clear hK K
          refine wpQuiet_op rfl (fun K hK => ?_); refine quiet_load_row 27 _ rfl (w.heap.size + 1) rfl 27 #[.int .i64 (a : Int), .int .i64 (b : Int)] _ (fun w' hw' => hW2.quiet hw') Try.underlying27 rfl (wn_info _ _) (hK _ ?_); clear hK K
          refine wpQuiet_op rfl (fun K hK => ?_); refine quiet_call 17 #[.agg #[.int .i64 x, .int .i64 z], .agg #[.int .i64 (a : Int), .int .i64 (b : Int)]] (.int .i64 O) (fun _ => by go_simp) (fun w' hw' => G.callNone hw' (HOV.out w')) (hK _ ?_); clear hK K
          refine wpQuiet_op rfl (fun K hK => ?_); refine quiet_value (.int .i64 (acc + O)) (fun _ _ => by go_simp; exact IntWalk.i64_in _ (by omega)) (hK _ ?_); clear hK K
          refine wpQuiet_op rfl (fun K hK => ?_); refine quiet_value _ (fun _ _ => rfl) (hK _ ?_); clear hK K
          refine wpQuiet_nil ?_
          intro w5 hG5
          go_simp
          go_wp2_with fail
          refine ⟨⟨k + 1, HK.out, congrArg (Value.int .i64) (by omega), congrArg (Value.int .i64) HA.out.symm, hG2.trans hG5, hB2.quiet hG5, hW2.quiet hG5⟩, ?_⟩
          simp only [intOf]
          omega
        · obtain rfl : k = nD a b := by omega
          have hge : (b : Int) ≤ ((d0 : Int) + (nD a b : Int)) * 1440 := by have h8 : ¬ (d0 + nD a b) * 1440 < b := fun hn => hl (hlt.2 hn); omega
          have HF : Hid (openIn h a b = accD h a b d0 (nD a b)) := Lib.hid (by rw [← HD.out]; rfl)
          have hn9 : (nD a b : Int) ≤ 4010 := by have := HN4.out; omega
          clear hlt hl hk
          generalize accD h a b d0 (nD a b) = acc at ac0 ac1 HF ⊢
          generalize nD a b = n at hge hn9 ⊢
          go_wp2_with fail
          go_ret2
          exact ⟨by rw [H.out.1, H.out.2, HF.out]; rfl, hG2⟩
    · have H : Hid (minR r h a b = 0 ∧ minE r h a b = 1) := Lib.hid (by simp [minR, minE, winE, h0, hw])
      have HW : Hid (winB a b = false) := Lib.hid (by simpa using hw)
      clear hw
      go_enter Try.func6, Try.ntmps6
      go_wp2_with (refine wpList_load_at rfl 30 _ rfl ⟨w.heap.size, 0, none⟩ rfl #[.string r, .int .i64 (h 0), .int .i64 (h 1), .int .i64 (h 2), .int .i64 (h 3), .int .i64 (h 4), .int .i64 (h 5), .int .i64 (h 6), .int .i64 (h 7), .int .i64 (h 8), .int .i64 (h 9), .int .i64 (h 10), .int .i64 (h 11), .int .i64 (h 12), .int .i64 (h 13)] _ HB1.out Try.underlying30 rfl (st_info _ _) ?_)
      refine (checkStations_c _ [(r, h)] _ (rd_one r h (by simp)) hk (by simp)).mono ?_; rintro e w1 ⟨rfl, hG1⟩
      have hW1 := hW0.quiet hG1
      have hG : G w w1 none := ((((G.refl w none).alloc _).alloc _).alloc _).trans hG1
      rw [h0]
      clear hG1 h0 hB0 hW0 HB1
      have hwl := hW1.lt
      have hc0 : w1.cell? ⟨w.heap.size + 1, 0, none⟩ = some (.int .i64 a) := hW1.cell 0
      have hc1 : w1.cell? ⟨w.heap.size + 1, 1, none⟩ = some (.int .i64 b) := hW1.cell 1
      go_wp2_with fail
      refine (isWindow_c _ _ _).mono ?_; rintro e w2 ⟨rfl, hG2⟩
      rw [HW.out]
      go_wp2_with fail
      go_ret2
      exact ⟨by rw [H.out.1, H.out.2]; rfl, hG.trans hG2⟩
  · have H : Hid (minR r h a b = 0 ∧ minE r h a b = stErr [(r, h)]) := Lib.hid (by simp [minR, minE, h0])
    have h1 : (stErr [(r, h)] != 0) = true := by rw [bne_iff_ne]; exact h0
    clear h0
    go_enter Try.func6, Try.ntmps6
    go_wp2_with (refine wpList_load_at rfl 30 _ rfl ⟨w.heap.size, 0, none⟩ rfl #[.string r, .int .i64 (h 0), .int .i64 (h 1), .int .i64 (h 2), .int .i64 (h 3), .int .i64 (h 4), .int .i64 (h 5), .int .i64 (h 6), .int .i64 (h 7), .int .i64 (h 8), .int .i64 (h 9), .int .i64 (h 10), .int .i64 (h 11), .int .i64 (h 12), .int .i64 (h 13)] _ HB1.out Try.underlying30 rfl (st_info _ _) ?_)
    refine (checkStations_c _ [(r, h)] _ (rd_one r h (by simp)) hk (by simp)).mono ?_; rintro e w1 ⟨rfl, hG1⟩
    go_wp2_with fail
    go_ret2
    exact ⟨by rw [H.out.1, H.out.2]; rfl, ((((G.refl w none).alloc _).alloc _).alloc _).trans hG1⟩
end Go.Proofs.Ytbieiefbgcgogaa
