/- Odds: casesOf, for any bookings that are right. -/
import Derived.Test.YtgddchdpeflmoaaDoorOdm
import Derived.Test.YtgddchdpeflmoaaDoorBkd
namespace Go.Proofs.YtgddchdpeflmoaaDoor
open Go.RowKit

def pcs (l : List Bo) : List Int := l.map fun x => x.2.2.2.2.2
def PcOk (l : List Bo) : Prop := ∀ p ∈ pcs l, 0 ≤ p ∧ p ≤ 100
theorem pow_le (k : Nat) (h : k ≤ 9) : (100 : Int) ^ k ≤ 1000000000000000000 := by
  have : k = 0 ∨ k = 1 ∨ k = 2 ∨ k = 3 ∨ k = 4 ∨ k = 5 ∨ k = 6 ∨ k = 7 ∨ k = 8 ∨ k = 9 := by omega
  rcases this with rfl | rfl | rfl | rfl | rfl | rfl | rfl | rfl | rfl | rfl <;> decide
theorem pow_pos100 (k : Nat) : (0 : Int) < 100 ^ k := Int.pow_pos (by omega)
theorem made_ints (n : Nat) : madeCells (Value.cells (.int .i64 0)) n = ic (List.replicate n 0) := by
  apply Array.ext
  · simp [madeCells, ic]
  · intro k h1 h2
    simp [madeCells, ic, Value.cells, Nat.mod_one]
theorem make_ints (n : Nat) (hn : n ≤ 1000) (w : World) : (Instr.makeSlice 22 (.int .i64 (n : Int)) (.int .i64 (n : Int))).run Tryd.prog w = .ok (.slice (some ⟨w.heap.size, 0, none⟩) n n) (w.alloc (.cells (ic (List.replicate n 0)) 3)) := by
  obtain ⟨i0, hi, hz0, hz1, hz2⟩ := info_parts (show (Tryd.prog.info? 3).map (fun i => (i.zero, i.size, i.bytes)) = some (some (.int .i64 0), 1, 8) by kernel_rfl)
  have h := run_make (P := Tryd.prog) w 22 3 i0 (.int .i64 0) Tryd.underlying22 hi hz0 .i64 .i64 n n (by omega) (by omega) (by rw [hz2]; omega) (by omega)
  rw [h, hz1, Int.toNat_natCast, Nat.mul_one, made_ints]
theorem take_le {c : List Int} (h : NN c) (j : Nat) : (c.take j).sum ≤ c.sum := by
  induction c generalizing j with
  | nil => simp
  | cons x r ih =>
    have h1 := h x (List.mem_cons_self ..)
    have hr : NN r := fun y hy => h y (List.mem_cons_of_mem _ hy)
    cases j with
    | zero =>
      have := hr.sum
      simp only [List.take_zero, List.sum_nil, List.sum_cons]
      omega
    | succ j =>
      have := ih hr j
      simp only [List.take_succ_cons, List.sum_cons]
      omega
theorem nx_bnds {c : List Int} {p P : Int} {j : Nat} (cn : NN c) (p0 : 0 ≤ p) (p1 : p ≤ 100) (hj : j < c.length) (hs : c.sum = P) :
    0 ≤ c.getD j 0 ∧ (0 ≤ c.getD j 0 * (100 - p) ∧ c.getD j 0 * (100 - p) ≤ P * 100) ∧ (0 ≤ c.getD j 0 * p ∧ c.getD j 0 * p ≤ P * 100) ∧
    (0 ≤ (nx c p j).getD j 0 ∧ (nx c p j).getD j 0 + c.getD j 0 * (100 - p) ≤ P * 100) ∧ (0 ≤ (nx c p j).getD (j + 1) 0 ∧ (nx c p j).getD (j + 1) 0 + c.getD j 0 * p ≤ P * 100) := by
  have h1 := cn.getD j
  have hn := nx_nn cn p0 p1 j
  have h2 := hn.le_sum j
  have h3 := hn.le_sum (j + 1)
  have h4 := nx_sum c p j (by omega)
  have h5 := take_sum c j hj
  have h6 := take_le cn (j + 1)
  have h7 := hn.getD j
  have h8 := hn.getD (j + 1)
  have m1 := Int.mul_nonneg h1 (show 0 ≤ 100 - p by omega)
  have m2 := Int.mul_nonneg h1 p0
  have m3 : c.getD j 0 * (100 - p) + c.getD j 0 * p = 100 * c.getD j 0 := by rw [← Int.mul_add]; rw [show (100 - p + p : Int) = 100 by omega, Int.mul_comm]
  have h9 := (show NN (c.take j) from fun x hx => cn x (List.mem_of_mem_take hx)).sum
  omega
def CoRelO (w : World) (l : List Bo) (s4 s5 s14 : Value) (wr : World) : Prop :=
  ∃ (k g : Nat), k ≤ l.length ∧ s14 = .int .i64 k ∧ s4 = .slice (some ⟨g, 0, none⟩) (k + 1) (k + 1) ∧ s5 = .int .i64 (100 ^ k) ∧ Bk wr g 3 (ic (cas ((pcs l).take k))) ∧ w.heap.size ≤ g ∧ G w wr none
def CoRelI (w : World) (c : List Int) (p : Int) (n g g2 gb : Nat) (x : Bo) (s24 : Value) (wr : World) : Prop :=
  ∃ j : Nat, j ≤ n ∧ s24 = .int .i64 j ∧ Bk wr g 3 (ic c) ∧ Bk wr g2 3 (ic (nx c p j)) ∧ Bk wr gb 92 (boC x) ∧ G w wr none
set_option maxRecDepth 100000 in
set_option maxHeartbeats 8000000 in
theorem casesOf_c (v : Value) (l : List Bo) (w : World) (hr : RdR w 6 boC v l) (hn : l.length ≤ 9) (hp : PcOk l) :
    Calls Tryd.prog 35 #[v] w fun e w' => ∃ g, e = .returned (.tuple #[.slice (some ⟨g, 0, none⟩) (l.length + 1) (l.length + 1), .int .i64 (100 ^ l.length)]) ∧ Bk w' g 3 (ic (cas (pcs l))) ∧ w.heap.size ≤ g ∧ G w w' none := by
  have HR := Lib.hid hr
  have HPC := Lib.hid hp
  obtain ⟨ad, cap, rfl, hcap, hm⟩ := RdR.form hr
  clear hr hp
  go_enter Tryd.func35, Tryd.ntmps35
  go_wp2_with fail
  go_loopw [4, 5, 14] (CoRelO w l) (fun _ _ i _ => l.length - (intOf i).toNat)
  case atStart => exact ⟨0, w.heap.size, by omega, rfl, rfl, rfl, Bk.new w _ _, Nat.le_refl _, (G.refl _ _).alloc _⟩
  case round =>
    obtain ⟨k, g, hkl, rfl, rfl, rfl, hB, hgw, hG⟩ := hrel
    by_cases hlt : k < l.length
    · obtain ⟨x, hx⟩ : ∃ x, l[k]? = some x := ⟨_, List.getElem?_eq_getElem hlt⟩
      have hpx : (pcs l)[k]? = some x.2.2.2.2.2 := by unfold pcs; rw [List.getElem?_map, hx]; rfl
      obtain ⟨p0, p1⟩ := HPC.out _ (List.mem_of_getElem? hpx)
      have hps : (pcs l).take (k + 1) = (pcs l).take k ++ [x.2.2.2.2.2] := by
        have hk' : k < (pcs l).length := (List.getElem?_eq_some_iff.1 hpx).1
        rw [List.take_succ_eq_append_getElem hk', (List.getElem?_eq_some_iff.1 hpx).2]
      obtain ⟨cl, cn, cs⟩ := cas_ok ((pcs l).take k) (fun q hq => HPC.out q (List.mem_of_mem_take hq))
      have htl : ((pcs l).take k).length = k := by rw [List.length_take]; unfold pcs; rw [List.length_map]; omega
      rw [htl] at cl cs
      have HC : Hid (cas ((pcs l).take (k + 1)) = nx (cas ((pcs l).take k)) x.2.2.2.2.2 (k + 1)) := Lib.hid (by rw [hps, cas_snoc, cl])
      obtain ⟨bb, bo, rfl, hbb, _⟩ := RdR.elem boC_sz HR.out hG hx
      have HW := Lib.hid (boRow HR.out hG hx)
      have hms : ∀ w : World, (Instr.makeSlice 22 (.int .i64 ((k : Int) + 1 + 1)) (.int .i64 ((k : Int) + 1 + 1))).run Tryd.prog w = .ok (.slice (some ⟨w.heap.size, 0, none⟩) (k + 1 + 1) (k + 1 + 1)) (w.alloc (.cells (ic (List.replicate (k + 1 + 1) 0)) 3)) := fun w => make_ints (k + 1 + 1) (by omega) w
      have hgl := hB.lt
      have hBx := Bk.new wr 92 (boC x)
      have hB1 := hB.alloc (.cells (boC x) 92)
      have hG1 := hG.alloc (.cells (boC x) 92)
      have hP9 := pow_le k (by omega)
      have hP10 := pow_le (k + 1) (by omega)
      have hPs : (100 : Int) ^ (k + 1) = 100 ^ k * 100 := Int.pow_succ ..
      have hPp := pow_pos100 k
      obtain ⟨P, hPd⟩ : ∃ P : Int, (100 : Int) ^ k = P := ⟨_, rfl⟩
      have HPd := Lib.hid hPd
      have HPs := Lib.hid hPs
      rw [hPs] at hP10
      rw [hPd] at cs hP9 hP10 hPp ⊢
      clear hx hpx hps hPd hPs hB hG htl
      obtain ⟨c, hc⟩ : ∃ c, cas ((pcs l).take k) = c := ⟨_, rfl⟩
      rw [hc] at cl cn cs HC hB1
      clear hc
      go_wp2_with (refine wpList_load_at rfl 92 _ rfl ⟨bb, bo + k * 6, none⟩ rfl #[.string x.1, .string x.2.1, .int .i64 x.2.2.1, .int .i64 x.2.2.2.1, .int .i64 x.2.2.2.2.1, .int .i64 x.2.2.2.2.2] _ HW.out Tryd.underlying92 rfl (bo_info x) ?_)
      have hX4 : Bk ((wr.alloc (.cells #[.string x.1, .string x.2.1, .int .i64 x.2.2.1, .int .i64 x.2.2.2.1, .int .i64 x.2.2.2.2.1, .int .i64 x.2.2.2.2.2] 92)).alloc (.cells (ic (List.replicate (k + 1 + 1) 0)) 3)) wr.heap.size 92 (boC x) := (Bk.new wr 92 (boC x)).alloc _
      have hN4 : Bk ((wr.alloc (.cells #[.string x.1, .string x.2.1, .int .i64 x.2.2.1, .int .i64 x.2.2.2.1, .int .i64 x.2.2.2.2.1, .int .i64 x.2.2.2.2.2] 92)).alloc (.cells (ic (List.replicate (k + 1 + 1) 0)) 3)) (wr.heap.size + 1) 3 (ic (nx c x.2.2.2.2.2 0)) := by
        have h := Bk.newAt (w := (wr.alloc (.cells #[.string x.1, .string x.2.1, .int .i64 x.2.2.1, .int .i64 x.2.2.2.1, .int .i64 x.2.2.2.2.1, .int .i64 x.2.2.2.2.2] 92))) (b := wr.heap.size + 1) (by simp) 3 (ic (List.replicate (k + 1 + 1) 0))
        have e : nx c x.2.2.2.2.2 0 = List.replicate (k + 1 + 1) 0 := by unfold nx; rw [cl]
        rw [e]
        exact h
      have hB4 : Bk ((wr.alloc (.cells #[.string x.1, .string x.2.1, .int .i64 x.2.2.1, .int .i64 x.2.2.2.1, .int .i64 x.2.2.2.2.1, .int .i64 x.2.2.2.2.2] 92)).alloc (.cells (ic (List.replicate (k + 1 + 1) 0)) 3)) g 3 (ic c) := hB1.alloc _
      have hG4 : G w ((wr.alloc (.cells #[.string x.1, .string x.2.1, .int .i64 x.2.2.1, .int .i64 x.2.2.2.1, .int .i64 x.2.2.2.2.1, .int .i64 x.2.2.2.2.2] 92)).alloc (.cells (ic (List.replicate (k + 1 + 1) 0)) 3)) none := hG1.alloc _
      clear hBx hB1 hG1 hms HW
      generalize ((wr.alloc (.cells #[.string x.1, .string x.2.1, .int .i64 x.2.2.1, .int .i64 x.2.2.2.1, .int .i64 x.2.2.2.2.1, .int .i64 x.2.2.2.2.2] 92)).alloc (.cells (ic (List.replicate (k + 1 + 1) 0)) 3)) = w4 at hX4 hN4 hB4 hG4 ⊢
      generalize wr.heap.size = gb at hX4 hN4 hgl ⊢
      go_loopw [24] (CoRelI w c x.2.2.2.2.2 (k + 1) g (gb + 1) gb x) (fun i _ => k + 1 - (intOf i).toNat)
      case atStart => exact ⟨0, by omega, rfl, hB4, hN4, hX4, hG4⟩
      case round =>
        clear hX4 hN4 hB4 hG4
        obtain ⟨j, hjk, rfl, hB, hN, hX, hG⟩ := hrel
        by_cases hj : j < k + 1
        · obtain ⟨b0, ⟨b1, b2⟩, ⟨b3, b4⟩, ⟨b5, b6⟩, b7, b8⟩ := nx_bnds cn p0 p1 (show j < c.length by omega) cs
          have hcj : World.cell? _ ⟨g, j, none⟩ = some (.int .i64 (c.getD j 0)) := (hB.cell j).trans (ic_at c j (by omega))
          have ha0 : World.cell? _ ⟨gb + 1, j, none⟩ = some (.int .i64 ((nx c x.2.2.2.2.2 j).getD j 0)) := (hN.cell j).trans (ic_at _ j (by rw [nx_len]; omega))
          have hp5 : World.cell? _ ⟨gb, 5, none⟩ = some (.int .i64 x.2.2.2.2.2) := hX.cell 5
          have fr0 := hN.free j
          have HNX : Hid (nx c x.2.2.2.2.2 (j + 1) = ((nx c x.2.2.2.2.2 j).set j ((nx c x.2.2.2.2.2 j).getD j 0 + c.getD j 0 * (100 - x.2.2.2.2.2))).set (j + 1) ((nx c x.2.2.2.2.2 j).getD (j + 1) 0 + c.getD j 0 * x.2.2.2.2.2)) := Lib.hid rfl
          have HL := Lib.hid (nx_len c x.2.2.2.2.2 j)
          have HIC : Hid (∀ (m : List Int), m.length = k + 1 + 1 → (ic m)[j + 1]? = some (.int .i64 (m.getD (j + 1) 0))) := Lib.hid fun m hm => ic_at m (j + 1) (by omega)
          have HGD : Hid (∀ v : Int, ((nx c x.2.2.2.2.2 j).set j v).getD (j + 1) 0 = (nx c x.2.2.2.2.2 j).getD (j + 1) 0) := Lib.hid fun v => gdset_ne _ _ _ _ (by omega)
          obtain ⟨A0, hA0⟩ : ∃ A0, (nx c x.2.2.2.2.2 j).getD j 0 = A0 := ⟨_, rfl⟩
          obtain ⟨A1, hA1⟩ : ∃ A1, (nx c x.2.2.2.2.2 j).getD (j + 1) 0 = A1 := ⟨_, rfl⟩
          obtain ⟨C, hC⟩ : ∃ C, c.getD j 0 = C := ⟨_, rfl⟩
          rw [hA0, hC] at HNX
          rw [hA1] at HNX HGD
          rw [hA0] at ha0 b5 b6
          rw [hA1] at b7 b8
          rw [hC] at hcj b0 b1 b2 b3 b4 b6 b8
          have hw1 : IntKind.i64.wrap (100 - x.2.2.2.2.2) = 100 - x.2.2.2.2.2 := by rw [IntKind.wrap_i64]; omega
          obtain ⟨M1, hM1⟩ : ∃ M1, C * (100 - x.2.2.2.2.2) = M1 := ⟨_, rfl⟩
          obtain ⟨M2, hM2⟩ : ∃ M2, C * x.2.2.2.2.2 = M2 := ⟨_, rfl⟩
          have hw2 : IntKind.i64.wrap (C * (100 - x.2.2.2.2.2)) = M1 := by rw [hM1, IntKind.wrap_i64]; omega
          have hw4 : IntKind.i64.wrap (C * x.2.2.2.2.2) = M2 := by rw [hM2, IntKind.wrap_i64]; omega
          rw [hM1] at b6 HNX
          rw [hM2] at b8 HNX
          obtain ⟨V1, hV1⟩ : ∃ V1, A0 + M1 = V1 := ⟨_, rfl⟩
          obtain ⟨V2, hV2⟩ : ∃ V2, A1 + M2 = V2 := ⟨_, rfl⟩
          have hw3 : IntKind.i64.wrap (A0 + M1) = V1 := by rw [hV1, IntKind.wrap_i64]; omega
          have hw5 : IntKind.i64.wrap (A1 + M2) = V2 := by rw [hV2, IntKind.wrap_i64]; omega
          rw [hV1, hV2] at HNX
          have hj0 : (0 : Int) ≤ (j : Int) := by omega
          have hj1 : (j : Int) < (k : Int) + 1 := by omega
          have hj2 : (j : Int) < (k : Int) + 1 + 1 := by omega
          have hj3 : (j : Int) + 1 < (k : Int) + 1 + 1 := by omega
          have hj4 : (0 : Int) ≤ (j : Int) + 1 := by omega
          have hwj : IntKind.i64.wrap ((j : Int) + 1) = (j : Int) + 1 := by rw [IntKind.wrap_i64]; omega
          have hjt : ((j : Int) + 1).toNat = j + 1 := by omega
          have hgg : g ≠ gb + 1 := by omega
          have hwg : w.heap.size ≤ gb + 1 := by omega
          clear hA0 hA1 hC hM1 hM2 hV1 hV2 b0 b1 b2 b3 b4 b5 b6 b7 b8
          go_wp2_with fail
          go_still_tail 11, (by kernel_rfl)
          change wpList _ _ _ _ _ wr.drew
          have hBd := hB.quiet ((G.refl wr none).drew)
          have hNd := hN.quiet ((G.refl wr none).drew)
          have hXd := hX.quiet ((G.refl wr none).drew)
          have hGd := hG.drew
          have ha0d : wr.drew.cell? ⟨gb + 1, j, none⟩ = some (.int .i64 A0) := ha0
          clear hB hN hX hG hcj ha0 hp5 fr0
          generalize wr.drew = w5 at hBd hNd hXd hGd ha0d ⊢
          have fr5 := hNd.free j
          have hN6 : Bk (w5.setCell ⟨gb + 1, j, none⟩ (.int .i64 V1)) (gb + 1) 3 (ic ((nx c x.2.2.2.2.2 j).set j V1)) := by
            have h := hNd.set j (.int .i64 V1)
            rw [ic_set] at h
            exact h
          have hB6 := hBd.far (p := ⟨gb + 1, j, none⟩) hgg (.int .i64 V1)
          have hX6 := hXd.far (p := ⟨gb + 1, j, none⟩) (show gb ≠ gb + 1 by omega) (.int .i64 V1)
          have hG6 := hGd.setCell (p := ⟨gb + 1, j, none⟩) (.inl hwg) (.int .i64 V1)
          clear hBd hNd hXd hGd
          go_wp2_with fail
          generalize w5.setCell ⟨gb + 1, j, none⟩ (.int .i64 V1) = w6 at hN6 hB6 hX6 hG6 ⊢
          have ha1 : w6.cell? ⟨gb + 1, j + 1, none⟩ = some (.int .i64 A1) := by
            rw [hN6.cell, HIC.out _ (by rw [List.length_set, HL.out, cl]), HGD.out]
          have hp5 : w6.cell? ⟨gb, 5, none⟩ = some (.int .i64 x.2.2.2.2.2) := hX6.cell 5
          have fr6 := hN6.free (j + 1)
          clear ha0d fr5
          go_still_tail 11, (by kernel_rfl)
          change wpList _ _ _ _ _ w6.drew
          have hBd := hB6.quiet ((G.refl w6 none).drew)
          have hNd := hN6.quiet ((G.refl w6 none).drew)
          have hXd := hX6.quiet ((G.refl w6 none).drew)
          have hGd := hG6.drew
          have ha1d : w6.drew.cell? ⟨gb + 1, j + 1, none⟩ = some (.int .i64 A1) := ha1
          clear hB6 hN6 hX6 hG6 ha1 hp5 fr6
          generalize w6.drew = w7 at hBd hNd hXd hGd ha1d ⊢
          have fr7 := hNd.free (j + 1)
          have hN8 : Bk (w7.setCell ⟨gb + 1, j + 1, none⟩ (.int .i64 V2)) (gb + 1) 3 (ic (nx c x.2.2.2.2.2 (j + 1))) := by
            have h := hNd.set (j + 1) (.int .i64 V2)
            rw [ic_set, ← HNX.out] at h
            exact h
          have hB8 := hBd.far (p := ⟨gb + 1, j + 1, none⟩) hgg (.int .i64 V2)
          have hX8 := hXd.far (p := ⟨gb + 1, j + 1, none⟩) (show gb ≠ gb + 1 by omega) (.int .i64 V2)
          have hG8 := hGd.setCell (p := ⟨gb + 1, j + 1, none⟩) (.inl hwg) (.int .i64 V2)
          clear hBd hNd hXd hGd
          go_wp2_with fail
          go_roundw
          case rel => exact ⟨j + 1, by omega, by go_num, hB8, hN8, hX8, hG8⟩
          case measure => simp [intOf]; omega
        · obtain rfl : j = k + 1 := by omega
          have hnj : ¬ (((k + 1 : Nat) : Int) < ((k + 1 : Nat) : Int)) := by omega
          have hnj2 : ¬ ((k : Int) + 1 < (k : Int) + 1) := by omega
          go_wp2_with fail
          go_roundw
          case rel => exact ⟨k + 1, gb + 1, by omega, by go_num, rfl, by rw [HPs.out, HPd.out], by rw [HC.out]; exact hN, by omega, hG⟩
          case measure => simp [intOf]; omega
    · obtain rfl : k = l.length := by omega
      have hB2 : Bk wr g 3 (ic (cas (pcs l))) := by
        have := hB
        rw [List.take_of_length_le (by unfold pcs; rw [List.length_map]; omega)] at this
        exact this
      go_wp2_with fail
      go_ret2
      exact ⟨g, rfl, hB2, hgw, hG⟩
end Go.Proofs.YtgddchdpeflmoaaDoor
