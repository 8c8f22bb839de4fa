/- Odds: the reference's SpreadOf, for any bookings. -/
import Derived.Test.YtbieiefbgcgogaaDoorOdt
import Derived.Test.YtbieiefbgcgogaaDoorOdi
namespace Go.Proofs.YtbieiefbgcgogaaDoor
open Go.RowKit

theorem and_one (n : Int) : bits .and .i64 n 1 = n % 2 := by
  have h1 : (BitVec.ofInt 64 1).toNat = 2 ^ 1 - 1 := by decide
  have key : (BitVec.ofInt 64 n &&& BitVec.ofInt 64 1).toNat = (n % ((2 ^ 64 : Nat) : Int)).toNat % 2 ^ 1 := by
    rw [BitVec.toNat_and, BitVec.toNat_ofInt, h1, Nat.and_two_pow_sub_one_eq_mod]
  show IntKind.i64.wrap ((BitVec.ofInt 64 n &&& BitVec.ofInt 64 1).toNat : Nat) = n % 2
  rw [key, IntKind.wrap_i64]
  omega
theorem bit_and (N k : Nat) : (bits .and .i64 ((N : Int) / 2 ^ k) 1 == 1) = bitK N k := by
  rw [and_one, show ((2 : Int) ^ k) = ((2 ^ k : Nat) : Int) from (Int.natCast_pow 2 k).symm, ← Int.natCast_ediv]
  unfold bitK
  rw [Bool.eq_iff_iff, beq_iff_eq, beq_iff_eq]
  omega
def SoRelO (w : World) (l : List Bo) (g : Nat) (s19 : Value) (wr : World) : Prop :=
  ∃ N : Nat, N ≤ 2 ^ l.length ∧ s19 = .int .i64 N ∧ Bk wr g 3 (ic (cntL (pcs l) l.length N)) ∧ G w wr none
def SoRelI (w : World) (l : List Bo) (g N : Nat) (s5 s6 s24 : Value) (wr : World) : Prop :=
  ∃ k : Nat, k ≤ l.length ∧ s24 = .int .i64 k ∧ s5 = .int .i64 (prK (pcs l) N k) ∧ s6 = .int .i64 (cnK N k) ∧ Bk wr g 3 (ic (cntL (pcs l) l.length N)) ∧ G w wr none
set_option maxRecDepth 100000 in
set_option maxHeartbeats 8000000 in
theorem spreadOf_c (v : Value) (l : List Bo) (w : World) (hr : RdR w 6 boC v l) (hn : l.length ≤ 9) (hp : PcOk l) :
    Calls Tryd.prog 19 #[v] w fun e w' => ∃ u, e = .returned u ∧ RdR w' 2 frV u (spL l) ∧ G w w' none := by
  have HR := Lib.hid hr
  have HPC := Lib.hid hp
  have HPL : Hid ((pcs l).length = l.length) := Lib.hid (by unfold pcs; rw [List.length_map])
  obtain ⟨ad, cap, rfl, hcap, hm⟩ := RdR.form hr
  clear hr hp
  have hms : ∀ w : World, (Instr.makeSlice 22 (.int .i64 ((l.length : Int) + 1)) (.int .i64 ((l.length : Int) + 1))).run Tryd.prog w = .ok (.slice (some ⟨w.heap.size, 0, none⟩) (l.length + 1) (l.length + 1)) (w.alloc (.cells (ic (List.replicate (l.length + 1) 0)) 3)) := fun w => make_ints (l.length + 1) (by omega) w
  go_enter Tryd.func19, Tryd.ntmps19
  go_wp2_with fail
  have h512 : 2 ^ l.length ≤ 512 := Nat.pow_le_pow_right (show 0 < 2 by omega) hn
  have hw64 : wrap64 (2 ^ l.length) = ((2 ^ l.length : Nat) : Int) := by
    rw [show ((2 : Int) ^ l.length) = ((2 ^ l.length : Nat) : Int) from (Int.natCast_pow 2 l.length).symm]
    generalize 2 ^ l.length = T at h512
    unfold wrap64
    omega
  rw [hw64]
  obtain ⟨T, hT⟩ : ∃ T, 2 ^ l.length = T := ⟨_, rfl⟩
  have HT := Lib.hid hT
  rw [hT] at h512 ⊢
  have hB0 : Bk (w.alloc (.cells (ic (List.replicate (l.length + 1) 0)) 3)) w.heap.size 3 (ic (cntL (pcs l) l.length 0)) := by rw [cntL_zero]; exact Bk.new w _ _
  have hG0 := (G.refl w none).alloc (.cells (ic (List.replicate (l.length + 1) 0)) 3)
  clear hT hw64 hms
  go_loopw [19] (fun s19 wr => SoRelO w l w.heap.size s19 wr) (fun i _ => T - (intOf i).toNat)
  case atStart => exact ⟨0, Nat.zero_le _, rfl, hB0, hG0⟩
  case round =>
    clear hB0 hG0
    obtain ⟨N, hN, rfl, hB, hG⟩ := hrel
    rw [HT.out] at hN
    by_cases hlt : N < T
    · have hki : (N : Int) < (T : Int) := by omega
      go_wp2_with fail
      go_loopw [5, 6, 24] (fun s5 s6 s24 wr => SoRelI w l w.heap.size N s5 s6 s24 wr) (fun _ _ i _ => l.length - (intOf i).toNat)
      case atStart => exact ⟨0, Nat.zero_le _, rfl, rfl, rfl, hB, hG⟩
      case round =>
        clear hB hG
        obtain ⟨k, hk, rfl, rfl, rfl, hB, hG⟩ := hrel
        by_cases hkl : k < l.length
        · obtain ⟨x, hx⟩ : ∃ x, l[k]? = some x := ⟨_, List.getElem?_eq_getElem hkl⟩
          have hpx : (pcs l)[k]? = some x.2.2.2.2.2 := by unfold pcs; rw [List.getElem?_map, hx]; rfl
          obtain ⟨p0, p1⟩ := HPC.out _ (List.mem_of_getElem? hpx)
          have hpg : (pcs l).getD k 0 = x.2.2.2.2.2 := by rw [List.getD_eq_getElem?_getD, hpx]; rfl
          obtain ⟨bb, bo, rfl, hbb, _⟩ := RdR.elem boC_sz HR.out hG hx
          have HW := Lib.hid (boRow HR.out hG hx)
          have hkk : (k : Int) < (l.length : Int) := by omega
          have hk0 : (0 : Int) ≤ (k : Int) := by omega
          obtain ⟨b0, b1⟩ := pr_bnd (pcs l) HPC.out N k (by rw [HPL.out]; omega)
          obtain ⟨d0, d1⟩ := pr_bnd (pcs l) HPC.out N (k + 1) (by rw [HPL.out]; omega)
          have b2 := pow_le k (by omega)
          have d2 := pow_le (k + 1) (by omega)
          have HPK : Hid (prK (pcs l) N (k + 1) = prK (pcs l) N k * (if bitK N k = true then x.2.2.2.2.2 else 100 - x.2.2.2.2.2)) := Lib.hid (by rw [← hpg]; rfl)
          have HCK : Hid (cnK N (k + 1) = cnK N k + (if bitK N k = true then 1 else 0)) := Lib.hid rfl
          have hcn := cn_le N k
          clear hx hpx hpg
          have hbit := bit_and N k
          have hB' : Bk (wr.alloc (.cells (boC x) 33)) w.heap.size 3 (ic (cntL (pcs l) l.length N)) := hB.alloc _
          have hG' := hG.alloc (.cells (boC x) 33)
          have hw1 : IntKind.i64.wrap (100 - x.2.2.2.2.2) = 100 - x.2.2.2.2.2 := by rw [IntKind.wrap_i64]; omega
          cases hbk : bitK N k with
          | true =>
            have HV : Hid (prK (pcs l) N (k + 1) = prK (pcs l) N k * x.2.2.2.2.2) := Lib.hid (by rw [HPK.out, if_pos hbk])
            have HC : Hid (cnK N (k + 1) = cnK N k + 1) := Lib.hid (by rw [HCK.out, if_pos hbk])
            rw [HV.out] at d0 d1
            rw [hbk] at hbit
            have hw2 : IntKind.i64.wrap (prK (pcs l) N k * x.2.2.2.2.2) = prK (pcs l) N k * x.2.2.2.2.2 := by
              generalize prK (pcs l) N k * x.2.2.2.2.2 = V at d0 d1
              rw [IntKind.wrap_i64]; omega
            clear hbk HPK HCK b0 b1 d0 d1
            go_wp2_with (refine wpList_load_at rfl 33 _ rfl ⟨bb, bo + k * 6, none⟩ rfl #[.string x.1, .string x.2.1, .int .i64 x.2.2.1, .int .i64 x.2.2.2.1, .int .i64 x.2.2.2.2.1, .int .i64 x.2.2.2.2.2] _ HW.out Tryd.underlying33 rfl (bo_info x) ?_)
            go_roundw
            case rel => exact ⟨k + 1, by omega, by go_num, by rw [HV.out], by rw [HC.out]; rfl, hB', hG'⟩
            case measure => simp [intOf]; omega
          | false =>
            have HV : Hid (prK (pcs l) N (k + 1) = prK (pcs l) N k * (100 - x.2.2.2.2.2)) := Lib.hid (by rw [HPK.out, if_neg (by rw [hbk]; decide)])
            have HC : Hid (cnK N (k + 1) = cnK N k) := Lib.hid (by rw [HCK.out, if_neg (by rw [hbk]; decide)]; rfl)
            rw [HV.out] at d0 d1
            rw [hbk] at hbit
            have hw2 : IntKind.i64.wrap (prK (pcs l) N k * (100 - x.2.2.2.2.2)) = prK (pcs l) N k * (100 - x.2.2.2.2.2) := by
              generalize prK (pcs l) N k * (100 - x.2.2.2.2.2) = V at d0 d1
              rw [IntKind.wrap_i64]; omega
            clear hbk HPK HCK b0 b1 d0 d1
            go_wp2_with (refine wpList_load_at rfl 33 _ rfl ⟨bb, bo + k * 6, none⟩ rfl #[.string x.1, .string x.2.1, .int .i64 x.2.2.1, .int .i64 x.2.2.2.1, .int .i64 x.2.2.2.2.1, .int .i64 x.2.2.2.2.2] _ HW.out Tryd.underlying33 rfl (bo_info x) ?_)
            go_roundw
            case rel => exact ⟨k + 1, by omega, by go_num, by rw [HV.out], by rw [HC.out], hB', hG'⟩
            case measure => simp [intOf]; omega
        · obtain rfl : k = l.length := by omega
          have hnk : ¬ (l.length : Int) < (l.length : Int) := by omega
          have hcn := cn_le N l.length
          have HNX := Lib.hid (cntL_next (pcs l) l.length N)
          obtain ⟨C, hC⟩ : ∃ C, cnK N l.length = C := ⟨_, rfl⟩
          rw [hC] at hcn HNX
          have e1 := cntL_at (pcs l) l.length N C (by omega)
          obtain ⟨b0, b1⟩ := sm_bnd (pcs l) HPC.out l.length C (by rw [HPL.out]; omega) N (by rw [HT.out]; omega)
          obtain ⟨d0, d1⟩ := pr_bnd (pcs l) HPC.out N l.length (by rw [HPL.out]; omega)
          have b2 := pow_le l.length hn
          rw [← e1] at b0 b1
          have hcell : wr.cell? ⟨w.heap.size, C, none⟩ = some (.int .i64 ((cntL (pcs l) l.length N).getD C 0)) := (hB.cell C).trans (ic_at _ C (by rw [cntL_len]; omega))
          obtain ⟨A, hA⟩ : ∃ A, (cntL (pcs l) l.length N).getD C 0 = A := ⟨_, rfl⟩
          obtain ⟨V, hV⟩ : ∃ V, prK (pcs l) N l.length = V := ⟨_, rfl⟩
          rw [hA] at hcell b0 b1 HNX
          rw [hV] at d0 d1 HNX
          rw [hV, hC]
          have hw : IntKind.i64.wrap (A + V) = A + V := by rw [IntKind.wrap_i64]; omega
          have hC0 : (0 : Int) ≤ (C : Int) := by omega
          have hC1 : (C : Int) < (l.length : Int) + 1 := by omega
          have fr := hB.free C
          have hB' : Bk (wr.setCell ⟨w.heap.size, C, none⟩ (.int .i64 (A + V))) w.heap.size 3 (ic (cntL (pcs l) l.length (N + 1))) := by
            rw [HNX.out, ← ic_set]
            exact hB.set C _
          have hG' := hG.setCell (p := ⟨w.heap.size, C, none⟩) (.inl (Nat.le_refl _)) (.int .i64 (A + V))
          clear hA hV hC e1 b0 b1 d0 d1 b2 hB hG
          go_wp2_with fail
          go_roundw
          case rel => exact ⟨N + 1, by rw [HT.out]; omega, by go_num, hB', hG'⟩
          case measure => simp [intOf]; omega
    · have hNT : N = T := by omega
      have hcs : cntL (pcs l) l.length N = cas (pcs l) := by
        rw [hNT, ← HT.out, cntL_cas _ _ (by rw [HPL.out]; omega), List.take_of_length_le (by rw [HPL.out]; omega)]
      rw [hcs] at hB
      subst hNT
      have hnk : ¬ (N : Int) < (N : Int) := by omega
      obtain ⟨cl, cn, cs⟩ := cas_ok (pcs l) HPC.out
      rw [HPL.out] at cl cs
      have hH1 := pow_le l.length hn
      have hH0 := pow_pos100 l.length
      have HM : Hid (spL l = (cas (pcs l)).map fun n => lowF n (100 ^ l.length)) := Lib.hid rfl
      obtain ⟨c, hc⟩ : ∃ c, cas (pcs l) = c := ⟨_, rfl⟩
      obtain ⟨H, hH⟩ : ∃ H : Int, (100 : Int) ^ l.length = H := ⟨_, rfl⟩
      have HH := Lib.hid hH
      rw [hc, hH] at HM
      rw [hc] at cl cn cs hB
      rw [hH] at cs hH1 hH0
      clear hc hH hcs
      have hundH : ∀ w : World, Calls Tryd.prog 70 #[.int .i64 l.length] w fun e w' => e = .returned (.int .i64 H) ∧ w = w' := fun w => by
        have h := hundred_c l.length w hn
        rw [HH.out] at h
        exact h
      go_wp2_with fail
      go_loopw [9, 56] (SpRel w c H w.heap.size) (fun _ i _ => c.length - (intOf i).toNat)
      case atStart => exact ⟨0, by omega, rfl, World.ownsRow_nil _ _ _ _, hB, Nat.le_refl _, hG⟩
      case round =>
        clear hB hG
        obtain ⟨k, hkc, rfl, hown, hB, hgw, hG⟩ := hrel
        by_cases hlt2 : k < l.length + 1
        · have hck : c[k]? = some (c.getD k 0) := by simp [List.getD, show k < c.length by omega]
          have hcell : wr.cell? ⟨w.heap.size, k, none⟩ = some (.int .i64 (c.getD k 0)) := (hB.cell k).trans (ic_at c k (by omega))
          have HTT : Hid ((c.take (k + 1)).map (fun n => lowF n H) = (c.take k).map (fun n => lowF n H) ++ [lowF (c.getD k 0) H]) := Lib.hid (map_take_snoc _ hck)
          have e0 := cn.getD k
          have e1 := cn.le_sum k
          have hkt : ((c.take k).map fun n => lowF n H).length ≤ 1000 := by rw [List.length_map, List.length_take]; omega
          have hki : (k : Int) < (l.length : Int) + 1 := by omega
          clear hck
          obtain ⟨x, hx⟩ : ∃ x, c.getD k 0 = x := ⟨_, rfl⟩
          rw [hx] at hcell HTT e0 e1
          clear hx
          go_wp2_with fail
          refine (hundH _).mono ?_; rintro e w' ⟨rfl, rfl⟩
          go_wp2_with fail
          refine (rlow_i x H _ e0 (by omega) hH0 hH1).mono ?_; rintro e w3 ⟨rfl, hG3⟩
          obtain ⟨F, hF⟩ : ∃ F, lowF x H = F := ⟨_, rfl⟩
          rw [hF] at HTT ⊢
          clear hF
          rw [show frV F = #[.int .i64 F.1, .int .i64 F.2] from rfl]
          have hB3 := (hB.quiet hG3).alloc (.cells #[.int .i64 F.1, .int .i64 F.2] 35)
          have hown3 := (hown.quiet hG3).alloc (.cells #[.int .i64 F.1, .int .i64 F.2] 35)
          have hG03 := (hG.trans hG3).alloc (.cells #[.int .i64 F.1, .int .i64 F.2] 35)
          have hz3 := hB3.lt
          have hob := fun r e => (World.ownsRow.lt hown3 r e).1
          have hne : some w.heap.size ≠ u9.ownBlock := fun e => by have := hob w.heap.size e.symm; omega
          clear hB hown hG hG3 hcell
          go_wp2_with (at_builtin; refine wpList_plain rfl fun K' hK' => wp_append_fr _ _ rfl (w.heap.size + 1) u9 _ rfl hown3 w3.heap.size F rfl (Bk.new w3 _ _) hkt hz3 ?_; intro v1 w4 hown4 hgrow; refine hK' _ _ ?_)
          go_roundw
          case rel => exact ⟨k + 1, by omega, by go_num, by rw [HTT.out]; exact hown4, hB3.grown hgrow hne, hgw, hG03.other hgrow (fun r e => .inl (by have := hob r e; omega))⟩
          case measure => simp [intOf]; omega
        · obtain rfl : k = c.length := by omega
          have hnk : ¬ ((c.length : Int) < (l.length : Int) + 1) := by omega
          have hq : (c.take c.length).map (fun n => lowF n H) = c.map fun n => lowF n H := by rw [List.take_length]
          rw [hq] at hown
          clear hq
          go_wp2_with fail
          go_ret
          exact ⟨_, rfl, by rw [HM.out]; exact Rd.of_owns hown, hG⟩
end Go.Proofs.YtbieiefbgcgogaaDoor
