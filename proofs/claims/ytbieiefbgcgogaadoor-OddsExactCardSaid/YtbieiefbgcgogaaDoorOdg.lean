/- Odds: isGreater; the public Over, for any bookings. -/
import Derived.Test.YtbieiefbgcgogaaDoorOdf
import Derived.Test.YtbieiefbgcgogaaDoorShelf2
namespace Go.Proofs.YtbieiefbgcgogaaDoor
open Go.RowKit Go.Shelf

theorem mul64_c (x y : Nat) (hx : x < 18446744073709551616) (hy : y < 18446744073709551616) (w : World) :
    Calls Tryd.prog 98 #[.int .u64 x, .int .u64 y] w fun e w' => e = .returned (.tuple #[.int .u64 ((x * y / 18446744073709551616 : Nat) : Int), .int .u64 ((x * y % 18446744073709551616 : Nat) : Int)]) ∧ w' = w :=
  Any.bits_Mul64 Tryd.lays264 x y hx hy w
set_option maxRecDepth 100000 in
set_option maxHeartbeats 2000000 in
theorem isGreater_c (a b c d : Nat) (ha : a < 9223372036854775808) (hb : b < 9223372036854775808) (hc : c < 9223372036854775808) (hd : d < 9223372036854775808) (w : World) :
    Calls Tryd.prog 66 #[.agg (frC a b), .agg (frC c d)] w fun e w' => e = .returned (.bool (decide (c * b < a * d))) ∧ G w w' none := by
  have hG2 := ((G.refl w none).alloc (.cells (frC a b) 35)).alloc (.cells (frC c d) 35)
  have hA := (Bk.new w 35 (frC a b)).alloc (.cells (frC c d) 35)
  have hB := Bk.new (w.alloc (.cells (frC a b) 35)) 35 (frC c d)
  have c1 := mul64_c a d (by omega) (by omega)
  have c2 := mul64_c c b (by omega) (by omega)
  simp only [frC] at hG2 hA hB ⊢
  go_enter Tryd.func66, Tryd.ntmps66
  go_wp2_with fail
  refine (c1 _).mono ?_; rintro e w1 ⟨rfl, rfl⟩
  have HQ : Hid ((decide (c * b < a * d)) = (decide (c * b / 18446744073709551616 < a * d / 18446744073709551616) || (decide (a * d / 18446744073709551616 = c * b / 18446744073709551616) && decide (c * b % 18446744073709551616 < a * d % 18446744073709551616)))) := Lib.hid (by
    rw [Bool.eq_iff_iff]
    simp only [Bool.or_eq_true, Bool.and_eq_true, decide_eq_true_eq]
    omega)
  obtain ⟨q1, hq1⟩ : ∃ q, a * d / 18446744073709551616 = q := ⟨_, rfl⟩
  obtain ⟨r1, hr1⟩ : ∃ q, a * d % 18446744073709551616 = q := ⟨_, rfl⟩
  obtain ⟨q2, hq2⟩ : ∃ q, c * b / 18446744073709551616 = q := ⟨_, rfl⟩
  obtain ⟨r2, hr2⟩ : ∃ q, c * b % 18446744073709551616 = q := ⟨_, rfl⟩
  rw [hq1, hr1, hq2, hr2] at HQ
  rw [hq1, hr1] at c1 ⊢
  rw [hq2, hr2] at c2
  go_wp2_with fail
  refine (c2 _).mono ?_; rintro e w1 ⟨rfl, rfl⟩
  by_cases hQ : q2 < q1
  · have HF := Lib.hid (HQ.out.trans (by simp [hQ] : _ = true))
    clear HQ
    go_wp2_with fail
    go_ret
    exact ⟨by rw [HF.out]; rfl, hG2⟩
  · by_cases hE : q1 = q2
    · by_cases hR : r2 < r1
      · have HF := Lib.hid (HQ.out.trans (by simp [hE, hR] : _ = true))
        clear HQ
        go_wp2_with fail
        go_ret
        exact ⟨by rw [HF.out]; rfl, hG2⟩
      · have HF := Lib.hid (HQ.out.trans (by simp [hE, hR] : _ = false))
        clear HQ
        go_wp2_with fail
        go_ret
        exact ⟨by rw [HF.out]; rfl, hG2⟩
    · have HF := Lib.hid (HQ.out.trans (by simp [hQ, hE] : _ = false))
      clear HQ
      go_wp2_with fail
      go_ret
      exact ⟨by rw [HF.out]; rfl, hG2⟩
/-- Two results, the first a struct that lies in memory. -/
theorem results_cell_fr {P : Program} {fn : Func} {p u : Tmp} {ty : TypeId} (h : fn.results = #[.cell p ty, .tmp u]) (tmps : Array Value) (w : World) (g : Nat) (t : TypeId) (cs : Array Value) (fr : Nat × Nat) (d : TypeDesc)
    (hp : tmps.getD p undef = .pointer (some ⟨g, 0, none⟩)) (hg : w.heap[g]? = some (.cells cs t fr))
    (hu : P.underlying ty = some d) (hd : (match d with | .struct _ | .array _ _ => true | _ => false) = true) (hi : (P.info? ty).map (·.size) = some cs.size) :
    (results fn tmps).run P w = .ok (.tuple #[.agg cs, tmps.getD u undef]) w := by
  have hp' : tmps[p]?.getD undef = .pointer (some ⟨g, 0, none⟩) := by simpa using hp
  simp [results, h, hp', asAddr, run_loadVar_row w g t ty cs fr d hg hu hd hi]
def ovP (l : List Bo) (u : Int) : Fr := if cuE l u = 0 then ovF l u else (0, 0)
theorem cuE_ok {l : List Bo} {u : Int} (h : cuE l u = 0) : PcOk l ∧ l.length ≤ 9 ∧ inB u 0 500 = true := by
  unfold cuE at h
  by_cases h0 : coE l = 0
  · rw [if_pos h0] at h
    cases hu : inB u 0 500 with
    | false => rw [hu] at h; exact absurd h (by decide)
    | true => exact ⟨(coE_ok h0).1, (coE_ok h0).2, rfl⟩
  · rw [if_neg h0] at h
    exact absurd h h0
set_option maxRecDepth 100000 in
set_option maxHeartbeats 2000000 in
theorem overP_c (v : Value) (l : List Bo) (u : Int) (w : World) (hr : RdR w 6 boC v l) (hl : BoOk l) (hn : l.length ≤ 1000) :
    Calls Tryd.prog 13 #[v, .int .i64 u] w fun e w' => e = .returned (.tuple #[.agg (frV (ovP l u)), .int .i64 (cuE l u)]) ∧ G w w' none := by
  have hG1 := (G.refl w none).alloc (.cells (frC 0 0) 35)
  have HR := Lib.hid (hr.quiet hG1)
  have hB1 := Bk.new w 35 (frC 0 0)
  go_enter Tryd.func13, Tryd.ntmps13
  go_wp2_with fail
  refine (checkUnits_c v l u _ HR.out hl hn).mono ?_; rintro e w2 ⟨rfl, hG2⟩
  have hB2 := hB1.quiet hG2
  have hG02 := hG1.trans hG2
  have HR2 := Lib.hid (HR.out.quiet hG2)
  by_cases h0 : cuE l u = 0
  · have hok := cuE_ok h0
    have HP := Lib.hid (show ovP l u = ovF l u from if_pos h0)
    have HFIN : Hid (Ending.returned (.tuple #[.agg (frV (ovF l u)), .int .i64 0]) = .returned (.tuple #[.agg (frV (ovP l u)), .int .i64 (cuE l u)])) := Lib.hid (by rw [HP.out, h0])
    rw [h0]
    clear h0 hB1 hG1 HR hG2 HP
    go_wp2_with fail
    refine (over_c v l u _ HR2.out hok.1 hok.2.1).mono ?_; rintro e w3 ⟨rfl, hG3⟩
    have hB3 := hB2.quiet hG3
    have hG03 := hG02.trans hG3
    obtain ⟨F, hFF⟩ : ∃ F, ovF l u = F := ⟨_, rfl⟩
    rw [hFF] at HFIN ⊢
    clear hFF
    go_wp2_with (refine wpList_store_row rfl 35 _ _ rfl w.heap.size (frC F.1 F.2) rfl rfl 35 _ hB3 (fr_info F.1 F.2) rfl (fr_one F.1 F.2) ?_)
    refine bodyPost_ret (results_cell_fr rfl _ _ w.heap.size 35 (frC F.1 F.2) (0, 0) _ rfl (hB3.setRow _) Tryd.underlying35 rfl (fr_info F.1 F.2)) rfl ?_
    exact ⟨HFIN.out, hG03.setRow (.inl (Nat.le_refl _)) _⟩
  · have h0' : (cuE l u != 0) = true := by rw [bne_iff_ne]; exact h0
    have HP := Lib.hid (show ovP l u = (0, 0) from if_neg h0)
    obtain ⟨E, hE⟩ : ∃ E, cuE l u = E := ⟨_, rfl⟩
    have HFIN : Hid (Ending.returned (.tuple #[.agg (frC 0 0), .int .i64 E]) = .returned (.tuple #[.agg (frV (ovP l u)), .int .i64 (cuE l u)])) := Lib.hid (by rw [HP.out, hE]; rfl)
    rw [hE] at h0' ⊢
    clear h0 hB1 hG1 HR hG2 HP hE
    go_wp2_with (refine wpList_store_row rfl 35 _ _ rfl w.heap.size (frC 0 0) rfl rfl 35 _ hB2 (fr_info 0 0) rfl (fr_one 0 0) ?_)
    refine bodyPost_ret (results_cell_fr rfl _ _ w.heap.size 35 (frC 0 0) (0, 0) _ rfl (hB2.setRow _) Tryd.underlying35 rfl (fr_info 0 0)) rfl ?_
    exact ⟨HFIN.out, hG02.setRow (.inl (Nat.le_refl _)) _⟩
end Go.Proofs.YtbieiefbgcgogaaDoor
