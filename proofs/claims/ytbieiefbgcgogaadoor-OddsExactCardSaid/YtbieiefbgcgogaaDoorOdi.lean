/- Odds: the reference's Lowest and hundred. -/
import Derived.Test.YtbieiefbgcgogaaDoorOdg
namespace Go.Proofs.YtbieiefbgcgogaaDoor
open Go.RowKit

def LowRel2 (n d : Nat) (s5 s6 : Value) (w wr : World) : Prop :=
  ∃ a b : Nat, s5 = .int .i64 a ∧ s6 = .int .i64 b ∧ Nat.gcd a b = Nat.gcd d n ∧ a ≤ 1000000000000000000 ∧ b ≤ 1000000000000000000 ∧ 0 < a + b ∧ Bk wr w.heap.size 35 (frC 0 0) ∧ G w wr none
set_option maxRecDepth 100000 in
set_option maxHeartbeats 2000000 in
theorem rlow_c (n d : Nat) (w : World) (hn : n ≤ 1000000000000000000) (hd : d ≤ 1000000000000000000) (h0 : 0 < d) :
    Calls Tryd.prog 69 #[.int .i64 n, .int .i64 d] w fun e w' => e = .returned (.agg (frC (n / Nat.gcd d n : Nat) (d / Nat.gcd d n : Nat))) ∧ G w w' none := by
  go_enter Tryd.func69, Tryd.ntmps69
  go_wp2_with fail
  go_loopw [5, 6] (fun s5 s6 wr => LowRel2 n d s5 s6 w wr) (fun _ i _ => (intOf i).toNat)
  case atStart => exact ⟨n, d, rfl, rfl, Nat.gcd_comm n d, hn, hd, by omega, Bk.new w _ _, (G.refl _ _).alloc _⟩
  case round =>
    obtain ⟨a, b, rfl, rfl, hg, ha, hb, a0, hB, hG⟩ := hrel
    have HG := Lib.hid hg
    clear hg
    by_cases hb0 : b = 0
    · subst hb0
      have hag : a = Nat.gcd d n := by rw [← HG.out]; simp
      have HA := Lib.hid hag
      clear hag
      obtain ⟨q1, hq1⟩ : ∃ q, n / a = q := ⟨_, rfl⟩
      obtain ⟨q2, hq2⟩ : ∃ q, d / a = q := ⟨_, rfl⟩
      have hane : ¬ a = 0 := by omega
      have hapos : ¬ (a : Int) < 0 := by omega
      have hw1 := quo_wrap n a q1 hn hq1
      have hw2 := quo_wrap d a q2 hd hq2
      have HQ1 := Lib.hid hq1
      have HQ2 := Lib.hid hq2
      clear hq1 hq2
      go_wp2_with fail
      have HQQ : Hid (Ending.returned (.agg (frC q1 q2)) = .returned (.agg (frC (n / Nat.gcd d n : Nat) (d / Nat.gcd d n : Nat)))) := Lib.hid (by rw [← HA.out, HQ1.out, HQ2.out])
      go_still_tail 7, (by kernel_rfl)
      change wpList _ _ _ _ _ wr.drew
      have hBd := hB.quiet ((G.refl wr none).drew)
      have hGd := hG.drew
      clear hB hG
      generalize wr.drew = w2 at hBd hGd ⊢
      go_wp2_with (refine wpList_store_row rfl 35 _ _ rfl w.heap.size (frC q1 q2) rfl rfl 35 _ hBd (fr_info q1 q2) rfl (fr_one q1 q2) ?_)
      refine bodyPost_ret (results_cell_row rfl _ _ w.heap.size 35 (frC q1 q2) (0, 0) _ rfl (hBd.setRow _) Tryd.underlying35 rfl (fr_info q1 q2)) rfl ?_
      exact ⟨HQQ.out, hGd.setRow (.inl (Nat.le_refl _)) _⟩
    · have hbp : 0 < b := by omega
      have hne : ((b : Int) != 0) = true := by rw [bne_iff_ne]; omega
      have hbq : ((b : Int) == 0) = false := by rw [beq_eq_false_iff_ne]; omega
      have htm : (a : Int).tmod (b : Int) = ((a % b : Nat) : Int) := by rw [Int.tmod_eq_emod_of_nonneg (by omega)]; rfl
      have hmw : IntKind.i64.wrap ((a % b : Nat) : Int) = ((a % b : Nat) : Int) := by have := Nat.mod_lt a hbp; rw [IntKind.wrap_i64]; omega
      have HML := Lib.hid (Nat.mod_lt a hbp)
      go_wp2_with fail
      go_quiet (fail)
      have hGq := hG.drewN nq
      have hBq := hB.drewN nq
      go_wp2_with fail
      go_roundw
      case rel => exact ⟨b, a % b, rfl, rfl, by rw [← HG.out, Nat.gcd_comm a b]; exact (Nat.gcd_rec b a).symm ▸ by rw [Nat.gcd_comm], hb, by have := HML.out; omega, by omega, hBq, hGq⟩
      case measure => have := HML.out; simp [intOf]; omega
theorem rlow_i (n d : Int) (w : World) (n0 : 0 ≤ n) (hn : n ≤ 1000000000000000000) (d0 : 0 < d) (hd : d ≤ 1000000000000000000) :
    Calls Tryd.prog 69 #[.int .i64 n, .int .i64 d] w fun e w' => e = .returned (.agg (frV (lowF n d))) ∧ G w w' none := by
  obtain ⟨n', rfl⟩ := Int.eq_ofNat_of_zero_le n0
  obtain ⟨d', rfl⟩ := Int.eq_ofNat_of_zero_le (Int.le_of_lt d0)
  exact rlow_c n' d' w (by omega) (by omega) (by omega)
def HuRel (w : World) (n : Nat) (s3 s5 : Value) (wr : World) : Prop :=
  ∃ k : Nat, k ≤ n ∧ s5 = .int .i64 k ∧ s3 = .int .i64 (100 ^ k) ∧ w = wr
set_option maxRecDepth 100000 in
set_option maxHeartbeats 2000000 in
theorem hundred_c (n : Nat) (w : World) (hn : n ≤ 9) :
    Calls Tryd.prog 70 #[.int .i64 n] w fun e w' => e = .returned (.int .i64 (100 ^ n)) ∧ w = w' := by
  go_enter Tryd.func70, Tryd.ntmps70
  go_wp2_with fail
  go_loopw [3, 5] (HuRel w n) (fun _ i _ => n - (intOf i).toNat)
  case atStart => exact ⟨0, by omega, rfl, rfl, rfl⟩
  case round =>
    obtain ⟨k, hk, rfl, rfl, rfl⟩ := hrel
    by_cases hlt : k < n
    · have hki : (k : Int) < n := by omega
      have h1 := pow_le (k + 1) (by omega)
      have h2 := pow_pos100 k
      have h3 : (100 : Int) ^ (k + 1) = 100 ^ k * 100 := Int.pow_succ ..
      have H3 := Lib.hid h3
      rw [h3] at h1
      clear h3
      obtain ⟨p, hp⟩ : ∃ p : Int, (100 : Int) ^ k = p := ⟨_, rfl⟩
      rw [hp] at h1 h2 H3 ⊢
      clear hp
      go_wp2_with fail
      go_roundw
      case rel => exact ⟨k + 1, by omega, by go_num, by rw [H3.out], rfl⟩
      case measure => simp [intOf]; omega
    · obtain rfl : k = n := by omega
      have hnk : ¬ (k : Int) < k := by omega
      go_wp2_with fail
      go_ret
      exact ⟨rfl, rfl⟩
end Go.Proofs.YtbieiefbgcgogaaDoor
