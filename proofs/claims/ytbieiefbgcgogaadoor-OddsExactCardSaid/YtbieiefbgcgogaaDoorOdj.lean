/- Odds: the reference's atMost. -/
import Derived.Test.YtbieiefbgcgogaaDoorOdi
namespace Go.Proofs.YtbieiefbgcgogaaDoor
open Go.RowKit

theorem cross (M p X q Y : Nat) (hX : X < M) (hY : Y < M) : (M * p + X ≤ M * q + Y) ↔ if p = q then X ≤ Y else p < q := by
  split
  · rename_i h; subst h; omega
  · rename_i h
    rcases Nat.lt_or_gt_of_ne h with h1 | h1
    · have := Nat.mul_le_mul_left M (show p + 1 ≤ q from h1)
      rw [Nat.mul_add] at this
      omega
    · have := Nat.mul_le_mul_left M (show q + 1 ≤ p from h1)
      rw [Nat.mul_add] at this
      omega
theorem le_cross (a b c d : Nat) (hb : 0 < b) (hd : 0 < d) : (a * d ≤ c * b) ↔ if a / b = c / d then a % b * d ≤ c % d * b else a / b < c / d := by
  have e1 := Nat.div_add_mod a b
  have e2 := Nat.div_add_mod c d
  have l1 := Nat.mod_lt a hb
  have l2 := Nat.mod_lt c hd
  have hX : a % b * d < b * d := (Nat.mul_lt_mul_right hd).2 l1
  have hY : c % d * b < b * d := by rw [Nat.mul_comm b d]; exact (Nat.mul_lt_mul_right hb).2 l2
  rw [← cross (b * d) (a / b) _ (c / d) _ hX hY]
  have f1 : a * d = b * d * (a / b) + a % b * d := by
    conv => lhs; rw [← e1]
    rw [Nat.add_mul, Nat.mul_right_comm]
  have f2 : c * b = b * d * (c / d) + c % d * b := by
    conv => lhs; rw [← e2]
    rw [Nat.add_mul, Nat.mul_right_comm d _ b, Nat.mul_comm d b]
  rw [f1, f2]
def denAt (w : World) (g : Nat) : Nat := match w.cell? ⟨g, 1, none⟩ with
  | some (.int _ n) => n.toNat
  | _ => 0
theorem denAt_of {w : World} {g : Nat} {n d : Int} (h : Bk w g 35 (frC n d)) : denAt w g = d.toNat := by
  unfold denAt
  rw [show w.cell? ⟨g, 1, none⟩ = some (.int .i64 d) from h.cell 1]
def AmRel (w : World) (R : Bool) (_s : Value) (wr : World) : Prop :=
  ∃ a b c d : Nat, 0 < b ∧ 0 < d ∧ a ≤ 1000000000000000000 ∧ b ≤ 1000000000000000000 ∧ c ≤ 1000000000000000000 ∧ d ≤ 1000000000000000000 ∧ decide (a * d ≤ c * b) = R ∧
    Bk wr w.heap.size 35 (frC a b) ∧ Bk wr (w.heap.size + 1) 35 (frC c d) ∧ G w wr none
set_option maxRecDepth 100000 in
set_option maxHeartbeats 4000000 in
theorem atMost_c (a b c d : Nat) (hb0 : 0 < b) (hd0 : 0 < d) (ha : a ≤ 1000000000000000000) (hb : b ≤ 1000000000000000000) (hc : c ≤ 1000000000000000000) (hd : d ≤ 1000000000000000000) (w : World) :
    Calls Tryd.prog 72 #[.agg (frC a b), .agg (frC c d)] w fun e w' => e = .returned (.bool (decide (a * d ≤ c * b))) ∧ G w w' none := by
  have hG2 := ((G.refl w none).alloc (.cells (frC a b) 35)).alloc (.cells (frC c d) 35)
  have hA := (Bk.new w 35 (frC a b)).alloc (.cells (frC c d) 35)
  have hB : Bk ((w.alloc (.cells (frC a b) 35)).alloc (.cells (frC c d) 35)) (w.heap.size + 1) 35 (frC c d) := Bk.newAt (w := w.alloc (.cells (frC a b) 35)) (b := w.heap.size + 1) (by simp) 35 (frC c d)
  obtain ⟨R, hR⟩ : ∃ R, decide (a * d ≤ c * b) = R := ⟨_, rfl⟩
  rw [hR]
  go_enter Tryd.func72, Tryd.ntmps72
  go_wp2_with fail
  go_loopw [5] (AmRel w R) (fun _ wr => denAt wr w.heap.size + denAt wr (w.heap.size + 1))
  case atStart => exact ⟨a, b, c, d, hb0, hd0, ha, hb, hc, hd, hR, hA, hB, hG2⟩
  case round =>
    clear hG2 hA hB hR hb0 hd0 ha hb hc hd
    obtain ⟨A1, hA1⟩ : ∃ x, frC (a : Int) b = x := ⟨_, rfl⟩
    obtain ⟨B1, hB1⟩ : ∃ x, frC (c : Int) d = x := ⟨_, rfl⟩
    rw [hA1, hB1]
    clear hA1 hB1 a b c d
    obtain ⟨a, b, c, d, hb0, hd0, ha, hb, hc, hd, hR, hA, hB, hG⟩ := hrel
    have LC := Lib.hid (le_cross a b c d hb0 hd0)
    have HM := Lib.hid (And.intro (denAt_of hA) (denAt_of hB))
    have c0 : wr.cell? ⟨w.heap.size, 0, none⟩ = some (.int .i64 a) := hA.cell 0
    have c1 : wr.cell? ⟨w.heap.size, 1, none⟩ = some (.int .i64 b) := hA.cell 1
    have c2 : wr.cell? ⟨w.heap.size + 1, 0, none⟩ = some (.int .i64 c) := hB.cell 0
    have c3 : wr.cell? ⟨w.heap.size + 1, 1, none⟩ = some (.int .i64 d) := hB.cell 1
    obtain ⟨p, hp⟩ : ∃ p, a / b = p := ⟨_, rfl⟩
    obtain ⟨q, hq⟩ : ∃ p, c / d = p := ⟨_, rfl⟩
    have hw1 := quo_wrap a b p ha hp
    have hw2 := quo_wrap c d q hc hq
    have hbn : ¬ b = 0 := by omega
    have hdn : ¬ d = 0 := by omega
    have HPQ := Lib.hid (And.intro hp hq)
    clear hp hq
    go_wp2_with fail
    go_quiet (fail)
    have hGq := hG.drewN nq
    have hAq := hA.drewN nq
    have hBq := hB.drewN nq
    clear hG hA hB c0 c1 c2 c3 hw1 hw2
    generalize wr.drewN nq = w3 at hGq hAq hBq ⊢
    by_cases hpq : p = q
    · subst hpq
      have c0 : w3.cell? ⟨w.heap.size, 0, none⟩ = some (.int .i64 a) := hAq.cell 0
      have c1 : w3.cell? ⟨w.heap.size, 1, none⟩ = some (.int .i64 b) := hAq.cell 1
      have c2 : w3.cell? ⟨w.heap.size + 1, 0, none⟩ = some (.int .i64 c) := hBq.cell 0
      have c3 : w3.cell? ⟨w.heap.size + 1, 1, none⟩ = some (.int .i64 d) := hBq.cell 1
      obtain ⟨x, hx⟩ : ∃ x, a % b = x := ⟨_, rfl⟩
      obtain ⟨y, hy⟩ : ∃ y, c % d = y := ⟨_, rfl⟩
      have HR : Hid (R = decide (x * d ≤ y * b)) := Lib.hid (by rw [← hR, ← hx, ← hy]; exact decide_eq_decide.2 (LC.out.trans (by rw [HPQ.out.1, HPQ.out.2, if_pos rfl])))
      have hxl : x < b := by rw [← hx]; exact Nat.mod_lt _ hb0
      have hyl : y < d := by rw [← hy]; exact Nat.mod_lt _ hd0
      have t1 : (a : Int).tmod (b : Int) = (x : Int) := by rw [← hx, Int.tmod_eq_emod_of_nonneg (by omega)]; rfl
      have t2 : (c : Int).tmod (d : Int) = (y : Int) := by rw [← hy, Int.tmod_eq_emod_of_nonneg (by omega)]; rfl
      have v1 : IntKind.i64.wrap (x : Int) = (x : Int) := by rw [IntKind.wrap_i64]; omega
      have v2 : IntKind.i64.wrap (y : Int) = (y : Int) := by rw [IntKind.wrap_i64]; omega
      have HL := Lib.hid (And.intro hxl hyl)
      clear hR LC HPQ hx hy hxl hyl
      go_wp2_with fail
      go_quiet (fail)
      have hGr := hGq.drewN nq
      have hAr := hAq.drewN nq
      have hBr := hBq.drewN nq
      clear hGq hAq hBq c0 c1 c2 c3 t1 t2 v1 v2
      generalize w3.drewN nq = w4 at hGr hAr hBr ⊢
      by_cases hx0 : x = 0
      · subst hx0
        have HF : Hid (R = true) := Lib.hid (by rw [HR.out]; simp)
        clear HR
        go_wp2_with fail
        go_ret
        exact ⟨by rw [HF.out]; rfl, hGr⟩
      · have hxb : ((x : Int) == 0) = false := by rw [beq_eq_false_iff_ne]; omega
        by_cases hy0 : y = 0
        · have hyb : ((y : Int) == 0) = true := by rw [hy0]; rfl
          have HF : Hid (R = false) := Lib.hid (by
            rw [HR.out, decide_eq_false_iff_not, hy0, Nat.zero_mul]
            have := Nat.mul_pos (Nat.pos_of_ne_zero hx0) hd0
            omega)
          clear HR
          go_wp2_with fail
          go_ret
          exact ⟨by rw [HF.out]; rfl, hGr⟩
        · have hyb : ((y : Int) == 0) = false := by rw [beq_eq_false_iff_ne]; omega
          have c1 : w4.cell? ⟨w.heap.size, 1, none⟩ = some (.int .i64 b) := hAr.cell 1
          have c3 : w4.cell? ⟨w.heap.size + 1, 1, none⟩ = some (.int .i64 d) := hBr.cell 1
          have hA5 : Bk ((w4.setRow w.heap.size (frC d y)).setRow (w.heap.size + 1) (frC b x)) w.heap.size 35 (frC d y) := (hAr.setRow _).farRow (by omega) _
          have hB4 : Bk (w4.setRow w.heap.size (frC d y)) (w.heap.size + 1) 35 (frC c d) := hBr.farRow (by omega) _
          have hB5 := hB4.setRow (frC b x)
          have hG5 : G w ((w4.setRow w.heap.size (frC d y)).setRow (w.heap.size + 1) (frC b x)) none := (hGr.setRow (.inl (Nat.le_refl _)) _).setRow (.inl (by omega)) _
          go_wp2_with (first | refine wpList_store_row rfl 35 _ _ rfl w.heap.size (frC d y) rfl rfl 35 _ hAr (fr_info d y) rfl (fr_one d y) ?_ | refine wpList_store_row rfl 35 _ _ rfl (w.heap.size + 1) (frC b x) rfl rfl 35 _ hB4 (fr_info b x) rfl (fr_one b x) ?_)
          simp only [Act.put]
          go_roundw
          case rel => exact ⟨d, y, b, x, by omega, by omega, hd, by have := HL.out; omega, hb, by have := HL.out; omega, by rw [HR.out, Nat.mul_comm d x, Nat.mul_comm b y], hA5, hB5, hG5⟩
          case measure =>
            show denAt _ _ + denAt _ _ < denAt _ _ + denAt _ _
            rw [denAt_of hA5, denAt_of hB5, HM.out.1, HM.out.2]
            have := HL.out
            omega
    · have HF : Hid (R = decide (p < q)) := Lib.hid (by rw [← hR]; exact decide_eq_decide.2 (LC.out.trans (by rw [HPQ.out.1, HPQ.out.2, if_neg hpq])))
      have hne : ((p : Int) != (q : Int)) = true := by rw [bne_iff_ne]; omega
      clear hR LC HPQ
      go_wp2_with fail
      go_ret
      exact ⟨by rw [HF.out]; rfl, hGq⟩
end Go.Proofs.YtbieiefbgcgogaaDoor
