/- Odx, Odj, Odl, Odw, Ows, GenK, Tim, Hir, Hik, Hif, His, Reg. -/
import Derived.Test.YtbieiefbgcgogaaDoorZo2
import Derived.Test.YtbieiefbgcgogaaDoorZo1
import Derived.Laws.StructEq
import Derived.Deep.CutRange
import Derived.Deep.RegionHeld3
import Derived.RegionTactic
/- Odds: tails of the numbers of cases; fractions in lowest terms compared (mathematics). -/
namespace Go.Proofs.YtbieiefbgcgogaaDoor
open Go.RowKit

theorem getD_set_eq (l : List Int) (i : Nat) (v : Int) (h : i < l.length) : (l.set i v).getD i 0 = v := by
  simp [List.getD, h]
theorem ovS_set (l : List Int) (u : Int) (i : Nat) (v : Int) (h : i < l.length) : ∀ n, ovS (l.set i v) u n = ovS l u n + (if u < (i : Int) ∧ i < n then v - l.getD i 0 else 0)
  | 0 => by simp [ovS]
  | n + 1 => by
    have ih := ovS_set l u i v h n
    show (if u < (n : Int) then ovS (l.set i v) u n + (l.set i v).getD n 0 else ovS (l.set i v) u n) = (if u < (n : Int) then ovS l u n + l.getD n 0 else ovS l u n) + _
    rw [ih]
    by_cases hin : i = n
    · subst hin
      rw [getD_set_eq l i v h]
      by_cases hu : u < (i : Int)
      · rw [if_pos hu, if_pos hu, if_neg (by omega), if_pos (by omega)]; omega
      · rw [if_neg hu, if_neg hu, if_neg (by omega), if_neg (by omega)]
    · rw [gdset_ne l i n v hin]
      by_cases hu : u < (n : Int)
      · rw [if_pos hu, if_pos hu]
        by_cases hi : u < (i : Int) ∧ i < n
        · rw [if_pos hi, if_pos (by omega)]; omega
        · rw [if_neg hi, if_neg (by omega)]; omega
      · rw [if_neg hu, if_neg hu]
        by_cases hi : u < (i : Int) ∧ i < n
        · omega
        · rw [if_neg hi, if_neg (by omega)]
theorem ovS_zero (n : Nat) (u : Int) : ∀ k, ovS (List.replicate n 0) u k = 0
  | 0 => rfl
  | k + 1 => by
    show (if u < (k : Int) then ovS (List.replicate n 0) u k + (List.replicate n (0 : Int)).getD k 0 else ovS (List.replicate n 0) u k) = 0
    rw [ovS_zero n u k]
    have : (List.replicate n (0 : Int)).getD k 0 = 0 := by
      simp only [List.getD, List.getElem?_replicate]
      split <;> rfl
    rw [this]
    split <;> rfl
theorem nx_tail (c : List Int) (p u : Int) (j : Nat) (h : j ≤ c.length) : ovS (nx c p j) u (c.length + 1) = (100 - p) * ovS c u j + p * ovS c (u - 1) j := by
  induction j with
  | zero => simp [nx, ovS_zero, ovS]
  | succ j ih =>
    have hl := nx_len c p j
    unfold nx
    rw [ovS_set _ _ _ _ (by rw [List.length_set, hl]; omega), ovS_set _ _ _ _ (by rw [hl]; omega), gdset_ne _ _ _ _ (by omega), ih (by omega)]
    show _ = (100 - p) * (if u < (j : Int) then ovS c u j + c.getD j 0 else ovS c u j) + p * (if u - 1 < (j : Int) then ovS c (u - 1) j + c.getD j 0 else ovS c (u - 1) j)
    have e1 : (100 - p) * (ovS c u j + c.getD j 0) = (100 - p) * ovS c u j + c.getD j 0 * (100 - p) := by rw [Int.mul_add, Int.mul_comm (100 - p) (c.getD j 0)]
    have e2 : p * (ovS c (u - 1) j + c.getD j 0) = p * ovS c (u - 1) j + c.getD j 0 * p := by rw [Int.mul_add, Int.mul_comm p (c.getD j 0)]
    by_cases h1 : u < (j : Int)
    · rw [if_pos h1, if_pos (show u - 1 < (j : Int) by omega), if_pos (by omega), if_pos (by omega), e1, e2]; omega
    · rw [if_neg h1, if_neg (show ¬ (u < (j : Int) ∧ j < c.length + 1) by omega)]
      by_cases h2 : u - 1 < (j : Int)
      · rw [if_pos h2, if_pos (by omega), e2]; omega
      · rw [if_neg h2, if_neg (by omega)]; omega
theorem ovS_mono {c : List Int} (h : NN c) (u v : Int) (huv : u ≤ v) : ∀ k, ovS c v k ≤ ovS c u k
  | 0 => Int.le_refl 0
  | k + 1 => by
    have ih := ovS_mono h u v huv k
    have h3 := h.getD k
    show (if v < (k : Int) then ovS c v k + c.getD k 0 else ovS c v k) ≤ (if u < (k : Int) then ovS c u k + c.getD k 0 else ovS c u k)
    split
    · rw [if_pos (by omega)]; omega
    · split <;> omega
/-- How many cases have more than u that come. -/
def tlO (ps : List Int) (u : Int) : Int := ovS (cas ps) u (ps.length + 1)
def Pct (ps : List Int) : Prop := ∀ p ∈ ps, 0 ≤ p ∧ p ≤ 100
theorem tlO_snoc (ps : List Int) (p u : Int) (h : Pct (ps ++ [p])) : 100 * tlO ps u ≤ tlO (ps ++ [p]) u := by
  obtain ⟨p0, p1⟩ := h p (by simp)
  obtain ⟨cl, cn, -⟩ := cas_ok ps (fun q hq => h q (by simp [hq]))
  unfold tlO
  rw [cas_snoc, List.length_append, List.length_singleton, show ps.length + 1 + 1 = (cas ps).length + 1 by rw [cl], nx_tail _ _ _ _ (Nat.le_refl _), cl]
  have h1 := ovS_mono cn (u - 1) u (by omega) (ps.length + 1)
  have h2 := Int.mul_le_mul_of_nonneg_left h1 p0
  have h3 : (100 - p) * ovS (cas ps) u (ps.length + 1) + p * ovS (cas ps) u (ps.length + 1) = 100 * ovS (cas ps) u (ps.length + 1) := by rw [← Int.add_mul]; rw [show (100 - p + p : Int) = 100 by omega]
  omega
theorem tlO_app (ps : List Int) (u : Int) : ∀ (n : Nat) (qs : List Int), qs.length = n → Pct (ps ++ qs) → 100 ^ qs.length * tlO ps u ≤ tlO (ps ++ qs) u := by
  intro n
  induction n with
  | zero =>
    intro qs hn _
    obtain rfl := List.eq_nil_of_length_eq_zero hn
    simp
  | succ n ih =>
    intro qs hn h
    obtain ⟨rs, q, rfl⟩ : ∃ rs q, qs = rs ++ [q] := ⟨qs.dropLast, qs.getLast (by intro e; rw [e] at hn; simp at hn), (List.dropLast_concat_getLast _).symm⟩
    simp at hn
    rw [← List.append_assoc] at h ⊢
    have h1 := ih rs hn (fun p hp => h p (by simp at hp ⊢; rcases hp with hp | hp <;> simp [hp]))
    have h2 := tlO_snoc (ps ++ rs) q u h
    rw [List.length_append, List.length_singleton, Int.pow_succ, Int.mul_comm (100 ^ rs.length) 100, Int.mul_assoc]
    omega
theorem tlO_nn (ps : List Int) (u : Int) (h : Pct ps) : 0 ≤ tlO ps u ∧ tlO ps u ≤ 100 ^ ps.length := by
  obtain ⟨cl, cn, cs⟩ := cas_ok ps h
  obtain ⟨h1, h2⟩ := ovS_bnd cn u (ps.length + 1) (by omega)
  unfold tlO
  rw [← cl, List.take_length, cs] at h2
  rw [← cl] at h1 ⊢
  exact ⟨h1, h2⟩
/-- One fraction is not less than another one, said of the numbers that they come from. -/
theorem low_le (n1 h1 n2 h2 : Nat) (p1 : 0 < h1) (p2 : 0 < h2) (h : n2 * h1 ≤ n1 * h2) :
    n2 / Nat.gcd h2 n2 * (h1 / Nat.gcd h1 n1) ≤ n1 / Nat.gcd h1 n1 * (h2 / Nat.gcd h2 n2) := by
  have g1 := Nat.gcd_pos_of_pos_left n1 p1
  have g2 := Nat.gcd_pos_of_pos_left n2 p2
  have a1 := Nat.div_mul_cancel (Nat.gcd_dvd_right h1 n1)
  have a2 := Nat.div_mul_cancel (Nat.gcd_dvd_left h1 n1)
  have b1 := Nat.div_mul_cancel (Nat.gcd_dvd_right h2 n2)
  have b2 := Nat.div_mul_cancel (Nat.gcd_dvd_left h2 n2)
  generalize Nat.gcd h1 n1 = g at *
  generalize Nat.gcd h2 n2 = k at *
  generalize n1 / g = x1 at *
  generalize h1 / g = y1 at *
  generalize n2 / k = x2 at *
  generalize h2 / k = y2 at *
  subst a1 a2 b1 b2
  refine Nat.le_of_mul_le_mul_right (c := g * k) ?_ (Nat.mul_pos g1 g2)
  have e1 : x2 * y1 * (g * k) = x2 * k * (y1 * g) := by rw [Nat.mul_comm g k]; exact Nat.mul_mul_mul_comm x2 y1 k g
  have e2 : x1 * y2 * (g * k) = x1 * g * (y2 * k) := Nat.mul_mul_mul_comm x1 y2 g k
  rw [e1, e2]
  exact h
/-- Less, of fractions that come from numbers of cases. -/
def ltB (x y : Fr) : Bool := decide (x.1.toNat * y.2.toNat < y.1.toNat * x.2.toNat)
theorem lowF_not_lt (n1 h1 n2 h2 : Int) (a1 : 0 ≤ n1) (a2 : 0 ≤ n2) (p1 : 0 < h1) (p2 : 0 < h2) (h : n2 * h1 ≤ n1 * h2) : ltB (lowF n1 h1) (lowF n2 h2) = false := by
  obtain ⟨n1, rfl⟩ := Int.eq_ofNat_of_zero_le a1
  obtain ⟨n2, rfl⟩ := Int.eq_ofNat_of_zero_le a2
  obtain ⟨h1, rfl⟩ := Int.eq_ofNat_of_zero_le (show 0 ≤ h1 by omega)
  obtain ⟨h2, rfl⟩ := Int.eq_ofNat_of_zero_le (show 0 ≤ h2 by omega)
  have := low_le n1 h1 n2 h2 (by omega) (by omega) (by exact_mod_cast h)
  unfold ltB lowF
  simp only [Int.toNat_natCast]
  exact decide_eq_false (by omega)
theorem ovF_tl (l : List Bo) (u : Int) : ovF l u = lowF (tlO (pcs l) u) (100 ^ l.length) := by
  unfold ovF tlO
  rw [show (pcs l).length = l.length by simp [pcs]]
theorem over_less_units (l : List Bo) (u : Int) (hp : PcOk l) : ltB (ovF l u) (ovF l (u + 1)) = false := by
  rw [ovF_tl, ovF_tl]
  obtain ⟨cl, cn, -⟩ := cas_ok (pcs l) hp
  have h1 := tlO_nn (pcs l) u hp
  have h2 := tlO_nn (pcs l) (u + 1) hp
  have h3 : tlO (pcs l) (u + 1) ≤ tlO (pcs l) u := ovS_mono cn u (u + 1) (by omega) _
  exact lowF_not_lt _ _ _ _ h1.1 h2.1 (pow_pos100 _) (pow_pos100 _) (Int.mul_le_mul_of_nonneg_right h3 (Int.le_of_lt (pow_pos100 _)))
theorem over_less_take (l : List Bo) (u : Int) (k : Nat) (hp : PcOk l) (hk : k ≤ l.length) : ltB (ovF l u) (ovF (l.take k) u) = false := by
  rw [ovF_tl, ovF_tl]
  have hsp : pcs l = pcs (l.take k) ++ pcs (l.drop k) := by unfold pcs; rw [← List.map_append, List.take_append_drop]
  have hpp : Pct (pcs l) := hp
  have h1 := tlO_nn (pcs l) u hp
  have h2 := tlO_nn (pcs (l.take k)) u (PcOk.take hp k)
  have h3 := tlO_app (pcs (l.take k)) u _ (pcs (l.drop k)) rfl (by rw [← hsp]; exact hpp)
  rw [← hsp, show (pcs (l.drop k)).length = l.length - k by simp [pcs]] at h3
  refine lowF_not_lt _ _ _ _ h1.1 h2.1 (pow_pos100 _) (pow_pos100 _) ?_
  have h4 : (l.take k).length = k := by rw [List.length_take]; omega
  rw [h4]
  have h5 : (100 : Int) ^ l.length = 100 ^ (l.length - k) * 100 ^ k := by rw [← Int.pow_add]; congr 1; omega
  rw [h5, ← Int.mul_assoc, Int.mul_comm (tlO (pcs (l.take k)) u)]
  exact Int.mul_le_mul_of_nonneg_right h3 (Int.le_of_lt (pow_pos100 _))
/-- What the law reckons of each fraction of the odds. -/
theorem low_back (n : Int) (L : Nat) (hn : 0 ≤ n) : 0 < (lowF n (100 ^ L)).2 ∧ (100 : Int) ^ L % (lowF n (100 ^ L)).2 = 0 ∧ (lowF n (100 ^ L)).1 * (100 ^ L / (lowF n (100 ^ L)).2) = n := by
  obtain ⟨n, rfl⟩ := Int.eq_ofNat_of_zero_le hn
  have hp : 0 < 100 ^ L := Nat.pow_pos (by omega)
  have e : ((100 : Int) ^ L) = ((100 ^ L : Nat) : Int) := by simp
  rw [e]
  unfold lowF
  simp only [Int.toNat_natCast]
  have h1 := low_den n (100 ^ L) hp
  have h2 := low_mul n (100 ^ L) hp
  have h3 : 100 ^ L % (100 ^ L / Nat.gcd (100 ^ L) n) = 0 := Nat.mod_eq_zero_of_dvd (Nat.div_dvd_of_dvd (Nat.gcd_dvd_left _ _))
  exact ⟨Int.natCast_pos.2 (Nat.pos_of_ne_zero h1), by exact_mod_cast h3, by exact_mod_cast h2⟩
end Go.Proofs.YtbieiefbgcgogaaDoor

/- Odds: the reference's atMost. -/
namespace Go.Proofs.YtbieiefbgcgogaaDoor
open Go.RowKit

theorem cross (M p X q Y : Nat) (hX : X < M) (hY : Y < M) : (M * p + X ≤ M * q + Y) ↔ if p = q then X ≤ Y else p < q := by
  split
  · rename_i h; subst h; omega
  · rename_i h
    rcases Nat.lt_or_gt_of_ne h with h1 | h1
    · have := Nat.mul_le_mul_left M (show p + 1 ≤ q from h1)
      rw [Nat.mul_add] at this
      omega
    · have := Nat.mul_le_mul_left M (show q + 1 ≤ p from h1)
      rw [Nat.mul_add] at this
      omega
theorem le_cross (a b c d : Nat) (hb : 0 < b) (hd : 0 < d) : (a * d ≤ c * b) ↔ if a / b = c / d then a % b * d ≤ c % d * b else a / b < c / d := by
  have e1 := Nat.div_add_mod a b
  have e2 := Nat.div_add_mod c d
  have l1 := Nat.mod_lt a hb
  have l2 := Nat.mod_lt c hd
  have hX : a % b * d < b * d := (Nat.mul_lt_mul_right hd).2 l1
  have hY : c % d * b < b * d := by rw [Nat.mul_comm b d]; exact (Nat.mul_lt_mul_right hb).2 l2
  rw [← cross (b * d) (a / b) _ (c / d) _ hX hY]
  have f1 : a * d = b * d * (a / b) + a % b * d := by
    conv => lhs; rw [← e1]
    rw [Nat.add_mul, Nat.mul_right_comm]
  have f2 : c * b = b * d * (c / d) + c % d * b := by
    conv => lhs; rw [← e2]
    rw [Nat.add_mul, Nat.mul_right_comm d _ b, Nat.mul_comm d b]
  rw [f1, f2]
def denAt (w : World) (g : Nat) : Nat := match w.cell? ⟨g, 1, none⟩ with
  | some (.int _ n) => n.toNat
  | _ => 0
theorem denAt_of {w : World} {g : Nat} {n d : Int} (h : Bk w g 35 (frC n d)) : denAt w g = d.toNat := by
  unfold denAt
  rw [show w.cell? ⟨g, 1, none⟩ = some (.int .i64 d) from h.cell 1]
def AmRel (w : World) (R : Bool) (_s : Value) (wr : World) : Prop :=
  ∃ a b c d : Nat, 0 < b ∧ 0 < d ∧ a ≤ 1000000000000000000 ∧ b ≤ 1000000000000000000 ∧ c ≤ 1000000000000000000 ∧ d ≤ 1000000000000000000 ∧ decide (a * d ≤ c * b) = R ∧
    Bk wr w.heap.size 35 (frC a b) ∧ Bk wr (w.heap.size + 1) 35 (frC c d) ∧ G w wr none
set_option maxRecDepth 100000 in
set_option maxHeartbeats 4000000 in
theorem atMost_c (a b c d : Nat) (hb0 : 0 < b) (hd0 : 0 < d) (ha : a ≤ 1000000000000000000) (hb : b ≤ 1000000000000000000) (hc : c ≤ 1000000000000000000) (hd : d ≤ 1000000000000000000) (w : World) :
    Calls Tryd.prog 72 #[.agg (frC a b), .agg (frC c d)] w fun e w' => e = .returned (.bool (decide (a * d ≤ c * b))) ∧ G w w' none := by
  have hG2 := ((G.refl w none).alloc (.cells (frC a b) 35)).alloc (.cells (frC c d) 35)
  have hA := (Bk.new w 35 (frC a b)).alloc (.cells (frC c d) 35)
  have hB : Bk ((w.alloc (.cells (frC a b) 35)).alloc (.cells (frC c d) 35)) (w.heap.size + 1) 35 (frC c d) := Bk.newAt (w := w.alloc (.cells (frC a b) 35)) (b := w.heap.size + 1) (by simp) 35 (frC c d)
  obtain ⟨R, hR⟩ : ∃ R, decide (a * d ≤ c * b) = R := ⟨_, rfl⟩
  rw [hR]
  go_enter Tryd.func72, Tryd.ntmps72
  go_wp2_with fail
  go_loopw [5] (AmRel w R) (fun _ wr => denAt wr w.heap.size + denAt wr (w.heap.size + 1))
  case atStart => exact ⟨a, b, c, d, hb0, hd0, ha, hb, hc, hd, hR, hA, hB, hG2⟩
  case round =>
    clear hG2 hA hB hR hb0 hd0 ha hb hc hd
    obtain ⟨A1, hA1⟩ : ∃ x, frC (a : Int) b = x := ⟨_, rfl⟩
    obtain ⟨B1, hB1⟩ : ∃ x, frC (c : Int) d = x := ⟨_, rfl⟩
    rw [hA1, hB1]
    clear hA1 hB1 a b c d
    obtain ⟨a, b, c, d, hb0, hd0, ha, hb, hc, hd, hR, hA, hB, hG⟩ := hrel
    have LC := Lib.hid (le_cross a b c d hb0 hd0)
    have HM := Lib.hid (And.intro (denAt_of hA) (denAt_of hB))
    have c0 : wr.cell? ⟨w.heap.size, 0, none⟩ = some (.int .i64 a) := hA.cell 0
    have c1 : wr.cell? ⟨w.heap.size, 1, none⟩ = some (.int .i64 b) := hA.cell 1
    have c2 : wr.cell? ⟨w.heap.size + 1, 0, none⟩ = some (.int .i64 c) := hB.cell 0
    have c3 : wr.cell? ⟨w.heap.size + 1, 1, none⟩ = some (.int .i64 d) := hB.cell 1
    obtain ⟨p, hp⟩ : ∃ p, a / b = p := ⟨_, rfl⟩
    obtain ⟨q, hq⟩ : ∃ p, c / d = p := ⟨_, rfl⟩
    have hw1 := quo_wrap a b p ha hp
    have hw2 := quo_wrap c d q hc hq
    have hbn : ¬ b = 0 := by omega
    have hdn : ¬ d = 0 := by omega
    have HPQ := Lib.hid (And.intro hp hq)
    clear hp hq
    go_wp2_with fail
    go_quiet (fail)
    have hGq := hG.drewN nq
    have hAq := hA.drewN nq
    have hBq := hB.drewN nq
    clear hG hA hB c0 c1 c2 c3 hw1 hw2
    generalize wr.drewN nq = w3 at hGq hAq hBq ⊢
    by_cases hpq : p = q
    · subst hpq
      have c0 : w3.cell? ⟨w.heap.size, 0, none⟩ = some (.int .i64 a) := hAq.cell 0
      have c1 : w3.cell? ⟨w.heap.size, 1, none⟩ = some (.int .i64 b) := hAq.cell 1
      have c2 : w3.cell? ⟨w.heap.size + 1, 0, none⟩ = some (.int .i64 c) := hBq.cell 0
      have c3 : w3.cell? ⟨w.heap.size + 1, 1, none⟩ = some (.int .i64 d) := hBq.cell 1
      obtain ⟨x, hx⟩ : ∃ x, a % b = x := ⟨_, rfl⟩
      obtain ⟨y, hy⟩ : ∃ y, c % d = y := ⟨_, rfl⟩
      have HR : Hid (R = decide (x * d ≤ y * b)) := Lib.hid (by rw [← hR, ← hx, ← hy]; exact decide_eq_decide.2 (LC.out.trans (by rw [HPQ.out.1, HPQ.out.2, if_pos rfl])))
      have hxl : x < b := by rw [← hx]; exact Nat.mod_lt _ hb0
      have hyl : y < d := by rw [← hy]; exact Nat.mod_lt _ hd0
      have t1 : (a : Int).tmod (b : Int) = (x : Int) := by rw [← hx, Int.tmod_eq_emod_of_nonneg (by omega)]; rfl
      have t2 : (c : Int).tmod (d : Int) = (y : Int) := by rw [← hy, Int.tmod_eq_emod_of_nonneg (by omega)]; rfl
      have v1 : IntKind.i64.wrap (x : Int) = (x : Int) := by rw [IntKind.wrap_i64]; omega
      have v2 : IntKind.i64.wrap (y : Int) = (y : Int) := by rw [IntKind.wrap_i64]; omega
      have HL := Lib.hid (And.intro hxl hyl)
      clear hR LC HPQ hx hy hxl hyl
      go_wp2_with fail
      go_quiet (fail)
      have hGr := hGq.drewN nq
      have hAr := hAq.drewN nq
      have hBr := hBq.drewN nq
      clear hGq hAq hBq c0 c1 c2 c3 t1 t2 v1 v2
      generalize w3.drewN nq = w4 at hGr hAr hBr ⊢
      by_cases hx0 : x = 0
      · subst hx0
        have HF : Hid (R = true) := Lib.hid (by rw [HR.out]; simp)
        clear HR
        go_wp2_with fail
        go_ret
        exact ⟨by rw [HF.out]; rfl, hGr⟩
      · have hxb : ((x : Int) == 0) = false := by rw [beq_eq_false_iff_ne]; omega
        by_cases hy0 : y = 0
        · have hyb : ((y : Int) == 0) = true := by rw [hy0]; rfl
          have HF : Hid (R = false) := Lib.hid (by
            rw [HR.out, decide_eq_false_iff_not, hy0, Nat.zero_mul]
            have := Nat.mul_pos (Nat.pos_of_ne_zero hx0) hd0
            omega)
          clear HR
          go_wp2_with fail
          go_ret
          exact ⟨by rw [HF.out]; rfl, hGr⟩
        · have hyb : ((y : Int) == 0) = false := by rw [beq_eq_false_iff_ne]; omega
          have c1 : w4.cell? ⟨w.heap.size, 1, none⟩ = some (.int .i64 b) := hAr.cell 1
          have c3 : w4.cell? ⟨w.heap.size + 1, 1, none⟩ = some (.int .i64 d) := hBr.cell 1
          have hA5 : Bk ((w4.setRow w.heap.size (frC d y)).setRow (w.heap.size + 1) (frC b x)) w.heap.size 35 (frC d y) := (hAr.setRow _).farRow (by omega) _
          have hB4 : Bk (w4.setRow w.heap.size (frC d y)) (w.heap.size + 1) 35 (frC c d) := hBr.farRow (by omega) _
          have hB5 := hB4.setRow (frC b x)
          have hG5 : G w ((w4.setRow w.heap.size (frC d y)).setRow (w.heap.size + 1) (frC b x)) none := (hGr.setRow (.inl (Nat.le_refl _)) _).setRow (.inl (by omega)) _
          go_wp2_with (first | refine wpList_store_row rfl 35 _ _ rfl w.heap.size (frC d y) rfl rfl 35 _ hAr (fr_info d y) rfl (fr_one d y) ?_ | refine wpList_store_row rfl 35 _ _ rfl (w.heap.size + 1) (frC b x) rfl rfl 35 _ hB4 (fr_info b x) rfl (fr_one b x) ?_)
          simp only [Act.put]
          go_roundw
          case rel => exact ⟨d, y, b, x, by omega, by omega, hd, by have := HL.out; omega, hb, by have := HL.out; omega, by rw [HR.out, Nat.mul_comm d x, Nat.mul_comm b y], hA5, hB5, hG5⟩
          case measure =>
            show denAt _ _ + denAt _ _ < denAt _ _ + denAt _ _
            rw [denAt_of hA5, denAt_of hB5, HM.out.1, HM.out.2]
            have := HL.out
            omega
    · have HF : Hid (R = decide (p < q)) := Lib.hid (by rw [← hR]; exact decide_eq_decide.2 (LC.out.trans (by rw [HPQ.out.1, HPQ.out.2, if_neg hpq])))
      have hne : ((p : Int) != (q : Int)) = true := by rw [bne_iff_ne]; omega
      clear hR LC HPQ
      go_wp2_with fail
      go_ret
      exact ⟨by rw [HF.out]; rfl, hGq⟩
end Go.Proofs.YtbieiefbgcgogaaDoor

/- Odds: the law's own less. -/
namespace Go.Proofs.YtbieiefbgcgogaaDoor
open Go.RowKit

theorem lt_cross (a b c d : Nat) (hb : 0 < b) (hd : 0 < d) : (a * d < c * b) ↔ if a / b = c / d then a % b * d < c % d * b else a / b < c / d := by
  have h := le_cross c d a b hd hb
  constructor
  · intro h1
    have h2 : ¬ (c * b ≤ a * d) := by omega
    rw [h] at h2
    split
    · rename_i e; rw [if_pos e.symm] at h2; omega
    · rename_i e; rw [if_neg (fun x => e x.symm)] at h2; omega
  · intro h1
    have h2 : ¬ (c * b ≤ a * d) := by
      rw [h]
      split
      · rename_i e; rw [if_pos e.symm] at h1; omega
      · rename_i e; rw [if_neg (fun x => e x.symm)] at h1; omega
    omega
def LeRel (w : World) (R : Bool) (_s : Value) (wr : World) : Prop :=
  ∃ a b c d : Nat, 0 < b ∧ 0 < d ∧ a ≤ 1000000000000000000 ∧ b ≤ 1000000000000000000 ∧ c ≤ 1000000000000000000 ∧ d ≤ 1000000000000000000 ∧ decide (a * d < c * b) = R ∧
    Bk wr w.heap.size 35 (frC a b) ∧ Bk wr (w.heap.size + 1) 35 (frC c d) ∧ G w wr none
set_option maxRecDepth 100000 in
set_option maxHeartbeats 4000000 in
theorem less_c (a b c d : Nat) (hb0 : 0 < b) (hd0 : 0 < d) (ha : a ≤ 1000000000000000000) (hb : b ≤ 1000000000000000000) (hc : c ≤ 1000000000000000000) (hd : d ≤ 1000000000000000000) (w : World) :
    Calls Tryd.prog 58 #[.agg (frC a b), .agg (frC c d)] w fun e w' => e = .returned (.bool (decide (a * d < c * b))) ∧ G w w' none := by
  have hG2 := ((G.refl w none).alloc (.cells (frC a b) 35)).alloc (.cells (frC c d) 35)
  have hA := (Bk.new w 35 (frC a b)).alloc (.cells (frC c d) 35)
  have hB : Bk ((w.alloc (.cells (frC a b) 35)).alloc (.cells (frC c d) 35)) (w.heap.size + 1) 35 (frC c d) := Bk.newAt (w := w.alloc (.cells (frC a b) 35)) (b := w.heap.size + 1) (by simp) 35 (frC c d)
  obtain ⟨R, hR⟩ : ∃ R, decide (a * d < c * b) = R := ⟨_, rfl⟩
  rw [hR]
  go_enter Tryd.func58, Tryd.ntmps58
  go_wp2_with fail
  go_loopw [5] (LeRel w R) (fun _ wr => denAt wr w.heap.size + denAt wr (w.heap.size + 1))
  case atStart => exact ⟨a, b, c, d, hb0, hd0, ha, hb, hc, hd, hR, hA, hB, hG2⟩
  case round =>
    clear hG2 hA hB hR hb0 hd0 ha hb hc hd
    obtain ⟨A1, hA1⟩ : ∃ x, frC (a : Int) b = x := ⟨_, rfl⟩
    obtain ⟨B1, hB1⟩ : ∃ x, frC (c : Int) d = x := ⟨_, rfl⟩
    rw [hA1, hB1]
    clear hA1 hB1 a b c d
    obtain ⟨a, b, c, d, hb0, hd0, ha, hb, hc, hd, hR, hA, hB, hG⟩ := hrel
    have LC := Lib.hid (lt_cross a b c d hb0 hd0)
    have HM := Lib.hid (And.intro (denAt_of hA) (denAt_of hB))
    have c0 : wr.cell? ⟨w.heap.size, 0, none⟩ = some (.int .i64 a) := hA.cell 0
    have c1 : wr.cell? ⟨w.heap.size, 1, none⟩ = some (.int .i64 b) := hA.cell 1
    have c2 : wr.cell? ⟨w.heap.size + 1, 0, none⟩ = some (.int .i64 c) := hB.cell 0
    have c3 : wr.cell? ⟨w.heap.size + 1, 1, none⟩ = some (.int .i64 d) := hB.cell 1
    obtain ⟨p, hp⟩ : ∃ p, a / b = p := ⟨_, rfl⟩
    obtain ⟨q, hq⟩ : ∃ p, c / d = p := ⟨_, rfl⟩
    have hw1 := quo_wrap a b p ha hp
    have hw2 := quo_wrap c d q hc hq
    have hbn : ¬ b = 0 := by omega
    have hdn : ¬ d = 0 := by omega
    have HPQ := Lib.hid (And.intro hp hq)
    clear hp hq
    go_wp2_with fail
    go_quiet (fail)
    have hGq := hG.drewN nq
    have hAq := hA.drewN nq
    have hBq := hB.drewN nq
    clear hG hA hB c0 c1 c2 c3 hw1 hw2
    generalize wr.drewN nq = w3 at hGq hAq hBq ⊢
    by_cases hpq : p = q
    · subst hpq
      have c0 : w3.cell? ⟨w.heap.size, 0, none⟩ = some (.int .i64 a) := hAq.cell 0
      have c1 : w3.cell? ⟨w.heap.size, 1, none⟩ = some (.int .i64 b) := hAq.cell 1
      have c2 : w3.cell? ⟨w.heap.size + 1, 0, none⟩ = some (.int .i64 c) := hBq.cell 0
      have c3 : w3.cell? ⟨w.heap.size + 1, 1, none⟩ = some (.int .i64 d) := hBq.cell 1
      obtain ⟨x, hx⟩ : ∃ x, a % b = x := ⟨_, rfl⟩
      obtain ⟨y, hy⟩ : ∃ y, c % d = y := ⟨_, rfl⟩
      have HR : Hid (R = decide (x * d < y * b)) := Lib.hid (by rw [← hR, ← hx, ← hy]; exact decide_eq_decide.2 (LC.out.trans (by rw [HPQ.out.1, HPQ.out.2, if_pos rfl])))
      have hxl : x < b := by rw [← hx]; exact Nat.mod_lt _ hb0
      have hyl : y < d := by rw [← hy]; exact Nat.mod_lt _ hd0
      have t1 : (a : Int).tmod (b : Int) = (x : Int) := by rw [← hx, Int.tmod_eq_emod_of_nonneg (by omega)]; rfl
      have t2 : (c : Int).tmod (d : Int) = (y : Int) := by rw [← hy, Int.tmod_eq_emod_of_nonneg (by omega)]; rfl
      have v1 : IntKind.i64.wrap (x : Int) = (x : Int) := by rw [IntKind.wrap_i64]; omega
      have v2 : IntKind.i64.wrap (y : Int) = (y : Int) := by rw [IntKind.wrap_i64]; omega
      have HL := Lib.hid (And.intro hxl hyl)
      clear hR LC HPQ hx hy hxl hyl
      go_wp2_with fail
      go_quiet (fail)
      have hGr := hGq.drewN nq
      have hAr := hAq.drewN nq
      have hBr := hBq.drewN nq
      clear hGq hAq hBq c0 c1 c2 c3 t1 t2 v1 v2
      generalize w3.drewN nq = w4 at hGr hAr hBr ⊢
      by_cases hy0 : y = 0
      · subst hy0
        have HF : Hid (R = false) := Lib.hid (by rw [HR.out]; simp)
        clear HR
        by_cases hx0 : x = 0
        · subst hx0
          go_wp2_with fail
          go_ret
          exact ⟨by rw [HF.out]; rfl, hGr⟩
        · have hxb : ((x : Int) == 0) = false := by rw [beq_eq_false_iff_ne]; omega
          clear hx0
          go_wp2_with fail
          go_ret
          exact ⟨by rw [HF.out]; rfl, hGr⟩
      · have hyb : ((y : Int) == 0) = false := by rw [beq_eq_false_iff_ne]; omega
        have hyp : (0 : Int) < (y : Int) := by omega
        by_cases hx0 : x = 0
        · have hxb : ((x : Int) == 0) = true := by rw [hx0]; rfl
          have HF : Hid (R = decide (0 < y)) := Lib.hid (by
            rw [HR.out, hx0, Nat.zero_mul]
            exact decide_eq_decide.2 ⟨fun _ => by omega, fun _ => Nat.mul_pos (by omega) hb0⟩)
          clear HR
          go_wp2_with fail
          go_ret
          exact ⟨by rw [HF.out]; rfl, hGr⟩
        · have hxb : ((x : Int) == 0) = false := by rw [beq_eq_false_iff_ne]; omega
          have c1 : w4.cell? ⟨w.heap.size, 1, none⟩ = some (.int .i64 b) := hAr.cell 1
          have c3 : w4.cell? ⟨w.heap.size + 1, 1, none⟩ = some (.int .i64 d) := hBr.cell 1
          have hA5 : Bk ((w4.setRow w.heap.size (frC d y)).setRow (w.heap.size + 1) (frC b x)) w.heap.size 35 (frC d y) := (hAr.setRow _).farRow (by omega) _
          have hB4 : Bk (w4.setRow w.heap.size (frC d y)) (w.heap.size + 1) 35 (frC c d) := hBr.farRow (by omega) _
          have hB5 := hB4.setRow (frC b x)
          have hG5 : G w ((w4.setRow w.heap.size (frC d y)).setRow (w.heap.size + 1) (frC b x)) none := (hGr.setRow (.inl (Nat.le_refl _)) _).setRow (.inl (by omega)) _
          go_wp2_with (first | refine wpList_store_row rfl 35 _ _ rfl w.heap.size (frC d y) rfl rfl 35 _ hAr (fr_info d y) rfl (fr_one d y) ?_ | refine wpList_store_row rfl 35 _ _ rfl (w.heap.size + 1) (frC b x) rfl rfl 35 _ hB4 (fr_info b x) rfl (fr_one b x) ?_)
          simp only [Act.put]
          go_roundw
          case rel => exact ⟨d, y, b, x, by omega, by omega, hd, by have := HL.out; omega, hb, by have := HL.out; omega, by rw [HR.out, Nat.mul_comm d x, Nat.mul_comm b y], hA5, hB5, hG5⟩
          case measure =>
            show denAt _ _ + denAt _ _ < denAt _ _ + denAt _ _
            rw [denAt_of hA5, denAt_of hB5, HM.out.1, HM.out.2]
            have := HL.out
            omega
    · have HF : Hid (R = decide (p < q)) := Lib.hid (by rw [← hR]; exact decide_eq_decide.2 (LC.out.trans (by rw [HPQ.out.1, HPQ.out.2, if_neg hpq])))
      have hne : ((p : Int) != (q : Int)) = true := by rw [bne_iff_ne]; omega
      clear hR LC HPQ
      go_wp2_with fail
      go_ret
      exact ⟨by rw [HF.out]; rfl, hGq⟩
end Go.Proofs.YtbieiefbgcgogaaDoor

/- Odds: the reference's OverOf and MostOf, for any bookings. -/
namespace Go.Proofs.YtbieiefbgcgogaaDoor
open Go.RowKit

set_option maxRecDepth 100000 in
set_option maxHeartbeats 4000000 in
theorem overOfP_c (v : Value) (l : List Bo) (u : Int) (w : World) (hr : RdR w 6 boC v l) (hn : l.length ≤ 9) (hp : PcOk l) :
    Calls Tryd.prog 20 #[v, .int .i64 u] w fun e w' => e = .returned (.agg (frV (ovF l u))) ∧ G w w' none := by
  have hG0 := (G.refl w none).alloc (.cells (frC 0 0) 35)
  have HR := Lib.hid (hr.quiet hG0)
  have hB0 := Bk.new w 35 (frC 0 0)
  obtain ⟨cl, cn, cs⟩ := cas_ok (pcs l) hp
  have hpl : (pcs l).length = l.length := by unfold pcs; rw [List.length_map]
  rw [hpl] at cl cs
  obtain ⟨b0, b1⟩ := ovS_bnd cn u (l.length + 1) (by omega)
  have b2 := take_le cn (l.length + 1)
  have hH1 := pow_le l.length hn
  have hH0 := pow_pos100 l.length
  have HF : Hid (lowF (ovS (cas (pcs l)) u (l.length + 1)) (100 ^ l.length) = ovF l u) := Lib.hid rfl
  have HU : Hid (∀ w : World, Calls Tryd.prog 70 #[.int .i64 l.length] w fun e w' => e = .returned (.int .i64 (100 ^ l.length)) ∧ w = w') := Lib.hid fun w => hundred_c l.length w hn
  have HP := Lib.hid hp
  obtain ⟨av, acap, rfl, hcap, hm⟩ := RdR.form hr
  clear hr hpl hp
  go_enter Tryd.func20, Tryd.ntmps20
  go_wp2_with fail
  refine (overOf_c _ l u _ HR.out hn HP.out).mono ?_; rintro e w2 ⟨rfl, hG2⟩
  have hB2 := hB0.quiet hG2
  have hG02 := hG0.trans hG2
  obtain ⟨A, hA⟩ : ∃ A, ovS (cas (pcs l)) u (l.length + 1) = A := ⟨_, rfl⟩
  obtain ⟨H, hH⟩ : ∃ H : Int, (100 : Int) ^ l.length = H := ⟨_, rfl⟩
  rw [hA, hH] at HF
  rw [hA] at b0 b1 ⊢
  rw [hH] at cs hH1 hH0 HU
  clear hA hH
  go_wp2_with fail
  refine (HU.out _).mono ?_; rintro e w' ⟨rfl, rfl⟩
  go_wp2_with fail
  refine (rlow_i A H _ b0 (by omega) hH0 hH1).mono ?_; rintro e w3 ⟨rfl, hG3⟩
  have hB3 := hB2.quiet hG3
  have hG03 := hG02.trans hG3
  obtain ⟨F, hFF⟩ : ∃ F, lowF A H = F := ⟨_, rfl⟩
  rw [hFF] at HF ⊢
  clear hFF
  go_wp2_with (refine wpList_store_row rfl 35 _ _ rfl w.heap.size (frC F.1 F.2) rfl rfl 35 _ hB3 (fr_info F.1 F.2) rfl (fr_one F.1 F.2) ?_)
  refine bodyPost_ret (results_cell_row rfl _ _ w.heap.size 35 (frC F.1 F.2) (0, 0) _ rfl (hB3.setRow _) Tryd.underlying35 rfl (fr_info F.1 F.2)) rfl ?_
  exact ⟨by rw [← HF.out]; rfl, hG03.setRow (.inl (Nat.le_refl _)) _⟩
theorem lowF_pos (n d : Int) (d0 : 0 < d) : 0 < (lowF n d).2 := by
  have h1 := low_den n.toNat d.toNat (by omega)
  show (0 : Int) < ((d.toNat / Nat.gcd d.toNat n.toNat : Nat) : Int)
  exact Int.natCast_pos.2 (Nat.pos_of_ne_zero h1)
theorem atM_c (x r : Fr) (w : World) (x1 : 0 ≤ x.1) (x2 : x.1 ≤ 1000000000000000000) (x3 : 0 < x.2) (x4 : x.2 ≤ 1000000000000000000) (r1 : 0 ≤ r.1) (r2 : r.1 ≤ 1000000) (r3 : 0 < r.2) (r4 : r.2 ≤ 1000000) :
    Calls Tryd.prog 72 #[.agg (frV x), .agg (frV r)] w fun e w' => e = .returned (.bool (!(grB x r))) ∧ G w w' none := by
  obtain ⟨a, b⟩ := x
  obtain ⟨c, d⟩ := r
  simp only at x1 x2 x3 x4 r1 r2 r3 r4
  obtain ⟨a', rfl⟩ := Int.eq_ofNat_of_zero_le x1
  obtain ⟨b', rfl⟩ := Int.eq_ofNat_of_zero_le (Int.le_of_lt x3)
  obtain ⟨c', rfl⟩ := Int.eq_ofNat_of_zero_le r1
  obtain ⟨d', rfl⟩ := Int.eq_ofNat_of_zero_le (Int.le_of_lt r3)
  have h := atMost_c a' b' c' d' (by omega) (by omega) (by omega) (by omega) (by omega) (by omega) w
  have e : decide (a' * d' ≤ c' * b') = !(grB ((a' : Int), (b' : Int)) ((c' : Int), (d' : Int))) := by
    show _ = !(decide (c' * b' < a' * d'))
    rw [Bool.eq_iff_iff]
    simp
  rw [e] at h
  exact h
def bestK (p : Nat → Bool) : Nat → Nat
  | 0 => 0
  | k + 1 => if p k = true then bestK p k else k
theorem best_most (p : Nat → Bool) : ∀ k, bestK p (k + 1) = mostK p k
  | 0 => by simp [bestK, mostK]
  | k + 1 => by
    have h := best_most p k
    show (if p (k + 1) = true then bestK p (k + 1) else k + 1) = if p (k + 1) = true then mostK p k else k + 1
    rw [h]
def MfRel (w : World) (l : List Bo) (u : Int) (r : Fr) (s7 s12 : Value) (wr : World) : Prop :=
  ∃ k : Nat, k ≤ l.length + 1 ∧ s12 = .int .i64 k ∧ s7 = .int .i64 (bestK (ovG l u r) k : Nat) ∧ Bk wr w.heap.size 35 (frC r.1 r.2) ∧ G w wr none
set_option maxRecDepth 100000 in
set_option maxHeartbeats 4000000 in
theorem mostOf_c (v : Value) (l : List Bo) (u : Int) (r : Fr) (w : World) (hr : RdR w 6 boC v l) (hn : l.length ≤ 9) (hp : PcOk l) (hrr : 0 ≤ r.1 ∧ r.1 ≤ 1000000 ∧ 0 < r.2 ∧ r.2 ≤ 1000000) :
    Calls Tryd.prog 21 #[v, .int .i64 u, .agg (frV r)] w fun e w' => e = .returned (.int .i64 (mostK (ovG l u r) l.length : Nat)) ∧ G w w' none := by
  have hG1 := (G.refl w none).alloc (.cells (frC r.1 r.2) 35)
  have hB1 := Bk.new w 35 (frC r.1 r.2)
  have hr0 := Lib.hid hr
  have HP := Lib.hid hp
  have HRB := Lib.hid hrr
  obtain ⟨r1, r2⟩ := r
  simp only [frV, frC] at hG1 hB1 ⊢
  obtain ⟨ad, cap, rfl, hcap, hm⟩ := RdR.form hr
  clear hr hp hrr
  go_enter Tryd.func21, Tryd.ntmps21
  go_wp2_with fail
  go_loopw [7, 12] (MfRel w l u (r1, r2)) (fun _ i _ => l.length + 1 - (intOf i).toNat)
  case atStart => exact ⟨0, Nat.zero_le _, rfl, rfl, hB1, hG1⟩
  case round =>
    clear hB1 hG1
    obtain ⟨k, hk, rfl, rfl, hB, hG⟩ := hrel
    by_cases hlt : k < l.length + 1
    · have hki : (k : Int) < (l.length : Int) + 1 := by omega
      go_wp2_with fail
      have hkl : k ≤ l.length := by omega
      have hBd := hB.quiet ((G.refl wr none).drew)
      have hGd := hG.drew
      have HPre := Lib.hid ((RdR.prefix_ boC_sz hr0.out k hkl).quiet hGd)
      have HPk := Lib.hid (And.intro (HP.out.take k) (show (l.take k).length ≤ 9 by rw [List.length_take]; omega))
      have HOB := Lib.hid (ovF_bnd (l.take k) u HPk.out.1 HPk.out.2)
      have HOP : Hid (0 < (ovF (l.take k) u).2) := Lib.hid (lowF_pos _ _ (pow_pos100 _))
      have hkc : (k : Int) ≤ cap := by omega
      have hkc' : k ≤ cap := by omega
      clear hB hG
      refine wp_region_held_drew (S := (fun w' => w'.cell? ⟨w.heap.size, 0, none⟩ = some (.int .i64 r1) ∧ w'.cell? ⟨w.heap.size, 1, none⟩ = some (.int .i64 r2))) (by kernel_rfl) ?_ (fun hHeld => ?_)
      · exact ⟨hBd.cell 0, hBd.cell 1⟩
      refine wpAnyH_take (i := 0) (oi := { dst := some 15, op := Op.move (Operand.tmp 0), type := 26, pos := "books.go:362", after := #[], guard := none }) (v := ?_) rfl (by kernel_rfl) (by kernel_rfl) (by kernel_rfl) (fun _ _ _ h => h) (Or.inl ⟨by rfl, ?_⟩) (by assumption) ?_
      rotate_left
      · (intro w hSw; obtain ⟨s0, s1⟩ := hSw; (go_simp <;> with_reducible rfl))
      try simp only [Act.put, List.setIfInBounds_toArray, List.set_cons_zero, List.set_cons_succ]
      refine wpAnyH_take (i := 1) (oi := { dst := some 16, op := Op.move (Operand.tmp 8), type := 3, pos := "books.go:362", after := #[], guard := none }) (v := ?_) rfl (by kernel_rfl) (by kernel_rfl) (by kernel_rfl) (fun _ _ _ h => h) (Or.inl ⟨by rfl, ?_⟩) (by assumption) ?_
      rotate_left
      · (intro w hSw; obtain ⟨s0, s1⟩ := hSw; (go_simp <;> with_reducible rfl))
      try simp only [Act.put, List.setIfInBounds_toArray, List.set_cons_zero, List.set_cons_succ]
      refine wpAnyH_take (i := 2) (oi := { dst := some 17, op := Op.slice 26 (Operand.tmp 15) none (some (Operand.tmp 16)) none, type := 26, pos := "books.go:362", after := #[{ on := 0, ground := Ground.data }, { on := 1, ground := Ground.data }], guard := none }) (v := ?_) rfl (by kernel_rfl) (by kernel_rfl) (by kernel_rfl) (fun _ _ _ h => h) (Or.inl ⟨by rfl, ?_⟩) (by assumption) ?_
      rotate_left
      · (intro w hSw; obtain ⟨s0, s1⟩ := hSw; (go_simp <;> with_reducible rfl))
      try simp only [Act.put, List.setIfInBounds_toArray, List.set_cons_zero, List.set_cons_succ]
      refine wpAnyH_take (i := 3) (oi := { dst := some 18, op := Op.move (Operand.tmp 1), type := 3, pos := "books.go:362", after := #[], guard := none }) (v := ?_) rfl (by kernel_rfl) (by kernel_rfl) (by kernel_rfl) (fun _ _ _ h => h) (Or.inl ⟨by rfl, ?_⟩) (by assumption) ?_
      rotate_left
      · (intro w hSw; obtain ⟨s0, s1⟩ := hSw; (go_simp <;> with_reducible rfl))
      try simp only [Act.put, List.setIfInBounds_toArray, List.set_cons_zero, List.set_cons_succ]
      refine wpAnyH_take (i := 5) (oi := { dst := some 20, op := Op.load 35 (Operand.tmp 5), type := 35, pos := "books.go:362", after := #[], guard := none }) (v := ?_) rfl (by kernel_rfl) (by kernel_rfl) (by kernel_rfl) (fun _ _ _ h => h) (Or.inl ⟨by rfl, ?_⟩) (by assumption) ?_
      rotate_left
      · (intro w hSw; obtain ⟨s0, s1⟩ := hSw; (go_simp <;> with_reducible rfl))
      try simp only [Act.put, List.setIfInBounds_toArray, List.set_cons_zero, List.set_cons_succ]
      refine wpAnyH_ready (rs := [4]) (by kernel_rfl) (by simp) ?_
      refine AllReadyH.cons (o := { dst := some 19, op := Op.call { callee := Callee.value (Operand.func 20), args := #[Operand.tmp 17, Operand.tmp 18], argTypes := #[26, 3] }, type := 35, pos := "books.go:362", after := #[{ on := 2, ground := Ground.data }, { on := 3, ground := Ground.data }], guard := none }) rfl (fun K hK => ?_) AllReadyH.nil
      go_simp
      refine (overOfP_c _ (l.take k) u _ HPre.out HPk.out.2 HPk.out.1).mono ?_
      rintro e y1 ⟨rfl, hH⟩
      have hB1 := hBd.quiet hH
      have hG1 := hGd.trans hH
      clear hH
      refine hK.out _ _ ?_ (fun hHeld => ?_)
      · exact ⟨hB1.cell 0, hB1.cell 1⟩
      clear hK K
      try simp only [Act.put, List.setIfInBounds_toArray, List.set_cons_zero, List.set_cons_succ]
      refine wpAnyH_ready (rs := [6]) (by kernel_rfl) (by simp) ?_
      refine AllReadyH.cons (o := { dst := some 21, op := Op.call { callee := Callee.value (Operand.func 72), args := #[Operand.tmp 19, Operand.tmp 20], argTypes := #[35, 35] }, type := 4, pos := "books.go:362", after := #[{ on := 4, ground := Ground.data }, { on := 5, ground := Ground.data }, { on := 4, ground := Ground.chain }], guard := none }) rfl (fun K hK => ?_) AllReadyH.nil
      go_simp
      refine (atM_c (ovF (l.take k) u) (r1, r2) _ HOB.out.1 HOB.out.2.1 HOP.out HOB.out.2.2.2 HRB.out.1 HRB.out.2.1 HRB.out.2.2.1 HRB.out.2.2.2).mono ?_
      rintro e y2 ⟨rfl, hH⟩
      have hB3 := hB1.quiet hH
      have hG3 := hG1.trans hH
      clear hH
      refine hK.out _ _ ?_ (fun hHeld => ?_)
      · exact ⟨hB3.cell 0, hB3.cell 1⟩
      clear hK K
      try simp only [Act.put, List.setIfInBounds_toArray, List.set_cons_zero, List.set_cons_succ]
      refine wpAnyH_done (by kernel_rfl) ?_ _
      obtain ⟨F, hFF⟩ : ∃ F, ovF (l.take k) u = F := ⟨_, rfl⟩
      rw [hFF]
      clear hBd hGd hB1 hG1 HOB HPk HPre HOP
      cases hg : grB F (r1, r2) with
      | true =>
        have hp : ovG l u (r1, r2) k = true := by unfold ovG; rw [hFF]; exact hg
        have HB : Hid (bestK (ovG l u (r1, r2)) (k + 1) = bestK (ovG l u (r1, r2)) k) := Lib.hid (if_pos hp)
        clear hp hg hFF
        go_wp2_with fail
        go_roundw
        case rel => exact ⟨k + 1, by omega, by go_num, by rw [HB.out], hB3, hG3⟩
        case measure => simp [intOf]; omega
      | false =>
        have hp : ovG l u (r1, r2) k = false := by unfold ovG; rw [hFF]; exact hg
        have HB : Hid (bestK (ovG l u (r1, r2)) (k + 1) = k) := Lib.hid (if_neg (by rw [hp]; decide))
        clear hp hg hFF
        go_wp2_with fail
        go_roundw
        case rel => exact ⟨k + 1, by omega, by go_num, by rw [HB.out], hB3, hG3⟩
        case measure => simp [intOf]; omega
    · obtain rfl : k = l.length + 1 := by omega
      have hnk : ¬ ((l.length : Int) + 1 < (l.length : Int) + 1) := by omega
      have hb := best_most (ovG l u (r1, r2)) l.length
      rw [hb]
      clear hb
      go_wp2_with fail
      go_ret
      exact ⟨rfl, hG⟩
end Go.Proofs.YtbieiefbgcgogaaDoor

/- Rows of structs that a call owns, of whatever make; prefixes of lists of strings. No program. -/
namespace Go.Proofs.YtbieiefbgcgogaaDoor
open Go.RowKit

abbrev OwnX {α : Type} (T : TypeId) (z : Nat) (c : α → Array Value) (w : World) (base : Nat) (v : Value) (l : List α) : Prop := w.ownsRow base T z v l.length (rowL c l)
structure RowOk {α : Type} (P : Program) (T TS : TypeId) (z bytes : Nat) (zv : Value) (c : α → Array Value) : Prop where
  row : (P.info? T).map (fun i => (i.zero, i.size, i.bytes)) = some (some zv, z, bytes)
  slice : P.underlying TS = some (.slice T)
  one : ∀ r, ∀ u ∈ (c r).toList, u.oneCell' = true
  sz : ∀ p, (c p).size = z
  zv : zv.cells.size = z
  pos : 0 < z
  few : bytes ≤ 100000
section
variable {α : Type} {T : TypeId} {z : Nat} {c : α → Array Value}
theorem bk_at {w : World} {g : Nat} {cs : Array Value} (h : Bk w g T cs) : ∀ j u, cs.toList[j]? = some u → w.cell? ((⟨g, 0, none⟩ : Addr).add j) = some u := fun j u hu => by
  rw [add_at, Nat.zero_add, h.cell]
  simpa using hu
theorem wp_append_x {P : Program} {TS : TypeId} {bytes : Nat} {zv : Value} (hk : RowOk P T TS z bytes zv c) {w : World} {o : Oper} {a : Act} {K : Act → World → Prop} {Q : Exit → Act → World → Prop} (s x : Operand)
    (ho : o.op = .call { callee := .builtin .append, args := #[s, x], argTypes := #[TS, TS] }) (base : Nat) (v : Value) (l : List α) (hs : a.eval s = v) (hown : OwnX T z c w base v l)
    (g : Nat) (r : α) (hx : a.eval x = .slice (some ⟨g, 0, none⟩) 1 1) (hb : Bk w g T (c r)) (hl : l.length ≤ 1000) (hbase : base ≤ w.heap.size)
    (hK : ∀ v' w', OwnX T z c w' base v' (l ++ [r]) → w.grownBy w' v.ownBlock → K (a.put o.dst v') w') : o.wp P a w K Q := by
  obtain ⟨i0, hi, hz0, hz1, hz2⟩ := info_parts hk.row
  have hm : (l.length + 1) * bytes ≤ 1001 * 100000 := Nat.mul_le_mul (by omega) hk.few
  refine wp_append_own w s x TS ho base T i0 zv z bytes hk.slice hi hz0 hz1 hz2 hk.zv hk.pos v l.length (rowL c l) hs hown ⟨g, 0, none⟩ 1 1 (c r).toList hx (by rw [Array.length_toList, hk.sz, Nat.one_mul]) (bk_at hb) (hk.one r) (by unfold maxLen; omega) (by omega) hbase ?_
  intro v' w' h1 h2 _
  refine hK v' w' ?_ h2
  unfold OwnX
  rw [List.length_append, rowL_snoc]
  exact h1
theorem OwnX.alloc {w : World} {base : Nat} {v : Value} {l : List α} (h : OwnX T z c w base v l) (o : Obj) : OwnX T z c (w.alloc o) base v l := World.ownsRow.alloc h o
theorem OwnX.kept {w w' : World} {base : Nat} {v : Value} {l : List α} {s : Nat} (h : OwnX T z c w base v l) (hg : G w w' (some s)) (hs : s < base) : OwnX T z c w' base v l := by
  refine World.ownsRow.kept h hg (.inr fun e => ?_)
  have := (World.ownsRow.lt h s e).1
  omega
theorem OwnX.quiet {w w' : World} {base : Nat} {v : Value} {l : List α} (h : OwnX T z c w base v l) (hg : G w w' none) : OwnX T z c w' base v l := World.ownsRow.kept h hg (Classical.em _)
theorem OwnX.drew {w : World} {base : Nat} {v : Value} {l : List α} (h : OwnX T z c w base v l) : OwnX T z c w.drew base v l := h.quiet ((G.refl w none).drew)
theorem OwnX.ne {w : World} {base : Nat} {v : Value} {l : List α} (h : OwnX T z c w base v l) {r : Nat} (hr : r < base ∨ w.heap.size ≤ r) : some r ≠ v.ownBlock := fun e => by
  have := World.ownsRow.lt h r e.symm
  omega
theorem OwnX.far {w : World} {base : Nat} {v : Value} {l : List α} (h : OwnX T z c w base v l) {p : Addr} (hp : some p.block ≠ v.ownBlock) (u : Value) : OwnX T z c (w.setCell p u) base v l := World.ownsRow.kept h (grownBy_setCell_row w p u) (.inr hp.symm)
theorem OwnX.low {w : World} {base : Nat} {v : Value} {l : List α} (h : OwnX T z c w base v l) : ∀ r, v.ownBlock = some r → base ≤ r := fun r e => (World.ownsRow.lt h r e).1
theorem OwnX.down {w : World} {base b : Nat} {v : Value} {l : List α} (h : OwnX T z c w base v l) (hb : b ≤ base) : OwnX T z c w b v l := by
  obtain ⟨h1, h2⟩ := h
  rcases h2 with ⟨rfl, h3⟩ | ⟨g, cap, cur, rfl, h3, h4, h5, h6, h7, h8⟩
  · exact ⟨h1, .inl ⟨rfl, h3⟩⟩
  · exact ⟨h1, .inr ⟨g, cap, cur, rfl, Nat.le_trans hb h3, h4, h5, h6, h7, h8⟩⟩
theorem OwnX.set (hz : ∀ p, (c p).size = z) {w : World} {base g n cap : Nat} {l : List α} {k : Nat} {p q : α} (h : w.ownsRow base T z (.slice (some ⟨g, 0, none⟩) n cap) n (rowL c l)) (hp : l[k]? = some p) (j : Nat) (u : Value) (hj : j < z) (hq : (c q).toList = (c p).toList.set j u) :
    (w.setCell ⟨g, k * z + j, none⟩ u).ownsRow base T z (.slice (some ⟨g, 0, none⟩) n cap) n (rowL c (l.set k q)) := by
  rw [← rowL_set hz l k p q hp j u hj hq]
  exact ownsRow_set h _ _
end
/-- The first of a list of strings. -/
theorem rdS_prefix {w : World} {a : Option Addr} {n cap : Nat} {l : List ByteArray} (h : Rd w 1 (.slice a n cap) l.length (l.map Value.string)) (m : Nat) (hm : m ≤ l.length) : Rd w 1 (.slice a m cap) (l.take m).length ((l.take m).map Value.string) := by
  obtain ⟨a', c', e, h1, h2, h3, h4, h5⟩ := h
  obtain ⟨rfl, rfl, rfl⟩ : a = a' ∧ n = l.length ∧ cap = c' := by cases e; exact ⟨rfl, rfl, rfl⟩
  have hlt : (l.take m).length = m := by rw [List.length_take]; omega
  refine ⟨a, cap, by rw [hlt], by omega, h2, by simp, fun e => ⟨by have := (h4 e).1; omega, (h4 e).2⟩, fun b hb => ?_⟩
  obtain ⟨q1, q2, q3⟩ := h5 b hb
  refine ⟨q1, q2, fun j u hj => q3 j u ?_⟩
  rw [List.map_take] at hj
  rw [← hj, List.getElem?_take]
  have hjl := (List.getElem?_eq_some_iff.1 hj).1
  simp at hjl
  rw [if_pos (by omega)]
end Go.Proofs.YtbieiefbgcgogaaDoor

/- Generator: Bookings. -/
namespace Go.Proofs.YtbieiefbgcgogaaDoor
open Go.RowKit

theorem bo_oneL (r : Bo) : ∀ u ∈ (boC r).toList, u.oneCell' = true := by
  intro u hu
  simp [boC] at hu
  rcases hu with rfl | rfl | rfl | rfl | rfl | rfl <;> rfl
theorem bo_rowOk : RowOk Tryd.prog 33 26 6 64 (.agg (boC (⟨#[]⟩, ⟨#[]⟩, 0, 0, 0, 0))) boC := ⟨by kernel_rfl, Tryd.underlying26, bo_oneL, boC_sz, rfl, by omega, by omega⟩
abbrev OwnBo (w : World) (base : Nat) (v : Value) (l : List Bo) : Prop := OwnX 33 6 boC w base v l
theorem BoOk.snoc {l : List Bo} {r : Bo} (h : BoOk l) (hr : boB r) : BoOk (l ++ [r]) := fun p hp => by
  rcases List.mem_append.1 hp with hp | hp
  · exact h p hp
  · obtain rfl := List.mem_singleton.1 hp
    exact hr
theorem BoOk.set {l : List Bo} (h : BoOk l) {r : Bo} (hr : boB r) (k : Nat) : BoOk (l.set k r) := fun p hp => by
  rcases List.mem_or_eq_of_mem_set hp with hp | rfl
  · exact h p hp
  · exact hr
theorem min2k (x y : Int) (w : World) : (Builtin.min_ #[3, 3] 3 #[.int .i64 x, .int .i64 y]).run Tryd.prog w = .ok (.int .i64 (min x y)) w := by
  have e : (if y < x then y else x) = min x y := by
    rw [Int.min_def]
    split <;> split <;> omega
  simp [Builtin.min_, Builtin.min2, e]
def boKeys : Array Value := #[.string ⟨#[98, 97]⟩, .string ⟨#[98, 98]⟩, .string ⟨#[98, 99]⟩, .string ⟨#[98, 100]⟩, .string ⟨#[98, 101]⟩, .string ⟨#[98, 102]⟩, .string ⟨#[98, 103]⟩, .string ⟨#[98, 104]⟩, .string ⟨#[98, 105]⟩]
theorem boKeys_at (k : Nat) (hk : k < 9) : ∃ a : ByteArray, Small a ∧ boKeys[k]? = some (.string a) := by
  match k, hk with
  | 0, _ => exact ⟨_, small_of (s := ⟨#[98, 97]⟩) (by decide), rfl⟩
  | 1, _ => exact ⟨_, small_of (s := ⟨#[98, 98]⟩) (by decide), rfl⟩
  | 2, _ => exact ⟨_, small_of (s := ⟨#[98, 99]⟩) (by decide), rfl⟩
  | 3, _ => exact ⟨_, small_of (s := ⟨#[98, 100]⟩) (by decide), rfl⟩
  | 4, _ => exact ⟨_, small_of (s := ⟨#[98, 101]⟩) (by decide), rfl⟩
  | 5, _ => exact ⟨_, small_of (s := ⟨#[98, 102]⟩) (by decide), rfl⟩
  | 6, _ => exact ⟨_, small_of (s := ⟨#[98, 103]⟩) (by decide), rfl⟩
  | 7, _ => exact ⟨_, small_of (s := ⟨#[98, 104]⟩) (by decide), rfl⟩
  | 8, _ => exact ⟨_, small_of (s := ⟨#[98, 105]⟩) (by decide), rfl⟩
def BookingsPost (s K m : Nat) (w : World) (e : Ending) (w' : World) : Prop :=
  ∃ (v : Value) (l : List Bo), e = .returned v ∧ OwnBo w' (w.heap.size + 1) v l ∧ BoOk l ∧ l.length ≤ m ∧ SB w' s (K + 60) ∧ G w w' (some s)
theorem bookings_fin {w w' : World} {s K m : Nat} {v : Value} {l : List Bo} (hown : OwnBo w' (w.heap.size + 1) v l) (hl : BoOk l) (hn : l.length ≤ m) (hSB : SB w' s (K + 60)) (hG : G w w' (some s)) : BookingsPost s K m w (.returned v) w' :=
  ⟨v, l, rfl, hown, hl, hn, hSB, hG⟩
def BgRel (w : World) (s K m : Nat) (s5 s15 : Value) (wr : World) : Prop :=
  ∃ (k : Nat) (l : List Bo), k ≤ m ∧ l.length ≤ k ∧ s15 = .int .i64 k ∧ OwnBo wr (w.heap.size + 1) s5 l ∧ BoOk l ∧ SB wr s (K + 5 * k) ∧ G w wr (some s) ∧ Bk wr w.heap.size 9 boKeys
set_option maxRecDepth 100000 in
set_option maxHeartbeats 8000000 in
theorem bookings_c (w : World) (s : Nat) (K n : Nat) (hs : SB w s K) (hk : K ≤ 900000000000) (hn : n ≤ 1000) :
    Calls Tryd.prog 8 #[.pointer (some ⟨s, 0, none⟩), .int .i64 n] w (BookingsPost s K (min n 9) w) := by
  have hsw := hs.lt
  have hsb : s < w.heap.size + 1 := Nat.lt_succ_of_lt hsw
  obtain ⟨m, hm⟩ : ∃ m, min n 9 = m := ⟨_, rfl⟩
  have hm9 : m ≤ 9 := by omega
  have hmi : (m : Int) ≤ 9 := by omega
  have hmin : ∀ w : World, (Builtin.min_ #[3, 3] 3 #[.int .i64 n, .int .i64 9]).run Tryd.prog w = .ok (.int .i64 m) w := fun w => by rw [min2k, ← hm]; congr 2; omega
  rw [hm]
  clear hm
  go_enter Tryd.func8, Tryd.ntmps8
  go_wp2_with fail
  go_loopw [5, 15] (BgRel w s K m) (fun _ i _ => m - (intOf i).toNat)
  case atStart => exact ⟨0, [], by omega, by simp, rfl, World.ownsRow_nil _ _ _ _, fun p hp => (by cases hp), hs.alloc _, (G.refl _ _).alloc _, Bk.new w _ _⟩
  case round =>
    obtain ⟨k, l, hkm, hlk, rfl, hown, hl, hSB, hG, hB⟩ := hrel
    have HL := Lib.hid hl
    clear hl hs hmin
    by_cases hk2 : k < m
    · obtain ⟨key, hkey, hpa⟩ := boKeys_at k (by omega)
      have hrow : wr.cell? ⟨w.heap.size, k, none⟩ = some (.string key) := by rw [hB.cell]; exact hpa
      have hBl := hB.lt
      have hki : (k : Int) < (m : Int) := by omega
      clear hpa
      go_wp2_with fail
      refine (pick_c _ _ _ [0, 10, 10, 20, 25, 30, 100] _ _ _ (hSB.alloc _) (by omega) (by decide) (by decide) (Rd.newAt _ rfl rfl (by decide)) (hSB.newAt _ _ _ (Nat.le_refl _))).mono ?_; rintro e w3 ⟨f, rfl, hp, hSB3, hg⟩
      have hf0 : 0 ≤ f ∧ f ≤ 100 := by simp only [List.mem_cons, List.mem_nil_iff, or_false] at hp; omega
      obtain ⟨f0, f1⟩ := hf0
      have hown3 := OwnX.kept (OwnX.alloc hown (.cells _ 3)) hg hsb
      have hB3 := (hB.alloc (.cells _ 3)).grown hg (fun e => by have := Option.some.inj e; omega)
      have hG3 := (hG.alloc (.cells _ 3)).trans hg
      clear hown hB hG hSB hg hp
      clear hrow
      go_wp2_with fail
      refine (some_c _ _ _ [⟨#[109, 105, 110, 105]⟩, ⟨#[109, 105, 110, 105]⟩, ⟨#[109, 105, 100, 105]⟩, ⟨#[109, 97, 120, 105]⟩, ⟨#[98, 105, 103]⟩] _ _ _ (hSB3.alloc _) (by omega) (by decide) (by decide) (Rd.newAt _ rfl rfl (by decide)) (hSB3.newAt _ _ _ (Nat.le_refl _))).mono ?_; rintro e w4 ⟨cl, rfl, hp, hSB4, hg⟩
      have hcl := small_pick hp (by decide)
      have hown4 := OwnX.kept (OwnX.alloc hown3 (.cells _ 9)) hg hsb
      have hB4 := (hB3.alloc (.cells _ 9)).grown hg (fun e => by have := Option.some.inj e; omega)
      have hG4 := (hG3.alloc (.cells _ 9)).trans hg
      clear hown3 hB3 hG3 hSB3 hg hp
      go_wp2_with fail
      refine (pick_c _ _ _ [1, 5, 10, 10, 20, 100] _ _ _ (hSB4.alloc _) (by omega) (by decide) (by decide) (Rd.newAt _ rfl rfl (by decide)) (hSB4.newAt _ _ _ (Nat.le_refl _))).mono ?_; rintro e w5 ⟨t, rfl, hp, hSB5, hg⟩
      have ht0 : 0 ≤ t ∧ t ≤ 100 := by simp only [List.mem_cons, List.mem_nil_iff, or_false] at hp; omega
      obtain ⟨t0, t1⟩ := ht0
      have hown5 := OwnX.kept (OwnX.alloc hown4 (.cells _ 3)) hg hsb
      have hB5 := (hB4.alloc (.cells _ 3)).grown hg (fun e => by have := Option.some.inj e; omega)
      have hG5 := (hG4.alloc (.cells _ 3)).trans hg
      clear hown4 hB4 hG4 hSB4 hg hp
      obtain ⟨q, hq⟩ : ∃ q, min f 9 = q := ⟨_, rfl⟩
      have hmin2 : ∀ w : World, (Builtin.min_ #[3, 3] 3 #[.int .i64 f, .int .i64 9]).run Tryd.prog w = .ok (.int .i64 q) w := fun w => by rw [min2k, hq]
      have hq0 : 0 ≤ q ∧ q ≤ 9 := by omega
      obtain ⟨q0, q1⟩ := hq0
      clear hq
      go_wp2_with fail
      refine (range_c 0 q _ _ _ hSB5 (by omega) (by omega) (by omega) (by omega)).mono ?_; rintro e w6 ⟨d, rfl, d0, d1, hSB6, hg⟩
      have bd : Hid (bnd d) := Lib.hid (by unfold bnd; omega)
      have hown6 := OwnX.kept hown5 hg hsb
      have hB6 := hB5.grown hg (fun e => by have := Option.some.inj e; omega)
      have hG6 := hG5.trans hg
      clear hown5 hB5 hG5 hSB5 hg d0 d1 hmin2
      go_wp2_with fail
      refine (pick_c _ _ _ [0, 10, 50, 75, 90, 100] _ _ _ (hSB6.alloc _) (by omega) (by decide) (by decide) (Rd.newAt _ rfl rfl (by decide)) (hSB6.newAt _ _ _ (Nat.le_refl _))).mono ?_; rintro e w7 ⟨y, rfl, hp, hSB7, hg⟩
      have bm := Lib.hid (bnd_pick hp (by decide))
      have hown7 := OwnX.kept (OwnX.alloc hown6 (.cells _ 3)) hg hsb
      have hB7 := (hB6.alloc (.cells _ 3)).grown hg (fun e => by have := Option.some.inj e; omega)
      have hG7 := (hG6.alloc (.cells _ 3)).trans hg
      clear hown6 hB6 hG6 hSB6 hg hp
      have hsz := hG7.size
      have HRB : Hid (boB (key, cl, f, f + t, d, y)) := Lib.hid ⟨hkey, hcl, (by show bnd f; unfold bnd; omega), (by show bnd (f + t); unfold bnd; omega), bd.out, bm.out⟩
      have hownA := OwnX.alloc hown7 (.cells #[.string key, .string cl, .int .i64 f, .int .i64 (f + t), .int .i64 d, .int .i64 y] 33)
      go_wp2_with (at_builtin; refine wpList_plain rfl fun K' hK' => wp_append_x bo_rowOk _ _ rfl (w.heap.size + 1) u5 l rfl hownA w7.heap.size (key, cl, f, f + t, d, y) rfl (Bk.new w7 _ _) (by omega) (by have := hB7.lt; simp; omega) ?_; intro v8 w8 hown8 hgrow; refine hK' _ _ ?_)
      have hob := OwnX.low hown7
      go_roundw
      case rel => exact ⟨k + 1, l ++ [(key, cl, f, f + t, d, y)], by omega, by simp; omega, by go_num, hown8, HL.out.snoc HRB.out, ((hSB7.alloc _).own hgrow (fun r e => Nat.lt_of_lt_of_le hsb (hob r e))).le (by omega), (hG7.alloc _).other hgrow (fun r e => .inl (Nat.le_of_succ_le (hob r e))), (hB7.alloc _).grown hgrow (OwnX.ne hown7 (.inl (Nat.lt_succ_self _)))⟩
      case measure => simp [intOf]; omega
    · obtain rfl : k = m := by omega
      have hf := hown.2
      have hnk : ¬ ((k : Int) < (k : Int)) := by omega
      rcases hf with ⟨rfl, hn0⟩ | ⟨g, cap, cur, rfl, hbg, _, hnc, hmc, _, _⟩
      · clear hn0
        go_wp2_with fail
        go_ret
        exact bookings_fin hown HL.out hlk (hSB.le (by omega)) hG
      · by_cases h0 : l.length = 0
        · have h0i : ¬ ((0 : Int) < (l.length : Int)) := by omega
          clear h0
          go_wp2_with fail
          go_ret
          exact bookings_fin hown HL.out hlk (hSB.le (by omega)) hG
        · have h0i : ((0 : Int) < (l.length : Int)) := by omega
          have hsg : s < g := by omega
          have hgw : w.heap.size ≤ g := by omega
          clear h0
          go_wp2_with fail
          refine (flip_c _ _ _ _ hSB (by omega) (by omega)).mono ?_; rintro e w2 ⟨b, rfl, hSB2, hG2⟩
          have hown2 := OwnX.kept hown hG2 hsb
          have hG02 := hG.trans hG2
          clear hown hG hG2 hSB hB
          cases b with
          | false =>
            go_wp2_with fail
            go_ret
            exact bookings_fin hown2 HL.out hlk (hSB2.le (by omega)) hG02
          | true =>
            go_wp2_with fail
            refine (next_c _ _ _ _ hSB2 (by omega) (by omega)).mono ?_; rintro e w3 ⟨j, rfl, hj, hSB3, hG3⟩
            obtain ⟨j0, j1⟩ := hj
            obtain ⟨j, rfl⟩ := Int.eq_ofNat_of_zero_le j0
            have jl : j < l.length := by omega
            have jli : (j : Int) < (l.length : Int) := by omega
            clear j1
            have hown3 := OwnX.kept hown2 hG3 hsb
            have hG03 := hG02.trans hG3
            clear hown2 hG02 hG3 hSB2
            obtain ⟨p, hp⟩ : ∃ p, l[j]? = some p := ⟨_, List.getElem?_eq_getElem jl⟩
            have HP := Lib.hid hp
            have hpb := Lib.hid (HL.out p (List.mem_of_getElem? hp))
            clear hp
            go_wp2_with fail
            refine (next_c _ _ _ _ hSB3 (by omega) (by omega)).mono ?_; rintro e w4 ⟨t, rfl, ht, hSB4, hG4⟩
            have hown4 := OwnX.kept hown3 hG4 hsb
            have hG04 := hG03.trans hG4
            clear hown3 hG03 hG4 hSB3
            obtain ⟨t0, t1⟩ := ht
            rcases (show t = 0 ∨ t = 1 ∨ t = 2 ∨ t = 3 ∨ t = 4 by omega) with rfl | rfl | rfl | rfl | rfl
            · clear t0 t1
              go_wp2_with fail
              refine (some_c _ _ _ [⟨#[]⟩, ⟨#[65]⟩, ⟨#[98, 97]⟩, ⟨#[122, 122]⟩] _ _ _ (hSB4.alloc _) (by omega) (by decide) (by decide) (Rd.newAt _ rfl rfl (by decide)) (hSB4.newAt _ _ _ (Nat.le_refl _))).mono ?_; rintro e w5 ⟨r, rfl, hr, hSB5, hG5⟩
              have hrs := small_pick hr (by decide)
              have hown5 := OwnX.kept (OwnX.alloc hown4 _) hG5 hsb
              have hG05 := (hG04.alloc _).trans hG5
              clear hr hown4 hSB4 hG04 hG5
              have c0 := RdR.cell boC_sz (Rd.of_owns hown5) (G.refl _ _) HP.out 0 (.string p.1) rfl
              have f0 := ownsRow_free hown5 (j * 6 + 0)
              have hown6 := OwnX.set boC_sz hown5 HP.out (q := (r, p.2)) 0 (.string r) (by omega) rfl
              simp only [Nat.zero_add, Nat.add_zero] at c0 f0 hown6
              go_wp2_with fail
              go_ret
              exact bookings_fin (l := l.set j (r, p.2)) (by unfold OwnBo OwnX; rw [List.length_set]; exact hown6) (HL.out.set (r := (r, p.2)) ⟨hrs, hpb.out.2⟩ j) (by rw [List.length_set]; exact hlk) ((hSB5.setCell (p := ⟨g, j * 6, none⟩) hsg _).le (by omega)) (hG05.setCell (p := ⟨g, j * 6, none⟩) (.inl hgw) _)
            · clear t0 t1
              go_wp2_with fail
              refine (some_c _ _ _ [⟨#[110, 111, 110, 101]⟩, ⟨#[]⟩, ⟨#[65]⟩] _ _ _ (hSB4.alloc _) (by omega) (by decide) (by decide) (Rd.newAt _ rfl rfl (by decide)) (hSB4.newAt _ _ _ (Nat.le_refl _))).mono ?_; rintro e w5 ⟨r, rfl, hr, hSB5, hG5⟩
              have hrs := small_pick hr (by decide)
              have hown5 := OwnX.kept (OwnX.alloc hown4 _) hG5 hsb
              have hG05 := (hG04.alloc _).trans hG5
              clear hr hown4 hSB4 hG04 hG5
              have c0 := RdR.cell boC_sz (Rd.of_owns hown5) (G.refl _ _) HP.out 1 (.string p.2.1) rfl
              have f0 := ownsRow_free hown5 (j * 6 + 1)
              have hown6 := OwnX.set boC_sz hown5 HP.out (q := (p.1, r, p.2.2)) 1 (.string r) (by omega) rfl
              simp only [Nat.zero_add, Nat.add_zero] at c0 f0 hown6
              go_wp2_with fail
              go_ret
              exact bookings_fin (l := l.set j (p.1, r, p.2.2)) (by unfold OwnBo OwnX; rw [List.length_set]; exact hown6) (HL.out.set (r := (p.1, r, p.2.2)) ⟨hpb.out.1, hrs, hpb.out.2.2⟩ j) (by rw [List.length_set]; exact hlk) ((hSB5.setCell (p := ⟨g, j * 6 + 1, none⟩) hsg _).le (by omega)) (hG05.setCell (p := ⟨g, j * 6 + 1, none⟩) (.inl hgw) _)
            · clear t0 t1
              go_wp2_with fail
              refine (odd_c _ _ _ _ _ hSB4 (by omega) (by omega) (by omega) (by omega) (by omega)).mono ?_; rintro e w5 ⟨y1, rfl, y10, y11, hSB5, hG5⟩
              have hown5 := OwnX.kept hown4 hG5 hsb
              have hG05 := hG04.trans hG5
              clear hown4 hSB4 hG04 hG5
              go_wp2_with fail
              refine (odd_c _ _ _ _ _ hSB5 (by omega) (by omega) (by omega) (by omega) (by omega)).mono ?_; rintro e w6 ⟨y2, rfl, y20, y21, hSB6, hG6⟩
              have hown6 := OwnX.kept hown5 hG6 hsb
              have hG06 := hG05.trans hG6
              clear hown5 hSB5 hG05 hG6
              have c2 := RdR.cell boC_sz (Rd.of_owns hown6) (G.refl _ _) HP.out 2 (.int .i64 p.2.2.1) rfl
              have c3 := RdR.cell boC_sz (Rd.of_owns hown6) (G.refl _ _) HP.out 3 (.int .i64 p.2.2.2.1) rfl
              have f2 := ownsRow_free hown6 (j * 6 + 2)
              have f3 := ownsRow_free hown6 (j * 6 + 3)
              have hown7 := OwnX.set boC_sz hown6 HP.out (q := (p.1, p.2.1, y1, p.2.2.2)) 2 (.int .i64 y1) (by omega) rfl
              have hown8 := OwnX.set boC_sz hown7 (show (l.set j (p.1, p.2.1, y1, p.2.2.2))[j]? = some (p.1, p.2.1, y1, p.2.2.2) by rw [List.getElem?_set_self jl]) (q := (p.1, p.2.1, y1, y2, p.2.2.2.2)) 3 (.int .i64 y2) (by omega) rfl
              rw [List.set_set] at hown8
              simp only [Nat.zero_add] at c2 c3
              clear hown7
              go_wp2_with fail
              go_ret
              exact bookings_fin (l := l.set j (p.1, p.2.1, y1, y2, p.2.2.2.2)) (by unfold OwnBo OwnX; rw [List.length_set]; exact hown8) (HL.out.set (r := (p.1, p.2.1, y1, y2, p.2.2.2.2)) ⟨hpb.out.1, hpb.out.2.1, ⟨y10, y11⟩, ⟨y20, y21⟩, hpb.out.2.2.2.2⟩ j) (by rw [List.length_set]; exact hlk) (((hSB6.setCell (p := ⟨g, j * 6 + 2, none⟩) hsg _).setCell (p := ⟨g, j * 6 + 3, none⟩) hsg _).le (by omega)) ((hG06.setCell (p := ⟨g, j * 6 + 2, none⟩) (.inl hgw) _).setCell (p := ⟨g, j * 6 + 3, none⟩) (.inl hgw) _)
            · clear t0 t1
              go_wp2_with fail
              refine (odd_c _ _ _ _ _ hSB4 (by omega) (by omega) (by omega) (by omega) (by omega)).mono ?_; rintro e w5 ⟨y1, rfl, y10, y11, hSB5, hG5⟩
              have hown5 := OwnX.kept hown4 hG5 hsb
              have hG05 := hG04.trans hG5
              clear hown4 hSB4 hG04 hG5
              have c0 := RdR.cell boC_sz (Rd.of_owns hown5) (G.refl _ _) HP.out 4 (.int .i64 p.2.2.2.2.1) rfl
              have f0 := ownsRow_free hown5 (j * 6 + 4)
              have hown6 := OwnX.set boC_sz hown5 HP.out (q := (p.1, p.2.1, p.2.2.1, p.2.2.2.1, y1, p.2.2.2.2.2)) 4 (.int .i64 y1) (by omega) rfl
              simp only [Nat.zero_add] at c0
              go_wp2_with fail
              go_ret
              exact bookings_fin (l := l.set j (p.1, p.2.1, p.2.2.1, p.2.2.2.1, y1, p.2.2.2.2.2)) (by unfold OwnBo OwnX; rw [List.length_set]; exact hown6) (HL.out.set (r := (p.1, p.2.1, p.2.2.1, p.2.2.2.1, y1, p.2.2.2.2.2)) ⟨hpb.out.1, hpb.out.2.1, hpb.out.2.2.1, hpb.out.2.2.2.1, ⟨y10, y11⟩, hpb.out.2.2.2.2.2⟩ j) (by rw [List.length_set]; exact hlk) ((hSB5.setCell (p := ⟨g, j * 6 + 4, none⟩) hsg _).le (by omega)) (hG05.setCell (p := ⟨g, j * 6 + 4, none⟩) (.inl hgw) _)
            · clear t0 t1
              go_wp2_with fail
              refine (odd_c _ _ _ _ _ hSB4 (by omega) (by omega) (by omega) (by omega) (by omega)).mono ?_; rintro e w5 ⟨y1, rfl, y10, y11, hSB5, hG5⟩
              have hown5 := OwnX.kept hown4 hG5 hsb
              have hG05 := hG04.trans hG5
              clear hown4 hSB4 hG04 hG5
              have c0 := RdR.cell boC_sz (Rd.of_owns hown5) (G.refl _ _) HP.out 5 (.int .i64 p.2.2.2.2.2) rfl
              have f0 := ownsRow_free hown5 (j * 6 + 5)
              have hown6 := OwnX.set boC_sz hown5 HP.out (q := (p.1, p.2.1, p.2.2.1, p.2.2.2.1, p.2.2.2.2.1, y1)) 5 (.int .i64 y1) (by omega) rfl
              simp only [Nat.zero_add] at c0
              go_wp2_with fail
              go_ret
              exact bookings_fin (l := l.set j (p.1, p.2.1, p.2.2.1, p.2.2.2.1, p.2.2.2.2.1, y1)) (by unfold OwnBo OwnX; rw [List.length_set]; exact hown6) (HL.out.set (r := (p.1, p.2.1, p.2.2.1, p.2.2.2.1, p.2.2.2.2.1, y1)) ⟨hpb.out.1, hpb.out.2.1, hpb.out.2.2.1, hpb.out.2.2.2.1, hpb.out.2.2.2.2.1, ⟨y10, y11⟩⟩ j) (by rw [List.length_set]; exact hlk) ((hSB5.setCell (p := ⟨g, j * 6 + 5, none⟩) hsg _).le (by omega)) (hG05.setCell (p := ⟨g, j * 6 + 5, none⟩) (.inl hgw) _)
end Go.Proofs.YtbieiefbgcgogaaDoor

/- The time of a hire: Days, begun, TimeFault, DaysOf. -/
namespace Go.Proofs.YtbieiefbgcgogaaDoor
open Go.RowKit

def tE (a z : Int) : Int := if 0 ≤ a ∧ a < z ∧ z ≤ 5761439 then (if 172800 < z - a then 2 else 0) else 1
def tN (a z : Int) : Int := if tE a z = 0 then (z - a + 1439) / 1440 else 0
set_option maxRecDepth 100000 in
theorem begun_c (m : Int) (w : World) (h0 : 0 ≤ m) (h1 : m ≤ 5761439) : Calls Tryd.prog 105 #[.int .i64 m, .int .i64 1440] w fun e w' => e = .returned (.int .i64 ((m + 1439) / 1440)) ∧ w = w' := by
  have HF : Hid ((m + 1440 - 1) / 1440 = (m + 1439) / 1440) := Lib.hid (by omega)
  go_enter Tryd.func105, Tryd.ntmps105
  go_wp2_with fail
  go_ret
  exact ⟨ret_int HF.out, rfl⟩
set_option maxRecDepth 100000 in
set_option maxHeartbeats 2000000 in
theorem days_c (a z : Int) (w : World) (ha : bnd a) (hz : bnd z) : Calls Tryd.prog 80 #[.agg #[.int .i64 a, .int .i64 z]] w fun e w' => e = .returned (.tuple #[.int .i64 (tN a z), .int .i64 (tE a z)]) ∧ G w w' none := by
  unfold bnd at ha hz
  have hG : G w (w.alloc (.cells #[.int .i64 a, .int .i64 z] 31)) none := (G.refl w none).alloc _
  have hB := Bk.new w 31 #[.int .i64 a, .int .i64 z]
  by_cases h0 : 0 ≤ a ∧ a < z ∧ z < 5761440
  · obtain ⟨h1, h2, h3⟩ := h0
    have HI := Lib.hid (timB_yes ⟨h1, h2, h3⟩)
    have HT : Hid (tE a z = if 172800 < z - a then 2 else 0) := Lib.hid (by rw [tE, if_pos ⟨h1, h2, by omega⟩])
    have HD : Hid (tE a z = 0 → tN a z = (z - a + 1439) / 1440) := Lib.hid fun h => by rw [tN, if_pos h]
    have HD2 : Hid (tE a z ≠ 0 → tN a z = 0) := Lib.hid fun h => by rw [tN, if_neg h]
    go_enter Tryd.func80, Tryd.ntmps80
    go_wp2_with (refine wpList_load_row rfl 31 _ rfl w.heap.size rfl 31 #[.int .i64 a, .int .i64 z] (0, 0) _ hB Tryd.underlying31 rfl (wi_info a z) ?_)
    refine (isTime_c a z _).mono ?_; rintro e w1 ⟨rfl, hG1⟩
    rw [HI.out]
    have hB1 := hB.quiet hG1
    have hG01 := hG.trans hG1
    have c0 : w1.cell? ⟨w.heap.size, 0, none⟩ = some (.int .i64 a) := hB1.cell 0
    have c1 : w1.cell? ⟨w.heap.size, 1, none⟩ = some (.int .i64 z) := hB1.cell 1
    clear hB hG hG1
    rcases (show 172800 < z - a ∨ z - a ≤ 172800 by omega) with h4 | h4
    · have HE : Hid (tE a z = 2) := Lib.hid (by rw [HT.out, if_pos h4])
      have HN : Hid (tN a z = 0) := Lib.hid (HD2.out (by rw [HE.out]; decide))
      have h5 : 120 < (z - a + 1439) / 1440 := by omega
      go_wp2_with fail
      refine (begun_c _ _ (by omega) (by omega)).mono ?_; rintro e w' ⟨rfl, rfl⟩
      generalize (z - a + 1439) / 1440 = N at h5 ⊢
      go_wp2_with fail
      go_ret2
      exact ⟨by rw [HE.out, HN.out]; rfl, hG01⟩
    · have HE : Hid (tE a z = 0) := Lib.hid (by rw [HT.out, if_neg (by omega)])
      have HN : Hid (tN a z = (z - a + 1439) / 1440) := Lib.hid (HD.out HE.out)
      have h5 : (z - a + 1439) / 1440 ≤ 120 := by omega
      go_wp2_with fail
      refine (begun_c _ _ (by omega) (by omega)).mono ?_; rintro e w' ⟨rfl, rfl⟩
      generalize (z - a + 1439) / 1440 = N at h5 HN ⊢
      go_wp2_with fail
      go_ret2
      exact ⟨by rw [HE.out, HN.out]; rfl, hG01⟩
  · have HE : Hid (tE a z = 1) := Lib.hid (by rw [tE, if_neg (by omega)])
    have HN : Hid (tN a z = 0) := Lib.hid (by rw [tN, if_neg (by rw [HE.out]; decide)])
    have HI := Lib.hid (timB_no h0)
    clear h0
    go_enter Tryd.func80, Tryd.ntmps80
    go_wp2_with (refine wpList_load_row rfl 31 _ rfl w.heap.size rfl 31 #[.int .i64 a, .int .i64 z] (0, 0) _ hB Tryd.underlying31 rfl (wi_info a z) ?_)
    refine (isTime_c a z _).mono ?_; rintro e w1 ⟨rfl, hG1⟩
    rw [HI.out]
    go_wp2_with fail
    go_ret2
    exact ⟨by rw [HE.out, HN.out]; rfl, hG.trans hG1⟩
set_option maxRecDepth 100000 in
set_option maxHeartbeats 2000000 in
theorem timeFault_c (a z : Int) (w : World) (ha : bnd a) (hz : bnd z) : Calls Tryd.prog 40 #[.agg #[.int .i64 a, .int .i64 z]] w fun e w' => e = .returned (.int .i64 (tE a z)) ∧ G w w' none := by
  unfold bnd at ha hz
  have hG : G w (w.alloc (.cells #[.int .i64 a, .int .i64 z] 31)) none := (G.refl w none).alloc _
  rcases (show a < 0 ∨ (0 ≤ a ∧ z ≤ a) ∨ (0 ≤ a ∧ a < z ∧ 5761439 < z) ∨ (0 ≤ a ∧ a < z ∧ z ≤ 5761439) by omega) with h1 | ⟨h1, h2⟩ | ⟨h1, h2, h3⟩ | ⟨h1, h2, h3⟩
  · have HE : Hid (tE a z = 1) := Lib.hid (by rw [tE, if_neg (by omega)])
    go_enter Tryd.func40, Tryd.ntmps40
    go_wp2_with fail
    go_ret
    exact ⟨by rw [HE.out]; rfl, hG⟩
  · have HE : Hid (tE a z = 1) := Lib.hid (by rw [tE, if_neg (by omega)])
    go_enter Tryd.func40, Tryd.ntmps40
    go_wp2_with fail
    go_ret
    exact ⟨by rw [HE.out]; rfl, hG⟩
  · have HE : Hid (tE a z = 1) := Lib.hid (by rw [tE, if_neg (by omega)])
    go_enter Tryd.func40, Tryd.ntmps40
    go_wp2_with fail
    go_ret
    exact ⟨by rw [HE.out]; rfl, hG⟩
  · have HT : Hid (tE a z = if 172800 < z - a then 2 else 0) := Lib.hid (by rw [tE, if_pos ⟨h1, h2, h3⟩])
    rcases (show 172800 < z - a ∨ z - a ≤ 172800 by omega) with h4 | h4
    · have HE : Hid (tE a z = 2) := Lib.hid (by rw [HT.out, if_pos h4])
      go_enter Tryd.func40, Tryd.ntmps40
      go_wp2_with fail
      go_ret
      exact ⟨by rw [HE.out]; rfl, hG⟩
    · have HE : Hid (tE a z = 0) := Lib.hid (by rw [HT.out, if_neg (by omega)])
      go_enter Tryd.func40, Tryd.ntmps40
      go_wp2_with fail
      go_ret
      exact ⟨by rw [HE.out]; rfl, hG⟩
theorem tE_zero {a z : Int} (h : tE a z = 0) : 0 ≤ a ∧ a < z ∧ z ≤ 5761439 ∧ z - a ≤ 172800 := by
  unfold tE at h
  split at h
  · split at h
    · omega
    · omega
  · omega
def DofRel (w : World) (a z : Int) (s3 s4 : Value) (wr : World) : Prop :=
  ∃ j : Nat, s3 = .int .i64 j ∧ s4 = .int .i64 (a + 1440 * j) ∧ (j : Int) ≤ (z - a + 1439) / 1440 ∧ Bk wr w.heap.size 31 #[.int .i64 a, .int .i64 z] ∧ G w wr none
end Go.Proofs.YtbieiefbgcgogaaDoor

/- Hires: readings, legs; checkReading, checkBegin, isOut, checkEnd. -/
namespace Go.Proofs.YtbieiefbgcgogaaDoor
open Go.RowKit

/-- A reading: at, station, meter, fuel. -/
abbrev Rg := Int × ByteArray × Int × Int
def rgC (x : Rg) : Array Value := #[.int .i64 x.1, .string x.2.1, .int .i64 x.2.2.1, .int .i64 x.2.2.2]
theorem rg_info (x : Rg) : (Tryd.prog.info? 57).map (·.size) = some (rgC x).size := (by kernel_rfl : (Tryd.prog.info? 57).map (·.size) = some 4)
def rgE (x : Rg) : Int := if momB x.1 = false then 1 else if keyB x.2.1 = false then 5 else if inB x.2.2.1 0 999999 = false then 1 else if inB x.2.2.2 0 8 = false then 1 else 0
/-- A leg: vehicle, out, in. -/
abbrev Lg := ByteArray × Rg × Rg
def lgC (x : Lg) : Array Value := #[.string x.1, .int .i64 x.2.1.1, .string x.2.1.2.1, .int .i64 x.2.1.2.2.1, .int .i64 x.2.1.2.2.2, .int .i64 x.2.2.1, .string x.2.2.2.1, .int .i64 x.2.2.2.2.1, .int .i64 x.2.2.2.2.2]
theorem lgC_sz (x : Lg) : (lgC x).size = 9 := rfl
theorem lg_info (x : Lg) : (Tryd.prog.info? 111).map (·.size) = some (lgC x).size := (by kernel_rfl : (Tryd.prog.info? 111).map (·.size) = some 9)
def lgB (x : Lg) : Prop := Small x.1 ∧ Small x.2.1.2.1 ∧ Small x.2.2.2.1
def LgOk (l : List Lg) : Prop := ∀ x ∈ l, lgB x
/-- A hire's head: key, driver, from, to; the cells of a hire. -/
abbrev Hh := ByteArray × ByteArray × Int × Int
def hiC (h : Hh) (v : Value) : Array Value := #[.string h.1, .string h.2.1, .int .i64 h.2.2.1, .int .i64 h.2.2.2, v]
theorem hi_info (h : Hh) (v : Value) : (Tryd.prog.info? 61).map (·.size) = some (hiC h v).size := (by kernel_rfl : (Tryd.prog.info? 61).map (·.size) = some 5)
def noIn : Rg := (-1, ⟨#[]⟩, 0, 0)
def beE (f : Int) (b : Option Lg) (x : Lg) : Int := match b with
  | none => if x.2.1.1 = f then 0 else 7
  | some y => if x.2.1.1 = y.2.2.1 then (if x.1 = y.1 then 16 else if x.2.1.2.1 = y.2.2.2.1 then 0 else 8) else 7
def enE (last : Bool) (x : Lg) : Int := if x.2.2.1 = -1 then (if x.2.2 = noIn then (if last = true then 0 else 11) else 3) else if rgE x.2.2 = 0 then (if x.2.2.1 ≤ x.2.1.1 then 7 else 0) else rgE x.2.2
def lgE (f : Int) (b : Option Lg) (last : Bool) (x : Lg) : Int := if keyB x.1 = false then 5 else if rgE x.2.1 = 0 then (if beE f b x = 0 then enE last x else beE f b x) else rgE x.2.1
def lsE (f : Int) : Option Lg → List Lg → Int
  | _, [] => 0
  | b, x :: r => if lgE f b r.isEmpty x = 0 then lsE f (some x) r else lgE f b r.isEmpty x
def hiE (h : Hh) (l : List Lg) : Int := if keyB h.1 = false then 5 else if keyB h.2.1 = false then 5 else if tE h.2.2.1 h.2.2.2 = 0 then (if l.length = 0 then 3 else if 20 < l.length then 2 else lsE h.2.2.1 none l) else tE h.2.2.1 h.2.2.2
theorem Bk.part {w : World} {g : Nat} {T : TypeId} {cs : Array Value} (h : Bk w g T cs) (k : Nat) (ds : Array Value) (hd : ∀ j u, ds.toList[j]? = some u → cs[k + j]? = some u) : ∀ j u, ds.toList[j]? = some u → w.cell? ((⟨g, k, none⟩ : Addr).add j) = some u := fun j u hu => by
  rw [add_at, h.cell]
  exact hd j u hu
theorem lg_out (x : Lg) : ∀ j u, (#[.int .i64 x.2.1.1, .string x.2.1.2.1, .int .i64 x.2.1.2.2.1, .int .i64 x.2.1.2.2.2] : Array Value).toList[j]? = some u → (lgC x)[1 + j]? = some u := fun j u hu => by
  match j, hu with
  | 0, hu => exact hu
  | 1, hu => exact hu
  | 2, hu => exact hu
  | 3, hu => exact hu
  | n + 4, hu => simp at hu
theorem lg_in (x : Lg) : ∀ j u, (#[.int .i64 x.2.2.1, .string x.2.2.2.1, .int .i64 x.2.2.2.2.1, .int .i64 x.2.2.2.2.2] : Array Value).toList[j]? = some u → (lgC x)[5 + j]? = some u := fun j u hu => by
  match j, hu with
  | 0, hu => exact hu
  | 1, hu => exact hu
  | 2, hu => exact hu
  | 3, hu => exact hu
  | n + 4, hu => simp at hu
theorem lgRow {W w : World} {bb bo n cap : Nat} {l : List Lg} (h : RdR W 9 lgC (.slice (some ⟨bb, bo, none⟩) n cap) l) (hG : G W w none) {k : Nat} {p : Lg} (hp : l[k]? = some p) :
    ∀ j v, (lgC p).toList[j]? = some v → w.cell? ((⟨bb, bo + k * 9, none⟩ : Addr).add j) = some v := fun j v hv => by
  rw [add_at]
  exact RdR.cell lgC_sz h hG hp j v hv
theorem drop_empty {α : Type} (l : List α) (k : Nat) : (l.drop k).isEmpty = decide (l.length ≤ k) := by
  by_cases h : l.length ≤ k
  · rw [List.drop_eq_nil_of_le h, decide_eq_true h]; rfl
  · rw [decide_eq_false h]
    cases hd : l.drop k with
    | nil => have := List.drop_eq_nil_iff.1 hd; omega
    | cons _ _ => rfl
theorem toList_ext {a b : ByteArray} (h : a.toList = b.toList) : a = b := by
  rw [ByteArray.toList_eq, ByteArray.toList_eq] at h
  exact ByteArray.ext (Array.toList_inj.1 h)
theorem rg_neq (x y : Rg) (w : World) : (binOp .neq 57 (.agg #[.int .i64 x.1, .string x.2.1, .int .i64 x.2.2.1, .int .i64 x.2.2.2]) (.agg #[.int .i64 y.1, .string y.2.1, .int .i64 y.2.2.1, .int .i64 y.2.2.2])).run Tryd.prog w = .ok (.bool (!(decide (x = y)))) w := by
  obtain ⟨a, b, c, d⟩ := x
  obtain ⟨e, f, g, h⟩ := y
  have ht : Tryd.prog.underlying 57 = some (.struct (Tryd.prog.fieldsOf 57)) := by kernel_rfl
  have hp : Tryd.prog.stoodInHeld 57 = false := by kernel_rfl
  rw [run_neq_struct, run_equalIn_agg w 9999 57 _ _ ht hp]
  simp [Tryd.underlying57, Tryd.underlying3, Tryd.underlying9, go_sem]
  by_cases h1 : a = e
  · by_cases h2 : b = f
    · subst h2
      by_cases h3 : c = g <;> by_cases h4 : d = h <;> simp [h1, h3, h4]
    · have h2' : ¬ b.toList = f.toList := fun e => h2 (toList_ext e)
      simp [h1, h2, h2']
  · simp [h1]
set_option maxRecDepth 100000 in
set_option maxHeartbeats 2000000 in
theorem checkReading_c (x : Rg) (w : World) (hs : Small x.2.1) :
    Calls Tryd.prog 132 #[.agg (rgC x)] w fun e w' => e = .returned (.int .i64 (rgE x)) ∧ G w w' none := by
  have hG1 := (G.refl w none).alloc (.cells (rgC x) 57)
  unfold Small at hs
  obtain ⟨t, s, m, f⟩ := x
  simp only [rgC] at hG1 hs ⊢
  have HE : Hid (rgE (t, s, m, f) = if momB t = false then 1 else if keyB s = false then 5 else if inB m 0 999999 = false then 1 else if inB f 0 8 = false then 1 else 0) := Lib.hid rfl
  generalize rgE (t, s, m, f) = R at HE ⊢
  go_enter Tryd.func132, Tryd.ntmps132
  go_wp2_with fail
  refine (isMoment_c t _).mono ?_; rintro e w1 ⟨rfl, rfl⟩
  cases k1 : momB t with
  | false =>
    have HF : Hid (R = 1) := Lib.hid (by rw [HE.out, if_pos k1])
    clear k1
    go_wp2_with fail
    go_ret
    exact ⟨ret_int HF.out.symm, hG1⟩
  | true =>
    have HE : Hid (R = if keyB s = false then 5 else if inB m 0 999999 = false then 1 else if inB f 0 8 = false then 1 else 0) := Lib.hid (by rw [HE.out, if_neg (by simp [k1])])
    clear k1
    go_wp2_with fail
    refine (isKey_c s _ hs).mono ?_; rintro e w1 ⟨rfl, rfl⟩
    cases k2 : keyB s with
    | false =>
      have HF : Hid (R = 5) := Lib.hid (by rw [HE.out, if_pos k2])
      clear k2
      go_wp2_with fail
      go_ret
      exact ⟨ret_int HF.out.symm, hG1⟩
    | true =>
      have HE : Hid (R = if inB m 0 999999 = false then 1 else if inB f 0 8 = false then 1 else 0) := Lib.hid (by rw [HE.out, if_neg (by simp [k2])])
      clear k2
      go_wp2_with fail
      refine (within_c m 0 999999 _).mono ?_; rintro e w1 ⟨rfl, rfl⟩
      cases k3 : inB m 0 999999 with
      | false =>
        have HF : Hid (R = 1) := Lib.hid (by rw [HE.out, if_pos k3])
        clear k3
        go_wp2_with fail
        go_ret
        exact ⟨ret_int HF.out.symm, hG1⟩
      | true =>
        have HE : Hid (R = if inB f 0 8 = false then 1 else 0) := Lib.hid (by rw [HE.out, if_neg (by simp [k3])])
        clear k3
        go_wp2_with fail
        refine (within_c f 0 8 _).mono ?_; rintro e w1 ⟨rfl, rfl⟩
        cases k4 : inB f 0 8 with
        | false =>
          have HF : Hid (R = 1) := Lib.hid (by rw [HE.out, if_pos k4])
          clear k4
          go_wp2_with fail
          go_ret
          exact ⟨ret_int HF.out.symm, hG1⟩
        | true =>
          have HF : Hid (R = 0) := Lib.hid (by rw [HE.out, if_neg (by simp [k4])])
          clear k4
          go_wp2_with fail
          go_ret
          exact ⟨ret_int HF.out.symm, hG1⟩
set_option maxRecDepth 100000 in
theorem isOut_c (p : Lg) (w : World) : Calls Tryd.prog 149 #[.agg (lgC p)] w fun e w' => e = .returned (.bool (p.2.2.1 == -1)) ∧ G w w' none := by
  have hG1 := (G.refl w none).alloc (.cells (lgC p) 111)
  obtain ⟨p1, ⟨o1, o2, o3, o4⟩, i1, i2, i3, i4⟩ := p
  simp only [lgC] at hG1 ⊢
  go_enter Tryd.func149, Tryd.ntmps149
  go_wp2_with fail
  go_ret
  exact ⟨rfl, hG1⟩
set_option maxRecDepth 100000 in
set_option maxHeartbeats 4000000 in
theorem checkBegin_c (h : Hh) (v : Value) (l : List Lg) (k : Nat) (p : Lg) (w : World) (hr : RdR w 9 lgC v l) (hp : l[k]? = some p) (hn : l.length ≤ 1000) :
    Calls Tryd.prog 133 #[.agg (hiC h v), .int .i64 k] w fun e w' => e = .returned (.int .i64 (beE h.2.2.1 (prevAt l k) p)) ∧ G w w' none := by
  have hH := Bk.new w 61 (hiC h v)
  have hGH := (G.refl w none).alloc (.cells (hiC h v) 61)
  have HR := Lib.hid (hr.quiet hGH)
  obtain ⟨a, cap, rfl, hcap, hm⟩ := RdR.form hr
  clear hr
  have hk : k < l.length := (List.getElem?_eq_some_iff.1 hp).1
  obtain ⟨bb, bo, rfl, -, -⟩ := RdR.elem lgC_sz HR.out (G.refl _ none) hp
  have HW := Lib.hid (lgRow HR.out (G.refl _ none) hp)
  have HP := Lib.hid hp
  clear hp
  simp only [hiC] at hH hGH HR HW ⊢
  go_enter Tryd.func133, Tryd.ntmps133
  go_upto_if 13 with (refine wpList_load_at rfl 111 _ rfl ⟨bb, bo + k * 9, none⟩ rfl #[.string p.1, .int .i64 p.2.1.1, .string p.2.1.2.1, .int .i64 p.2.1.2.2.1, .int .i64 p.2.1.2.2.2, .int .i64 p.2.2.1, .string p.2.2.2.1, .int .i64 p.2.2.2.2.1, .int .i64 p.2.2.2.2.2] _ HW.out Tryd.underlying111 rfl (lg_info p) ?_)
  have hL : Bk ((w.alloc (.cells #[.string h.1, .string h.2.1, .int .i64 h.2.2.1, .int .i64 h.2.2.2, .slice (some ⟨bb, bo, none⟩) l.length cap] 61)).alloc (.cells #[.string p.1, .int .i64 p.2.1.1, .string p.2.1.2.1, .int .i64 p.2.1.2.2.1, .int .i64 p.2.1.2.2.2, .int .i64 p.2.2.1, .string p.2.2.2.1, .int .i64 p.2.2.2.2.1, .int .i64 p.2.2.2.2.2] 111)) (w.heap.size + 1) 111 (lgC p) := Bk.newAt (by simp) _ _
  have hG := hGH.alloc (.cells #[.string p.1, .int .i64 p.2.1.1, .string p.2.1.2.1, .int .i64 p.2.1.2.2.1, .int .i64 p.2.1.2.2.2, .int .i64 p.2.2.1, .string p.2.2.2.1, .int .i64 p.2.2.2.2.1, .int .i64 p.2.2.2.2.2] 111)
  have hH := hH.alloc (.cells #[.string p.1, .int .i64 p.2.1.1, .string p.2.1.2.1, .int .i64 p.2.1.2.2.1, .int .i64 p.2.1.2.2.2, .int .i64 p.2.2.1, .string p.2.2.2.1, .int .i64 p.2.2.2.2.1, .int .i64 p.2.2.2.2.2] 111)
  have HR := Lib.hid (HR.out.quiet ((G.refl _ none).alloc (.cells #[.string p.1, .int .i64 p.2.1.1, .string p.2.1.2.1, .int .i64 p.2.1.2.2.1, .int .i64 p.2.1.2.2.2, .int .i64 p.2.2.1, .string p.2.2.2.1, .int .i64 p.2.2.2.2.1, .int .i64 p.2.2.2.2.2] 111)))
  clear HW hGH
  generalize (w.alloc (.cells #[.string h.1, .string h.2.1, .int .i64 h.2.2.1, .int .i64 h.2.2.2, .slice (some ⟨bb, bo, none⟩) l.length cap] 61)).alloc (.cells #[.string p.1, .int .i64 p.2.1.1, .string p.2.1.2.1, .int .i64 p.2.1.2.2.1, .int .i64 p.2.1.2.2.2, .int .i64 p.2.2.1, .string p.2.2.2.1, .int .i64 p.2.2.2.2.1, .int .i64 p.2.2.2.2.2] 111) = w2 at hL hG hH HR ⊢
  have c1 : w2.cell? ⟨w.heap.size + 1, 1, none⟩ = some (.int .i64 p.2.1.1) := hL.cell 1
  have d2 : w2.cell? ⟨w.heap.size, 2, none⟩ = some (.int .i64 h.2.2.1) := hH.cell 2
  cases k with
  | zero =>
    by_cases hq : p.2.1.1 = h.2.2.1
    · have HF : Hid (beE h.2.2.1 (prevAt l 0) p = 0) := Lib.hid (if_pos hq)
      go_wp2_with fail
      go_ret
      exact ⟨ret_int HF.out.symm, hG⟩
    · have HF : Hid (beE h.2.2.1 (prevAt l 0) p = 7) := Lib.hid (if_neg hq)
      go_wp2_with fail
      go_ret
      exact ⟨ret_int HF.out.symm, hG⟩
  | succ m =>
    obtain ⟨q, hq2⟩ : ∃ q, l[m]? = some q := ⟨_, List.getElem?_eq_getElem (by omega)⟩
    have HA : Hid (beE h.2.2.1 (prevAt l (m + 1)) p = if p.2.1.1 = q.2.2.1 then (if p.1 = q.1 then 16 else if p.2.1.2.1 = q.2.2.2.1 then 0 else 8) else 7) := Lib.hid (by rw [prevAt_succ l m q hq2]; rfl)
    have hsub : IntKind.i64.wrap (((m + 1 : Nat) : Int) - 1) = (m : Int) := by rw [show ((m + 1 : Nat) : Int) - 1 = (m : Int) by omega]; rw [IntKind.wrap_i64]; omega
    have hsub2 : IntKind.i64.wrap (m : Int) = (m : Int) := by rw [IntKind.wrap_i64]; omega
    have hsub3 : IntKind.i64.wrap ((m : Int) + 1 - 1) = (m : Int) := by rw [IntKind.wrap_i64]; omega
    have hm0 : (0 : Int) ≤ (m : Int) := Int.natCast_nonneg m
    have hml : (m : Int) < (l.length : Int) := by omega
    have hne : (((m + 1 : Nat) : Int) == 0) = false := by simp; omega
    have hne2 : ((m : Int) + 1 == 0) = false := by simp; omega
    have HW := Lib.hid (lgRow HR.out (G.refl _ none) hq2)
    have d4 : w2.cell? ⟨w.heap.size, 4, none⟩ = some (.slice (some ⟨bb, bo, none⟩) l.length cap) := hH.cell 4
    obtain ⟨B, hB⟩ : ∃ B, beE h.2.2.1 (prevAt l (m + 1)) p = B := ⟨_, rfl⟩
    rw [hB] at HA
    have HBB := Lib.hid hB
    clear hB hq2
    go_upto_region 7 with (refine wpList_load_at rfl 111 _ rfl ⟨bb, bo + m * 9, none⟩ rfl #[.string q.1, .int .i64 q.2.1.1, .string q.2.1.2.1, .int .i64 q.2.1.2.2.1, .int .i64 q.2.1.2.2.2, .int .i64 q.2.2.1, .string q.2.2.2.1, .int .i64 q.2.2.2.2.1, .int .i64 q.2.2.2.2.2] _ HW.out Tryd.underlying111 rfl (lg_info q) ?_)
    have hQ := Bk.new w2 111 (lgC q)
    have hG := hG.alloc (.cells (lgC q) 111)
    have hL := hL.alloc (.cells (lgC q) 111)
    rw [show #[.string q.1, .int .i64 q.2.1.1, .string q.2.1.2.1, .int .i64 q.2.1.2.2.1, .int .i64 q.2.1.2.2.2, .int .i64 q.2.2.1, .string q.2.2.2.1, .int .i64 q.2.2.2.2.1, .int .i64 q.2.2.2.2.2] = lgC q from rfl]
    generalize w2.alloc (.cells (lgC q) 111) = w3 at hQ hG hL ⊢
    generalize w2.heap.size = g at hQ ⊢
    have c0 : w3.cell? ⟨w.heap.size + 1, 0, none⟩ = some (.string p.1) := hL.cell 0
    have c1 : w3.cell? ⟨w.heap.size + 1, 1, none⟩ = some (.int .i64 p.2.1.1) := hL.cell 1
    have c2 : w3.cell? ⟨w.heap.size + 1, 2, none⟩ = some (.string p.2.1.2.1) := hL.cell 2
    have q0 : w3.cell? ⟨g, 0, none⟩ = some (.string q.1) := hQ.cell 0
    have q5 : w3.cell? ⟨g, 5, none⟩ = some (.int .i64 q.2.2.1) := hQ.cell 5
    have q6 : w3.cell? ⟨g, 6, none⟩ = some (.string q.2.2.2.1) := hQ.cell 6
    clear hL hQ hH HR d2 d4
    by_cases k1 : p.2.1.1 = q.2.2.1
    · have HA : Hid (B = if p.1 = q.1 then 16 else if p.2.1.2.1 = q.2.2.2.1 then 0 else 8) := Lib.hid (by rw [HA.out, if_pos k1])
      have k1' : (p.2.1.1 != q.2.2.1) = false := by simpa using k1
      clear k1
      by_cases k2 : p.1 = q.1
      · have HF : Hid (B = 16) := Lib.hid (by rw [HA.out, if_pos k2])
        have k2' : (p.1.toList == q.1.toList) = true := by rw [k2]; simp
        clear k2
        go_wp2_with fail
        go_ret
        exact ⟨ret_int (by rw [HBB.out, HF.out]), hG⟩
      · have HA : Hid (B = if p.2.1.2.1 = q.2.2.2.1 then 0 else 8) := Lib.hid (by rw [HA.out, if_neg k2])
        have k2' : (p.1.toList == q.1.toList) = false := by simpa using fun e => k2 (toList_ext e)
        clear k2
        by_cases k3 : p.2.1.2.1 = q.2.2.2.1
        · have HF : Hid (B = 0) := Lib.hid (by rw [HA.out, if_pos k3])
          have k3' : (p.2.1.2.1.toList == q.2.2.2.1.toList) = true := by rw [k3]; simp
          have k3n : (p.2.1.2.1.toList != q.2.2.2.1.toList) = false := by rw [k3]; simp
          clear k3
          go_wp2_with fail
          go_ret
          exact ⟨ret_int (by rw [HBB.out, HF.out]), hG⟩
        · have HF : Hid (B = 8) := Lib.hid (by rw [HA.out, if_neg k3])
          have k3' : (p.2.1.2.1.toList == q.2.2.2.1.toList) = false := by simpa using fun e => k3 (toList_ext e)
          have k3n : (p.2.1.2.1.toList != q.2.2.2.1.toList) = true := by simpa using fun e => k3 (toList_ext e)
          clear k3
          go_wp2_with fail
          go_ret
          exact ⟨ret_int (by rw [HBB.out, HF.out]), hG⟩
    · have HF : Hid (B = 7) := Lib.hid (by rw [HA.out, if_neg k1])
      have k1' : (p.2.1.1 != q.2.2.1) = true := by simpa using k1
      clear k1
      go_wp2_with fail
      go_ret
      exact ⟨ret_int (by rw [HBB.out, HF.out]), hG⟩
set_option maxRecDepth 100000 in
set_option maxHeartbeats 4000000 in
theorem checkEnd_c (h : Hh) (v : Value) (l : List Lg) (k : Nat) (p : Lg) (w : World) (hr : RdR w 9 lgC v l) (hp : l[k]? = some p) (hs : Small p.2.2.2.1) (hn : l.length ≤ 1000) :
    Calls Tryd.prog 134 #[.agg (hiC h v), .int .i64 k] w fun e w' => e = .returned (.int .i64 (enE (l.drop (k + 1)).isEmpty p)) ∧ G w w' none := by
  have hH := Bk.new w 61 (hiC h v)
  have hGH := (G.refl w none).alloc (.cells (hiC h v) 61)
  have HR := Lib.hid (hr.quiet hGH)
  obtain ⟨a, cap, rfl, hcap, hm⟩ := RdR.form hr
  clear hr
  have hk : k < l.length := (List.getElem?_eq_some_iff.1 hp).1
  have hki : (k : Int) < (l.length : Int) := by omega
  obtain ⟨bb, bo, rfl, -, -⟩ := RdR.elem lgC_sz HR.out (G.refl _ none) hp
  have HW := Lib.hid (lgRow HR.out (G.refl _ none) hp)
  clear hp
  have HLA : Hid ((l.drop (k + 1)).isEmpty = decide (l.length ≤ k + 1)) := Lib.hid (drop_empty l (k + 1))
  obtain ⟨E, hE⟩ : ∃ E, enE (l.drop (k + 1)).isEmpty p = E := ⟨_, rfl⟩
  have HE : Hid (E = if p.2.2.1 = -1 then (if p.2.2 = noIn then (if decide (l.length ≤ k + 1) = true then 0 else 11) else 3) else if rgE p.2.2 = 0 then (if p.2.2.1 ≤ p.2.1.1 then 7 else 0) else rgE p.2.2) := Lib.hid (by rw [← hE, HLA.out]; rfl)
  rw [hE]
  clear hE
  simp only [hiC] at hH hGH HR HW ⊢
  go_enter Tryd.func134, Tryd.ntmps134
  go_upto_region 2 with (refine wpList_load_at rfl 111 _ rfl ⟨bb, bo + k * 9, none⟩ rfl #[.string p.1, .int .i64 p.2.1.1, .string p.2.1.2.1, .int .i64 p.2.1.2.2.1, .int .i64 p.2.1.2.2.2, .int .i64 p.2.2.1, .string p.2.2.2.1, .int .i64 p.2.2.2.2.1, .int .i64 p.2.2.2.2.2] _ HW.out Tryd.underlying111 rfl (lg_info p) ?_)
  have hL : Bk ((w.alloc (.cells #[.string h.1, .string h.2.1, .int .i64 h.2.2.1, .int .i64 h.2.2.2, .slice (some ⟨bb, bo, none⟩) l.length cap] 61)).alloc (.cells #[.string p.1, .int .i64 p.2.1.1, .string p.2.1.2.1, .int .i64 p.2.1.2.2.1, .int .i64 p.2.1.2.2.2, .int .i64 p.2.2.1, .string p.2.2.2.1, .int .i64 p.2.2.2.2.1, .int .i64 p.2.2.2.2.2] 111)) (w.heap.size + 1) 111 (lgC p) := Bk.newAt (by simp) _ _
  have hG := hGH.alloc (.cells #[.string p.1, .int .i64 p.2.1.1, .string p.2.1.2.1, .int .i64 p.2.1.2.2.1, .int .i64 p.2.1.2.2.2, .int .i64 p.2.2.1, .string p.2.2.2.1, .int .i64 p.2.2.2.2.1, .int .i64 p.2.2.2.2.2] 111)
  have hH := hH.alloc (.cells #[.string p.1, .int .i64 p.2.1.1, .string p.2.1.2.1, .int .i64 p.2.1.2.2.1, .int .i64 p.2.1.2.2.2, .int .i64 p.2.2.1, .string p.2.2.2.1, .int .i64 p.2.2.2.2.1, .int .i64 p.2.2.2.2.2] 111)
  clear HW hGH HR
  generalize (w.alloc (.cells #[.string h.1, .string h.2.1, .int .i64 h.2.2.1, .int .i64 h.2.2.2, .slice (some ⟨bb, bo, none⟩) l.length cap] 61)).alloc (.cells #[.string p.1, .int .i64 p.2.1.1, .string p.2.1.2.1, .int .i64 p.2.1.2.2.1, .int .i64 p.2.1.2.2.2, .int .i64 p.2.2.1, .string p.2.2.2.1, .int .i64 p.2.2.2.2.1, .int .i64 p.2.2.2.2.2] 111) = w2 at hL hG hH ⊢
  go_wp2_with (refine wpList_load_row rfl 111 _ rfl (w.heap.size + 1) rfl 111 #[.string p.1, .int .i64 p.2.1.1, .string p.2.1.2.1, .int .i64 p.2.1.2.2.1, .int .i64 p.2.1.2.2.2, .int .i64 p.2.2.1, .string p.2.2.2.1, .int .i64 p.2.2.2.2.1, .int .i64 p.2.2.2.2.2] (0, 0) _ hL Tryd.underlying111 rfl (lg_info p) ?_)
  refine (isOut_c p _).mono ?_; rintro e w3 ⟨rfl, hG3⟩
  have hL := hL.quiet hG3
  have hH := hH.quiet hG3
  have hG := hG.trans hG3
  clear hG3
  have HP := Lib.hid (hL.part 5 #[.int .i64 p.2.2.1, .string p.2.2.2.1, .int .i64 p.2.2.2.2.1, .int .i64 p.2.2.2.2.2] (lg_in p))
  have c1 : w3.cell? ⟨w.heap.size + 1, 1, none⟩ = some (.int .i64 p.2.1.1) := hL.cell 1
  have c5 : w3.cell? ⟨w.heap.size + 1, 5, none⟩ = some (.int .i64 p.2.2.1) := hL.cell 5
  have d4 : w3.cell? ⟨w.heap.size, 4, none⟩ = some (.slice (some ⟨bb, bo, none⟩) l.length cap) := hH.cell 4
  clear hH
  by_cases k1 : p.2.2.1 = -1
  · have k1' : (p.2.2.1 == -1) = true := by simpa using k1
    rw [k1']
    have HN := fun w : World => rg_neq p.2.2 noIn w
    by_cases k2 : p.2.2 = noIn
    · have HNN : Hid (∀ w : World, (binOp .neq 57 (.agg #[.int .i64 p.2.2.1, .string p.2.2.2.1, .int .i64 p.2.2.2.2.1, .int .i64 p.2.2.2.2.2]) (.agg #[.int .i64 (-1), .string ⟨#[]⟩, .int .i64 0, .int .i64 0])).run Tryd.prog w = .ok (.bool false) w) := Lib.hid fun w => by
        have := HN w
        rw [decide_eq_true k2] at this
        exact this
      have hnn := HNN.out
      have HE : Hid (E = if decide (l.length ≤ k + 1) = true then 0 else 11) := Lib.hid (by rw [HE.out, if_pos k1, if_pos k2])
      have hl1 : IntKind.i64.wrap ((l.length : Int) - 1) = (l.length : Int) - 1 := by rw [IntKind.wrap_i64]; omega
      clear k1 k1' k2 HN HNN
      by_cases k3 : l.length ≤ k + 1
      · have HF : Hid (E = 0) := Lib.hid (by rw [HE.out, if_pos (decide_eq_true k3)])
        have k3' : ¬ ((k : Int) < (l.length : Int) - 1) := by omega
        clear k3
        go_wp2_with (refine wpList_load_at rfl 57 _ rfl ⟨w.heap.size + 1, 5, none⟩ rfl #[.int .i64 p.2.2.1, .string p.2.2.2.1, .int .i64 p.2.2.2.2.1, .int .i64 p.2.2.2.2.2] _ HP.out Tryd.underlying57 rfl (rg_info p.2.2) ?_)
        go_ret
        exact ⟨ret_int HF.out.symm, hG⟩
      · have HF : Hid (E = 11) := Lib.hid (by rw [HE.out, if_neg (by simpa using k3)])
        have k3' : (k : Int) < (l.length : Int) - 1 := by omega
        clear k3
        go_wp2_with (refine wpList_load_at rfl 57 _ rfl ⟨w.heap.size + 1, 5, none⟩ rfl #[.int .i64 p.2.2.1, .string p.2.2.2.1, .int .i64 p.2.2.2.2.1, .int .i64 p.2.2.2.2.2] _ HP.out Tryd.underlying57 rfl (rg_info p.2.2) ?_)
        go_ret
        exact ⟨ret_int HF.out.symm, hG⟩
    · have HNN : Hid (∀ w : World, (binOp .neq 57 (.agg #[.int .i64 p.2.2.1, .string p.2.2.2.1, .int .i64 p.2.2.2.2.1, .int .i64 p.2.2.2.2.2]) (.agg #[.int .i64 (-1), .string ⟨#[]⟩, .int .i64 0, .int .i64 0])).run Tryd.prog w = .ok (.bool true) w) := Lib.hid fun w => by
        have := HN w
        rw [decide_eq_false k2] at this
        exact this
      have hnn := HNN.out
      have HF : Hid (E = 3) := Lib.hid (by rw [HE.out, if_pos k1, if_neg k2])
      clear HE k1 k1' k2 HN HNN
      go_wp2_with (refine wpList_load_at rfl 57 _ rfl ⟨w.heap.size + 1, 5, none⟩ rfl #[.int .i64 p.2.2.1, .string p.2.2.2.1, .int .i64 p.2.2.2.2.1, .int .i64 p.2.2.2.2.2] _ HP.out Tryd.underlying57 rfl (rg_info p.2.2) ?_)
      go_ret
      exact ⟨ret_int HF.out.symm, hG⟩
  · have k1' : (p.2.2.1 == -1) = false := by simpa using k1
    rw [k1']
    have HE : Hid (E = if rgE p.2.2 = 0 then (if p.2.2.1 ≤ p.2.1.1 then 7 else 0) else rgE p.2.2) := Lib.hid (by rw [HE.out, if_neg k1])
    clear k1 k1'
    go_wp2_with (refine wpList_load_at rfl 57 _ rfl ⟨w.heap.size + 1, 5, none⟩ rfl #[.int .i64 p.2.2.1, .string p.2.2.2.1, .int .i64 p.2.2.2.2.1, .int .i64 p.2.2.2.2.2] _ HP.out Tryd.underlying57 rfl (rg_info p.2.2) ?_)
    refine (checkReading_c p.2.2 _ hs).mono ?_; rintro e w4 ⟨rfl, hG4⟩
    have hL := hL.quiet hG4
    have hG := hG.trans hG4
    clear hG4 c1 c5 d4 HP
    have c1 : w4.cell? ⟨w.heap.size + 1, 1, none⟩ = some (.int .i64 p.2.1.1) := hL.cell 1
    have c5 : w4.cell? ⟨w.heap.size + 1, 5, none⟩ = some (.int .i64 p.2.2.1) := hL.cell 5
    obtain ⟨R, hR⟩ : ∃ R, rgE p.2.2 = R := ⟨_, rfl⟩
    rw [hR] at HE ⊢
    clear hR
    by_cases k2 : R = 0
    · have HE5 : Hid (E = if p.2.2.1 ≤ p.2.1.1 then 7 else 0) := Lib.hid (by rw [HE.out, if_pos k2])
      subst k2
      by_cases k3 : p.2.2.1 ≤ p.2.1.1
      · have HF : Hid (E = 7) := Lib.hid (by rw [HE5.out, if_pos k3])
        go_wp2_with fail
        go_ret
        exact ⟨ret_int HF.out.symm, hG⟩
      · have HF : Hid (E = 0) := Lib.hid (by rw [HE5.out, if_neg k3])
        go_wp2_with fail
        go_ret
        exact ⟨ret_int HF.out.symm, hG⟩
    · have HF : Hid (E = R) := Lib.hid (by rw [HE.out, if_neg k2])
      have k2' : (R != 0) = true := by simpa using k2
      clear k2
      go_wp2_with fail
      go_ret
      exact ⟨ret_int HF.out.symm, hG⟩
end Go.Proofs.YtbieiefbgcgogaaDoor

/- Hires: checkLeg, Check. -/
namespace Go.Proofs.YtbieiefbgcgogaaDoor
open Go.RowKit

theorem hi_time (h : Hh) (v : Value) : ∀ j u, (#[Value.int .i64 h.2.2.1, .int .i64 h.2.2.2] : Array Value).toList[j]? = some u → (hiC h v)[2 + j]? = some u := fun j u hu => by
  match j, hu with
  | 0, hu => exact hu
  | 1, hu => exact hu
  | n + 2, hu => simp at hu
set_option maxRecDepth 100000 in
set_option maxHeartbeats 4000000 in
theorem checkLeg_c (h : Hh) (v : Value) (l : List Lg) (k : Nat) (p : Lg) (w : World) (hr : RdR w 9 lgC v l) (hp : l[k]? = some p) (hs : lgB p) (hn : l.length ≤ 1000) :
    Calls Tryd.prog 116 #[.agg (hiC h v), .int .i64 k] w fun e w' => e = .returned (.int .i64 (lgE h.2.2.1 (prevAt l k) (l.drop (k + 1)).isEmpty p)) ∧ G w w' none := by
  have hH := Bk.new w 61 (hiC h v)
  have hGH := (G.refl w none).alloc (.cells (hiC h v) 61)
  have hR := hr.quiet hGH
  obtain ⟨a, cap, rfl, hcap, hm⟩ := RdR.form hr
  clear hr
  have hk : k < l.length := (List.getElem?_eq_some_iff.1 hp).1
  have hki : (k : Int) < (l.length : Int) := by omega
  obtain ⟨bb, bo, rfl, -, -⟩ := RdR.elem lgC_sz hR (G.refl _ none) hp
  have HW := Lib.hid (lgRow hR (G.refl _ none) hp)
  have HP := Lib.hid hp
  obtain ⟨hs1, hs2, hs3⟩ := hs
  have hs1' := hs1
  unfold Small at hs1'
  clear hp
  obtain ⟨E, hE⟩ : ∃ E, lgE h.2.2.1 (prevAt l k) (l.drop (k + 1)).isEmpty p = E := ⟨_, rfl⟩
  have HE : Hid (E = if keyB p.1 = false then 5 else if rgE p.2.1 = 0 then (if beE h.2.2.1 (prevAt l k) p = 0 then enE (l.drop (k + 1)).isEmpty p else beE h.2.2.1 (prevAt l k) p) else rgE p.2.1) := Lib.hid hE.symm
  rw [hE]
  clear hE
  simp only [hiC] at hH hGH hR HW ⊢
  go_enter Tryd.func116, Tryd.ntmps116
  go_upto_region 2 with (refine wpList_load_at rfl 111 _ rfl ⟨bb, bo + k * 9, none⟩ rfl #[.string p.1, .int .i64 p.2.1.1, .string p.2.1.2.1, .int .i64 p.2.1.2.2.1, .int .i64 p.2.1.2.2.2, .int .i64 p.2.2.1, .string p.2.2.2.1, .int .i64 p.2.2.2.2.1, .int .i64 p.2.2.2.2.2] _ HW.out Tryd.underlying111 rfl (lg_info p) ?_)
  have hL : Bk ((w.alloc (.cells #[.string h.1, .string h.2.1, .int .i64 h.2.2.1, .int .i64 h.2.2.2, .slice (some ⟨bb, bo, none⟩) l.length cap] 61)).alloc (.cells #[.string p.1, .int .i64 p.2.1.1, .string p.2.1.2.1, .int .i64 p.2.1.2.2.1, .int .i64 p.2.1.2.2.2, .int .i64 p.2.2.1, .string p.2.2.2.1, .int .i64 p.2.2.2.2.1, .int .i64 p.2.2.2.2.2] 111)) (w.heap.size + 1) 111 (lgC p) := Bk.newAt (by simp) _ _
  have hG := hGH.alloc (.cells #[.string p.1, .int .i64 p.2.1.1, .string p.2.1.2.1, .int .i64 p.2.1.2.2.1, .int .i64 p.2.1.2.2.2, .int .i64 p.2.2.1, .string p.2.2.2.1, .int .i64 p.2.2.2.2.1, .int .i64 p.2.2.2.2.2] 111)
  have hH := hH.alloc (.cells #[.string p.1, .int .i64 p.2.1.1, .string p.2.1.2.1, .int .i64 p.2.1.2.2.1, .int .i64 p.2.1.2.2.2, .int .i64 p.2.2.1, .string p.2.2.2.1, .int .i64 p.2.2.2.2.1, .int .i64 p.2.2.2.2.2] 111)
  have hR := hR.quiet ((G.refl _ none).alloc (.cells #[.string p.1, .int .i64 p.2.1.1, .string p.2.1.2.1, .int .i64 p.2.1.2.2.1, .int .i64 p.2.1.2.2.2, .int .i64 p.2.2.1, .string p.2.2.2.1, .int .i64 p.2.2.2.2.1, .int .i64 p.2.2.2.2.2] 111))
  clear HW hGH
  generalize (w.alloc (.cells #[.string h.1, .string h.2.1, .int .i64 h.2.2.1, .int .i64 h.2.2.2, .slice (some ⟨bb, bo, none⟩) l.length cap] 61)).alloc (.cells #[.string p.1, .int .i64 p.2.1.1, .string p.2.1.2.1, .int .i64 p.2.1.2.2.1, .int .i64 p.2.1.2.2.2, .int .i64 p.2.2.1, .string p.2.2.2.1, .int .i64 p.2.2.2.2.1, .int .i64 p.2.2.2.2.2] 111) = w2 at hL hG hH hR ⊢
  have c0 : w2.cell? ⟨w.heap.size + 1, 0, none⟩ = some (.string p.1) := hL.cell 0
  have HO := Lib.hid (hL.part 1 #[.int .i64 p.2.1.1, .string p.2.1.2.1, .int .i64 p.2.1.2.2.1, .int .i64 p.2.1.2.2.2] (lg_out p))
  go_wp2_with fail
  refine (isKey_c _ _ hs1').mono ?_; rintro e w' ⟨rfl, rfl⟩
  cases k1 : keyB p.1 with
  | false =>
    have HF : Hid (E = 5) := Lib.hid (by rw [HE.out, if_pos k1])
    clear k1
    go_wp2_with fail
    go_ret
    exact ⟨ret_int HF.out.symm, hG⟩
  | true =>
    have HE1 : Hid (E = if rgE p.2.1 = 0 then (if beE h.2.2.1 (prevAt l k) p = 0 then enE (l.drop (k + 1)).isEmpty p else beE h.2.2.1 (prevAt l k) p) else rgE p.2.1) := Lib.hid (by rw [HE.out, if_neg (by simp [k1])])
    clear k1 HE
    go_wp2_with (refine wpList_load_at rfl 57 _ rfl ⟨w.heap.size + 1, 1, none⟩ rfl #[.int .i64 p.2.1.1, .string p.2.1.2.1, .int .i64 p.2.1.2.2.1, .int .i64 p.2.1.2.2.2] _ HO.out Tryd.underlying57 rfl (rg_info p.2.1) ?_)
    refine (checkReading_c p.2.1 _ hs2).mono ?_; rintro e w4 ⟨rfl, hG4⟩
    have hL := hL.quiet hG4
    have hH := hH.quiet hG4
    have hR := hR.quiet hG4
    have hG := hG.trans hG4
    clear hG4 c0 HO
    obtain ⟨R, hRR⟩ : ∃ R, rgE p.2.1 = R := ⟨_, rfl⟩
    rw [hRR] at HE1 ⊢
    clear hRR
    by_cases k2 : R = 0
    · have HE2 : Hid (E = if beE h.2.2.1 (prevAt l k) p = 0 then enE (l.drop (k + 1)).isEmpty p else beE h.2.2.1 (prevAt l k) p) := Lib.hid (by rw [HE1.out, if_pos k2])
      subst k2
      clear HE1
      go_wp2_with (refine wpList_load_row rfl 61 _ rfl w.heap.size rfl 61 #[.string h.1, .string h.2.1, .int .i64 h.2.2.1, .int .i64 h.2.2.2, .slice (some ⟨bb, bo, none⟩) l.length cap] (0, 0) _ hH Tryd.underlying61 rfl (hi_info h _) ?_)
      refine (checkBegin_c h _ l k p _ hR HP.out hn).mono ?_; rintro e w5 ⟨rfl, hG5⟩
      have hH := hH.quiet hG5
      have hR := hR.quiet hG5
      have hG := hG.trans hG5
      clear hG5
      obtain ⟨B, hB⟩ : ∃ B, beE h.2.2.1 (prevAt l k) p = B := ⟨_, rfl⟩
      rw [hB] at HE2 ⊢
      clear hB
      by_cases k3 : B = 0
      · have HF : Hid (E = enE (l.drop (k + 1)).isEmpty p) := Lib.hid (by rw [HE2.out, if_pos k3])
        subst k3
        clear HE2
        go_wp2_with (refine wpList_load_row rfl 61 _ rfl w.heap.size rfl 61 #[.string h.1, .string h.2.1, .int .i64 h.2.2.1, .int .i64 h.2.2.2, .slice (some ⟨bb, bo, none⟩) l.length cap] (0, 0) _ hH Tryd.underlying61 rfl (hi_info h _) ?_)
        refine (checkEnd_c h _ l k p _ hR HP.out hs3 hn).mono ?_; rintro e w6 ⟨rfl, hG6⟩
        have hG := hG.trans hG6
        rw [← HF.out]
        go_wp2_with fail
        go_ret
        exact ⟨rfl, hG⟩
      · have HF : Hid (E = B) := Lib.hid (by rw [HE2.out, if_neg k3])
        have k3' : (B != 0) = true := by simpa using k3
        clear k3 HE2
        go_wp2_with fail
        go_ret
        exact ⟨ret_int HF.out.symm, hG⟩
    · have HF : Hid (E = R) := Lib.hid (by rw [HE1.out, if_neg k2])
      have k2' : (R != 0) = true := by simpa using k2
      clear k2 HE1
      go_wp2_with fail
      go_ret
      exact ⟨ret_int HF.out.symm, hG⟩
def LsRel (w : World) (f : Int) (l : List Lg) (i : Value) (wr : World) : Prop :=
  ∃ k : Nat, k ≤ l.length ∧ i = .int .i64 k ∧ lsE f none l = lsE f (prevAt l k) (l.drop k) ∧ G w wr none
set_option maxRecDepth 100000 in
set_option maxHeartbeats 4000000 in
theorem check_c (h : Hh) (v : Value) (l : List Lg) (w : World) (hr : RdR w 9 lgC v l) (hl : LgOk l) (hs1 : Small h.1) (hs2 : Small h.2.1) (hb1 : bnd h.2.2.1) (hb2 : bnd h.2.2.2) (hn : l.length ≤ 1000) :
    Calls Tryd.prog 100 #[.agg (hiC h v)] w fun e w' => e = .returned (.int .i64 (hiE h l)) ∧ G w w' none := by
  have hH := Bk.new w 61 (hiC h v)
  have hG := (G.refl w none).alloc (.cells (hiC h v) 61)
  have hR := hr.quiet hG
  obtain ⟨a, cap, rfl, hcap, hm⟩ := RdR.form hr
  clear hr
  unfold Small at hs1 hs2
  obtain ⟨E, hE⟩ : ∃ E, hiE h l = E := ⟨_, rfl⟩
  have HE : Hid (E = if keyB h.1 = false then 5 else if keyB h.2.1 = false then 5 else if tE h.2.2.1 h.2.2.2 = 0 then (if l.length = 0 then 3 else if 20 < l.length then 2 else lsE h.2.2.1 none l) else tE h.2.2.1 h.2.2.2) := Lib.hid hE.symm
  rw [hE]
  clear hE
  simp only [hiC] at hH hG hR ⊢
  go_enter Tryd.func100, Tryd.ntmps100
  go_upto_region 1 with fail
  generalize w.alloc (.cells #[.string h.1, .string h.2.1, .int .i64 h.2.2.1, .int .i64 h.2.2.2, .slice a l.length cap] 61) = w2 at hG hH hR ⊢
  have hg := hH.lt
  generalize w.heap.size = g at hH hg ⊢
  have c0 : w2.cell? ⟨g, 0, none⟩ = some (.string h.1) := hH.cell 0
  have c1 : w2.cell? ⟨g, 1, none⟩ = some (.string h.2.1) := hH.cell 1
  go_wp2_with fail
  refine (isKey_c _ _ hs1).mono ?_; rintro e w' ⟨rfl, rfl⟩
  cases k1 : keyB h.1 with
  | false =>
    have HF : Hid (E = 5) := Lib.hid (by rw [HE.out, if_pos k1])
    clear k1
    go_wp2_with fail
    go_ret
    exact ⟨ret_int HF.out.symm, hG⟩
  | true =>
    have K1 := Lib.hid k1
    clear k1
    go_wp2_with fail
    refine (isKey_c _ _ hs2).mono ?_; rintro e w' ⟨rfl, rfl⟩
    cases k2 : keyB h.2.1 with
    | false =>
      have HF : Hid (E = 5) := Lib.hid (by rw [HE.out, if_neg (by simp [K1.out]), if_pos k2])
      clear k2
      go_wp2_with fail
      go_ret
      exact ⟨ret_int HF.out.symm, hG⟩
    | true =>
      have HE1 : Hid (E = if tE h.2.2.1 h.2.2.2 = 0 then (if l.length = 0 then 3 else if 20 < l.length then 2 else lsE h.2.2.1 none l) else tE h.2.2.1 h.2.2.2) := Lib.hid (by rw [HE.out, if_neg (by simp [K1.out]), if_neg (by simp [k2])])
      clear k2 HE
      have HT := Lib.hid (hH.part 2 #[.int .i64 h.2.2.1, .int .i64 h.2.2.2] (hi_time h _))
      go_wp2_with (refine wpList_load_at rfl 31 _ rfl ⟨g, 2, none⟩ rfl #[.int .i64 h.2.2.1, .int .i64 h.2.2.2] _ HT.out Tryd.underlying31 rfl (wi_info _ _) ?_)
      refine (days_c _ _ _ hb1 hb2).mono ?_; rintro e w3 ⟨rfl, hG3⟩
      have hH := hH.quiet hG3
      have hR := hR.quiet hG3
      have hG := hG.trans hG3
      clear hG3 c0 c1 HT
      obtain ⟨T, hT⟩ : ∃ T, tE h.2.2.1 h.2.2.2 = T := ⟨_, rfl⟩
      rw [hT] at HE1 ⊢
      clear hT
      generalize tN h.2.2.1 h.2.2.2 = N
      by_cases k3 : T = 0
      · have HE2 : Hid (E = if l.length = 0 then 3 else if 20 < l.length then 2 else lsE h.2.2.1 none l) := Lib.hid (by rw [HE1.out, if_pos k3])
        subst k3
        clear HE1
        have c4 : w3.cell? ⟨g, 4, none⟩ = some (.slice a l.length cap) := hH.cell 4
        by_cases k4 : l.length = 0
        · have HF : Hid (E = 3) := Lib.hid (by rw [HE2.out, if_pos k4])
          have k4' : ((l.length : Int) == 0) = true := by rw [k4]; rfl
          clear k4
          go_wp2_with fail
          go_ret
          exact ⟨ret_int HF.out.symm, hG⟩
        · have k4' : ((l.length : Int) == 0) = false := by rw [beq_eq_false_iff_ne]; omega
          by_cases k5 : 20 < l.length
          · have HF : Hid (E = 2) := Lib.hid (by rw [HE2.out, if_neg k4, if_pos k5])
            have k5' : (20 : Int) < (l.length : Int) := by omega
            clear k5 k4
            go_wp2_with fail
            go_ret
            exact ⟨ret_int HF.out.symm, hG⟩
          · have HE3 : Hid (E = lsE h.2.2.1 none l) := Lib.hid (by rw [HE2.out, if_neg k4, if_neg k5])
            have k5' : ¬ (20 : Int) < (l.length : Int) := by omega
            clear k5 k4 HE2
            have HHH := Lib.hid hH
            have HRR := Lib.hid hR
            clear hH hR
            go_wp2_with fail
            go_loopw [37] (LsRel w3 h.2.2.1 l) (fun i _ => l.length - (intOf i).toNat)
            case atStart => exact ⟨0, by omega, rfl, rfl, G.refl _ _⟩
            case round =>
              obtain ⟨k, hkl, rfl, heq, hGr⟩ := hrel
              have HEq := Lib.hid heq
              clear heq c4
              have hH := HHH.out.quiet hGr
              have hR := HRR.out.quiet hGr
              by_cases hk : k < l.length
              · obtain ⟨p, hp⟩ : ∃ p, l[k]? = some p := ⟨_, List.getElem?_eq_getElem hk⟩
                have hdrop : l.drop k = p :: l.drop (k + 1) := by rw [List.drop_eq_getElem_cons hk, ← (List.getElem?_eq_some_iff.1 hp).2]
                have HS : Hid (lsE h.2.2.1 none l = if lgE h.2.2.1 (prevAt l k) (l.drop (k + 1)).isEmpty p = 0 then lsE h.2.2.1 (some p) (l.drop (k + 1)) else lgE h.2.2.1 (prevAt l k) (l.drop (k + 1)).isEmpty p) := Lib.hid (by rw [HEq.out, hdrop]; rfl)
                have hpb := hl p (List.mem_of_getElem? hp)
                have HP := Lib.hid hp
                have HK := Lib.hid hk
                have hki : (k : Int) < (l.length : Int) := by omega
                clear hdrop hp
                go_wp2_with (refine wpList_load_row rfl 61 _ rfl g rfl 61 #[.string h.1, .string h.2.1, .int .i64 h.2.2.1, .int .i64 h.2.2.2, .slice a l.length cap] (0, 0) _ hH Tryd.underlying61 rfl (hi_info h _) ?_)
                refine (checkLeg_c h _ l k p _ hR HP.out hpb hn).mono ?_; rintro e w5 ⟨rfl, hG5⟩
                have hGr5 := hGr.trans hG5
                clear hG5 hGr hH hR hpb
                obtain ⟨L, hL⟩ : ∃ L, lgE h.2.2.1 (prevAt l k) (l.drop (k + 1)).isEmpty p = L := ⟨_, rfl⟩
                rw [hL] at HS ⊢
                clear hL
                by_cases k6 : L = 0
                · have HF : Hid (lsE h.2.2.1 none l = lsE h.2.2.1 (prevAt l (k + 1)) (l.drop (k + 1))) := Lib.hid (by rw [HS.out, if_pos k6, prevAt_succ l k p HP.out])
                  subst k6
                  clear HS
                  go_wp2_with fail
                  go_roundw
                  case rel => exact ⟨k + 1, by omega, by go_num, HF.out, hGr5⟩
                  case measure => have := HK.out; simp [intOf]; omega
                · have HF : Hid (E = L) := Lib.hid (by rw [HE3.out, HS.out, if_neg k6])
                  have k6' : (L != 0) = true := by simpa using k6
                  clear k6 HS
                  go_wp2_with fail
                  go_ret
                  exact ⟨ret_int HF.out.symm, hG.trans hGr5⟩
              · obtain rfl : k = l.length := by omega
                have HF : Hid (E = 0) := Lib.hid (by rw [HE3.out, HEq.out, List.drop_length]; rfl)
                go_wp2_with fail
                go_ret
                exact ⟨ret_int HF.out.symm, hG.trans hGr⟩
      · have HF : Hid (E = T) := Lib.hid (by rw [HE1.out, if_neg k3])
        have k3' : (T != 0) = true := by simpa using k3
        clear k3 HE1
        go_wp2_with fail
        go_ret
        exact ⟨ret_int HF.out.symm, hG⟩
end Go.Proofs.YtbieiefbgcgogaaDoor

/- Hires: the reference's readingFault, legFault, HireFault. -/
namespace Go.Proofs.YtbieiefbgcgogaaDoor
open Go.RowKit

set_option maxRecDepth 100000 in
set_option maxHeartbeats 2000000 in
theorem readingFault_c (x : Rg) (w : World) (hs : Small x.2.1) :
    Calls Tryd.prog 135 #[.agg (rgC x)] w fun e w' => e = .returned (.int .i64 (rgE x)) ∧ G w w' none := by
  have hG1 := (G.refl w none).alloc (.cells (rgC x) 57)
  have hB1 := Bk.new w 57 (rgC x)
  unfold Small at hs
  obtain ⟨t, s, m, f⟩ := x
  simp only [rgC] at hG1 hB1 hs ⊢
  have HE : Hid (rgE (t, s, m, f) = if momB t = false then 1 else if keyB s = false then 5 else if inB m 0 999999 = false then 1 else if inB f 0 8 = false then 1 else 0) := Lib.hid rfl
  generalize rgE (t, s, m, f) = R at HE ⊢
  go_enter Tryd.func135, Tryd.ntmps135
  go_wp2_with fail
  refine (rMoment_c t _).mono ?_; rintro e w1 ⟨rfl, rfl⟩
  cases k1 : momB t with
  | false =>
    have HF : Hid (R = 1) := Lib.hid (by rw [HE.out, if_pos k1])
    clear k1
    go_wp2_with fail
    go_ret
    exact ⟨ret_int HF.out.symm, hG1⟩
  | true =>
    have HE : Hid (R = if keyB s = false then 5 else if inB m 0 999999 = false then 1 else if inB f 0 8 = false then 1 else 0) := Lib.hid (by rw [HE.out, if_neg (by simp [k1])])
    clear k1
    go_wp2_with fail
    refine (rkey_c s _ hs).mono ?_; rintro e w1 ⟨rfl, hGk⟩
    have hB1 := hB1.quiet hGk
    have hG1 := hG1.trans hGk
    clear hGk
    have d2 : w1.cell? ⟨w.heap.size, 2, none⟩ = some (.int .i64 m) := hB1.cell 2
    have d3 : w1.cell? ⟨w.heap.size, 3, none⟩ = some (.int .i64 f) := hB1.cell 3
    cases k2 : keyB s with
    | false =>
      have HF : Hid (R = 5) := Lib.hid (by rw [HE.out, if_pos k2])
      clear k2
      go_wp2_with fail
      go_ret
      exact ⟨ret_int HF.out.symm, hG1⟩
    | true =>
      have HE : Hid (R = if inB m 0 999999 = false then 1 else if inB f 0 8 = false then 1 else 0) := Lib.hid (by rw [HE.out, if_neg (by simp [k2])])
      clear k2
      go_wp2_with fail
      refine (in_c m 0 999999 _).mono ?_; rintro e w1 ⟨rfl, rfl⟩
      cases k3 : inB m 0 999999 with
      | false =>
        have HF : Hid (R = 1) := Lib.hid (by rw [HE.out, if_pos k3])
        clear k3
        go_wp2_with fail
        go_ret
        exact ⟨ret_int HF.out.symm, hG1⟩
      | true =>
        have HE : Hid (R = if inB f 0 8 = false then 1 else 0) := Lib.hid (by rw [HE.out, if_neg (by simp [k3])])
        clear k3
        go_wp2_with fail
        refine (in_c f 0 8 _).mono ?_; rintro e w1 ⟨rfl, rfl⟩
        cases k4 : inB f 0 8 with
        | false =>
          have HF : Hid (R = 1) := Lib.hid (by rw [HE.out, if_pos k4])
          clear k4
          go_wp2_with fail
          go_ret
          exact ⟨ret_int HF.out.symm, hG1⟩
        | true =>
          have HF : Hid (R = 0) := Lib.hid (by rw [HE.out, if_neg (by simp [k4])])
          clear k4
          go_wp2_with fail
          go_ret
          exact ⟨ret_int HF.out.symm, hG1⟩
set_option maxRecDepth 100000 in
set_option maxHeartbeats 8000000 in
theorem legFault_c (h : Hh) (v : Value) (l : List Lg) (k : Nat) (p : Lg) (w : World) (hr : RdR w 9 lgC v l) (hp : l[k]? = some p) (hs : lgB p) (hn : l.length ≤ 1000) :
    Calls Tryd.prog 117 #[.agg (hiC h v), .int .i64 k] w fun e w' => e = .returned (.int .i64 (lgE h.2.2.1 (prevAt l k) (l.drop (k + 1)).isEmpty p)) ∧ G w w' none := by
  have hH := Bk.new w 61 (hiC h v)
  have hGH := (G.refl w none).alloc (.cells (hiC h v) 61)
  have hR := hr.quiet hGH
  obtain ⟨a, cap, rfl, hcap, hm⟩ := RdR.form hr
  clear hr
  have hk : k < l.length := (List.getElem?_eq_some_iff.1 hp).1
  have hki : (k : Int) < (l.length : Int) := by omega
  obtain ⟨bb, bo, rfl, -, -⟩ := RdR.elem lgC_sz hR (G.refl _ none) hp
  have HW := Lib.hid (lgRow hR (G.refl _ none) hp)
  obtain ⟨hs1, hs2, hs3⟩ := hs
  have hs1' := hs1
  unfold Small at hs1'
  clear hp
  obtain ⟨E, hE⟩ : ∃ E, lgE h.2.2.1 (prevAt l k) (l.drop (k + 1)).isEmpty p = E := ⟨_, rfl⟩
  have HE : Hid (E = if keyB p.1 = false then 5 else if rgE p.2.1 = 0 then (if beE h.2.2.1 (prevAt l k) p = 0 then enE (l.drop (k + 1)).isEmpty p else beE h.2.2.1 (prevAt l k) p) else rgE p.2.1) := Lib.hid hE.symm
  rw [hE]
  clear hE
  simp only [hiC] at hH hGH hR HW ⊢
  go_enter Tryd.func117, Tryd.ntmps117
  go_upto_region 2 with (refine wpList_load_at rfl 111 _ rfl ⟨bb, bo + k * 9, none⟩ rfl #[.string p.1, .int .i64 p.2.1.1, .string p.2.1.2.1, .int .i64 p.2.1.2.2.1, .int .i64 p.2.1.2.2.2, .int .i64 p.2.2.1, .string p.2.2.2.1, .int .i64 p.2.2.2.2.1, .int .i64 p.2.2.2.2.2] _ HW.out Tryd.underlying111 rfl (lg_info p) ?_)
  have hL : Bk ((w.alloc (.cells #[.string h.1, .string h.2.1, .int .i64 h.2.2.1, .int .i64 h.2.2.2, .slice (some ⟨bb, bo, none⟩) l.length cap] 61)).alloc (.cells #[.string p.1, .int .i64 p.2.1.1, .string p.2.1.2.1, .int .i64 p.2.1.2.2.1, .int .i64 p.2.1.2.2.2, .int .i64 p.2.2.1, .string p.2.2.2.1, .int .i64 p.2.2.2.2.1, .int .i64 p.2.2.2.2.2] 111)) (w.heap.size + 1) 111 (lgC p) := Bk.newAt (by simp) _ _
  have hG := hGH.alloc (.cells #[.string p.1, .int .i64 p.2.1.1, .string p.2.1.2.1, .int .i64 p.2.1.2.2.1, .int .i64 p.2.1.2.2.2, .int .i64 p.2.2.1, .string p.2.2.2.1, .int .i64 p.2.2.2.2.1, .int .i64 p.2.2.2.2.2] 111)
  have hH := hH.alloc (.cells #[.string p.1, .int .i64 p.2.1.1, .string p.2.1.2.1, .int .i64 p.2.1.2.2.1, .int .i64 p.2.1.2.2.2, .int .i64 p.2.2.1, .string p.2.2.2.1, .int .i64 p.2.2.2.2.1, .int .i64 p.2.2.2.2.2] 111)
  have hR := hR.quiet ((G.refl _ none).alloc (.cells #[.string p.1, .int .i64 p.2.1.1, .string p.2.1.2.1, .int .i64 p.2.1.2.2.1, .int .i64 p.2.1.2.2.2, .int .i64 p.2.2.1, .string p.2.2.2.1, .int .i64 p.2.2.2.2.1, .int .i64 p.2.2.2.2.2] 111))
  clear HW hGH
  generalize (w.alloc (.cells #[.string h.1, .string h.2.1, .int .i64 h.2.2.1, .int .i64 h.2.2.2, .slice (some ⟨bb, bo, none⟩) l.length cap] 61)).alloc (.cells #[.string p.1, .int .i64 p.2.1.1, .string p.2.1.2.1, .int .i64 p.2.1.2.2.1, .int .i64 p.2.1.2.2.2, .int .i64 p.2.2.1, .string p.2.2.2.1, .int .i64 p.2.2.2.2.1, .int .i64 p.2.2.2.2.2] 111) = w2 at hL hG hH hR ⊢
  have c0 : w2.cell? ⟨w.heap.size + 1, 0, none⟩ = some (.string p.1) := hL.cell 0
  go_wp2_with fail
  refine (rkey_c _ _ hs1').mono ?_; rintro e w' ⟨rfl, hGk⟩
  have hL := hL.quiet hGk
  have hH := hH.quiet hGk
  have hR := hR.quiet hGk
  have hG := hG.trans hGk
  clear hGk c0
  have HO := Lib.hid (hL.part 1 #[.int .i64 p.2.1.1, .string p.2.1.2.1, .int .i64 p.2.1.2.2.1, .int .i64 p.2.1.2.2.2] (lg_out p))
  cases k1 : keyB p.1 with
  | false =>
    have HF : Hid (E = 5) := Lib.hid (by rw [HE.out, if_pos k1])
    clear k1
    go_wp2_with fail
    go_ret
    exact ⟨ret_int HF.out.symm, hG⟩
  | true =>
    have HE1 : Hid (E = if rgE p.2.1 = 0 then (if beE h.2.2.1 (prevAt l k) p = 0 then enE (l.drop (k + 1)).isEmpty p else beE h.2.2.1 (prevAt l k) p) else rgE p.2.1) := Lib.hid (by rw [HE.out, if_neg (by simp [k1])])
    clear k1 HE
    go_wp2_with (refine wpList_load_at rfl 57 _ rfl ⟨w.heap.size + 1, 1, none⟩ rfl #[.int .i64 p.2.1.1, .string p.2.1.2.1, .int .i64 p.2.1.2.2.1, .int .i64 p.2.1.2.2.2] _ HO.out Tryd.underlying57 rfl (rg_info p.2.1) ?_)
    refine (readingFault_c p.2.1 _ hs2).mono ?_; rintro e w4 ⟨rfl, hG4⟩
    have hL := hL.quiet hG4
    have hH := hH.quiet hG4
    have hR := hR.quiet hG4
    have hG := hG.trans hG4
    clear hG4 HO
    obtain ⟨R, hRR⟩ : ∃ R, rgE p.2.1 = R := ⟨_, rfl⟩
    rw [hRR] at HE1 ⊢
    clear hRR
    by_cases k2 : R = 0
    · have HE2 : Hid (E = if beE h.2.2.1 (prevAt l k) p = 0 then enE (l.drop (k + 1)).isEmpty p else beE h.2.2.1 (prevAt l k) p) := Lib.hid (by rw [HE1.out, if_pos k2])
      subst k2
      clear HE1
      obtain ⟨B, hB⟩ : ∃ B, beE h.2.2.1 (prevAt l k) p = B := ⟨_, rfl⟩
      rw [hB] at HE2
      have HBB := Lib.hid hB
      clear hB
      -- the beginning: meets again where it is none
      have c0 : w4.cell? ⟨w.heap.size + 1, 0, none⟩ = some (.string p.1) := hL.cell 0
      have c1 : w4.cell? ⟨w.heap.size + 1, 1, none⟩ = some (.int .i64 p.2.1.1) := hL.cell 1
      have c2 : w4.cell? ⟨w.heap.size + 1, 2, none⟩ = some (.string p.2.1.2.1) := hL.cell 2
      have d2 : w4.cell? ⟨w.heap.size, 2, none⟩ = some (.int .i64 h.2.2.1) := hH.cell 2
      have d4 : w4.cell? ⟨w.heap.size, 4, none⟩ = some (.slice (some ⟨bb, bo, none⟩) l.length cap) := hH.cell 4
      go_upto_if 25 with fail
      go_cut [] from 26 (fun w5 => B = 0 ∧ Bk w5 (w.heap.size + 1) 111 (lgC p) ∧ Bk w5 w.heap.size 61 #[.string h.1, .string h.2.1, .int .i64 h.2.2.1, .int .i64 h.2.2.2, .slice (some ⟨bb, bo, none⟩) l.length cap] ∧ G w w5 none)
      case first =>
        cases k with
        | zero =>
          by_cases hq : p.2.1.1 = h.2.2.1
          · have HF : Hid (B = 0) := Lib.hid (by rw [← HBB.out]; exact if_pos hq)
            go_wp2_with fail
            go_meet
            case rel => exact ⟨HF.out, hL, hH, hG⟩
          · have hB : B = 7 := by rw [← HBB.out]; exact if_neg hq
            have HF : Hid (E = 7) := Lib.hid (by rw [HE2.out, hB, if_neg (by decide)])
            clear hB
            go_wp2_with fail
            go_ret
            exact ⟨ret_int HF.out.symm, hG⟩
        | succ m =>
          obtain ⟨q, hq2⟩ : ∃ q, l[m]? = some q := ⟨_, List.getElem?_eq_getElem (by omega)⟩
          have HA : Hid (B = if p.2.1.1 = q.2.2.1 then (if p.1 = q.1 then 16 else if p.2.1.2.1 = q.2.2.2.1 then 0 else 8) else 7) := Lib.hid (by rw [← HBB.out, prevAt_succ l m q hq2]; rfl)
          have hsub : IntKind.i64.wrap (((m + 1 : Nat) : Int) - 1) = (m : Int) := by rw [show ((m + 1 : Nat) : Int) - 1 = (m : Int) by omega]; rw [IntKind.wrap_i64]; omega
          have hsub2 : IntKind.i64.wrap (m : Int) = (m : Int) := by rw [IntKind.wrap_i64]; omega
          have hsub3 : IntKind.i64.wrap ((m : Int) + 1 - 1) = (m : Int) := by rw [IntKind.wrap_i64]; omega
          have hm0 : (0 : Int) ≤ (m : Int) := Int.natCast_nonneg m
          have hml : (m : Int) < (l.length : Int) := by omega
          have hne : (((m + 1 : Nat) : Int) == 0) = false := by simp; omega
          have hne2 : ((m : Int) + 1 == 0) = false := by simp; omega
          have HW := Lib.hid (lgRow hR (G.refl _ none) hq2)
          have hHH := Lib.hid hH
          clear HBB hq2 c0 c1 c2 d2 hH
          go_upto_region 11 with (refine wpList_load_at rfl 111 _ rfl ⟨bb, bo + m * 9, none⟩ rfl #[.string q.1, .int .i64 q.2.1.1, .string q.2.1.2.1, .int .i64 q.2.1.2.2.1, .int .i64 q.2.1.2.2.2, .int .i64 q.2.2.1, .string q.2.2.2.1, .int .i64 q.2.2.2.2.1, .int .i64 q.2.2.2.2.2] _ HW.out Tryd.underlying111 rfl (lg_info q) ?_)
          have hQ := Bk.new w4 111 (lgC q)
          have hG := hG.alloc (.cells (lgC q) 111)
          have hL := hL.alloc (.cells (lgC q) 111)
          have hH := hHH.out.alloc (.cells (lgC q) 111)
          rw [show #[.string q.1, .int .i64 q.2.1.1, .string q.2.1.2.1, .int .i64 q.2.1.2.2.1, .int .i64 q.2.1.2.2.2, .int .i64 q.2.2.1, .string q.2.2.2.1, .int .i64 q.2.2.2.2.1, .int .i64 q.2.2.2.2.2] = lgC q from rfl]
          generalize w4.alloc (.cells (lgC q) 111) = w3 at hQ hG hL hH ⊢
          generalize w4.heap.size = g at hQ ⊢
          have c0 : w3.cell? ⟨w.heap.size + 1, 0, none⟩ = some (.string p.1) := hL.cell 0
          have c1 : w3.cell? ⟨w.heap.size + 1, 1, none⟩ = some (.int .i64 p.2.1.1) := hL.cell 1
          have c2 : w3.cell? ⟨w.heap.size + 1, 2, none⟩ = some (.string p.2.1.2.1) := hL.cell 2
          have q0 : w3.cell? ⟨g, 0, none⟩ = some (.string q.1) := hQ.cell 0
          have q5 : w3.cell? ⟨g, 5, none⟩ = some (.int .i64 q.2.2.1) := hQ.cell 5
          have q6 : w3.cell? ⟨g, 6, none⟩ = some (.string q.2.2.2.1) := hQ.cell 6
          clear hQ d4
          by_cases k1 : p.2.1.1 = q.2.2.1
          · have HA1 : Hid (B = if p.1 = q.1 then 16 else if p.2.1.2.1 = q.2.2.2.1 then 0 else 8) := Lib.hid (by rw [HA.out, if_pos k1])
            have k1' : (p.2.1.1 != q.2.2.1) = false := by simpa using k1
            clear k1 HA
            by_cases k2 : p.1 = q.1
            · have hB : B = 16 := by rw [HA1.out, if_pos k2]
              have k2' : (p.1.toList == q.1.toList) = true := by rw [k2]; simp
              clear k2
              have HF : Hid (E = 16) := Lib.hid (by rw [HE2.out, hB, if_neg (by decide)])
              clear hB
              go_wp2_with fail
              go_ret
              exact ⟨ret_int HF.out.symm, hG⟩
            · have HA2 : Hid (B = if p.2.1.2.1 = q.2.2.2.1 then 0 else 8) := Lib.hid (by rw [HA1.out, if_neg k2])
              have k2' : (p.1.toList == q.1.toList) = false := by simpa using fun e => k2 (toList_ext e)
              clear k2 HA1
              by_cases k3 : p.2.1.2.1 = q.2.2.2.1
              · have HF : Hid (B = 0) := Lib.hid (by rw [HA2.out, if_pos k3])
                have k3' : (p.2.1.2.1.toList == q.2.2.2.1.toList) = true := by rw [k3]; simp
                have k3n : (p.2.1.2.1.toList != q.2.2.2.1.toList) = false := by rw [k3]; simp
                clear k3
                go_wp2_with fail
                go_meet
                case rel => exact ⟨HF.out, hL, hH, hG⟩
              · have hB : B = 8 := by rw [HA2.out, if_neg k3]
                have k3' : (p.2.1.2.1.toList == q.2.2.2.1.toList) = false := by simpa using fun e => k3 (toList_ext e)
                have k3n : (p.2.1.2.1.toList != q.2.2.2.1.toList) = true := by simpa using fun e => k3 (toList_ext e)
                clear k3
                have HF : Hid (E = 8) := Lib.hid (by rw [HE2.out, hB, if_neg (by decide)])
                clear hB
                go_wp2_with fail
                go_ret
                exact ⟨ret_int HF.out.symm, hG⟩
          · have hB : B = 7 := by rw [HA.out, if_neg k1]
            have k1' : (p.2.1.1 != q.2.2.1) = true := by simpa using k1
            clear k1
            have HF : Hid (E = 7) := Lib.hid (by rw [HE2.out, hB, if_neg (by decide)])
            clear hB
            go_wp2_with fail
            go_ret
            exact ⟨ret_int HF.out.symm, hG⟩
      case rest =>
        obtain ⟨hB0, hL, hH, hG⟩ := hcut
        have HE : Hid (E = if p.2.2.1 = -1 then (if p.2.2 = noIn then (if decide (l.length ≤ k + 1) = true then 0 else 11) else 3) else if rgE p.2.2 = 0 then (if p.2.2.1 ≤ p.2.1.1 then 7 else 0) else rgE p.2.2) := Lib.hid (by rw [HE2.out, if_pos hB0, drop_empty]; rfl)
        clear hB0 HE2 HBB c0 c1 c2 d2 d4 hR
        generalize wc = w3 at hL hH hG ⊢
        have HP := Lib.hid (hL.part 5 #[.int .i64 p.2.2.1, .string p.2.2.2.1, .int .i64 p.2.2.2.2.1, .int .i64 p.2.2.2.2.2] (lg_in p))
        have c1 : w3.cell? ⟨w.heap.size + 1, 1, none⟩ = some (.int .i64 p.2.1.1) := hL.cell 1
        have c5 : w3.cell? ⟨w.heap.size + 1, 5, none⟩ = some (.int .i64 p.2.2.1) := hL.cell 5
        have d4 : w3.cell? ⟨w.heap.size, 4, none⟩ = some (.slice (some ⟨bb, bo, none⟩) l.length cap) := hH.cell 4
        clear hH
        by_cases k1 : p.2.2.1 = -1
        · have k1' : (p.2.2.1 == -1) = true := by simpa using k1
          have HN := fun w : World => rg_neq p.2.2 noIn w
          by_cases k2 : p.2.2 = noIn
          · have HNN : Hid (∀ w : World, (binOp .neq 57 (.agg #[.int .i64 p.2.2.1, .string p.2.2.2.1, .int .i64 p.2.2.2.2.1, .int .i64 p.2.2.2.2.2]) (.agg #[.int .i64 (-1), .string ⟨#[]⟩, .int .i64 0, .int .i64 0])).run Tryd.prog w = .ok (.bool false) w) := Lib.hid fun w => by
              have := HN w
              rw [decide_eq_true k2] at this
              exact this
            have hnn := HNN.out
            have HE : Hid (E = if decide (l.length ≤ k + 1) = true then 0 else 11) := Lib.hid (by rw [HE.out, if_pos k1, if_pos k2])
            have hl1 : IntKind.i64.wrap ((l.length : Int) - 1) = (l.length : Int) - 1 := by rw [IntKind.wrap_i64]; omega
            clear k1 k2 HN HNN
            by_cases k3 : l.length ≤ k + 1
            · have HF : Hid (E = 0) := Lib.hid (by rw [HE.out, if_pos (decide_eq_true k3)])
              have k3' : ¬ ((k : Int) < (l.length : Int) - 1) := by omega
              clear k3
              go_wp2_with (refine wpList_load_at rfl 57 _ rfl ⟨w.heap.size + 1, 5, none⟩ rfl #[.int .i64 p.2.2.1, .string p.2.2.2.1, .int .i64 p.2.2.2.2.1, .int .i64 p.2.2.2.2.2] _ HP.out Tryd.underlying57 rfl (rg_info p.2.2) ?_)
              go_ret
              exact ⟨ret_int HF.out.symm, hG⟩
            · have HF : Hid (E = 11) := Lib.hid (by rw [HE.out, if_neg (by simpa using k3)])
              have k3' : (k : Int) < (l.length : Int) - 1 := by omega
              clear k3
              go_wp2_with (refine wpList_load_at rfl 57 _ rfl ⟨w.heap.size + 1, 5, none⟩ rfl #[.int .i64 p.2.2.1, .string p.2.2.2.1, .int .i64 p.2.2.2.2.1, .int .i64 p.2.2.2.2.2] _ HP.out Tryd.underlying57 rfl (rg_info p.2.2) ?_)
              go_ret
              exact ⟨ret_int HF.out.symm, hG⟩
          · have HNN : Hid (∀ w : World, (binOp .neq 57 (.agg #[.int .i64 p.2.2.1, .string p.2.2.2.1, .int .i64 p.2.2.2.2.1, .int .i64 p.2.2.2.2.2]) (.agg #[.int .i64 (-1), .string ⟨#[]⟩, .int .i64 0, .int .i64 0])).run Tryd.prog w = .ok (.bool true) w) := Lib.hid fun w => by
              have := HN w
              rw [decide_eq_false k2] at this
              exact this
            have hnn := HNN.out
            have HF : Hid (E = 3) := Lib.hid (by rw [HE.out, if_pos k1, if_neg k2])
            clear HE k1 k2 HN HNN
            go_wp2_with (refine wpList_load_at rfl 57 _ rfl ⟨w.heap.size + 1, 5, none⟩ rfl #[.int .i64 p.2.2.1, .string p.2.2.2.1, .int .i64 p.2.2.2.2.1, .int .i64 p.2.2.2.2.2] _ HP.out Tryd.underlying57 rfl (rg_info p.2.2) ?_)
            go_ret
            exact ⟨ret_int HF.out.symm, hG⟩
        · have k1' : (p.2.2.1 == -1) = false := by simpa using k1
          have HE : Hid (E = if rgE p.2.2 = 0 then (if p.2.2.1 ≤ p.2.1.1 then 7 else 0) else rgE p.2.2) := Lib.hid (by rw [HE.out, if_neg k1])
          clear k1
          go_wp2_with (refine wpList_load_at rfl 57 _ rfl ⟨w.heap.size + 1, 5, none⟩ rfl #[.int .i64 p.2.2.1, .string p.2.2.2.1, .int .i64 p.2.2.2.2.1, .int .i64 p.2.2.2.2.2] _ HP.out Tryd.underlying57 rfl (rg_info p.2.2) ?_)
          refine (readingFault_c p.2.2 _ hs3).mono ?_; rintro e w4 ⟨rfl, hG4⟩
          have hL := hL.quiet hG4
          have hG := hG.trans hG4
          clear hG4 c1 c5 d4 HP
          have c1 : w4.cell? ⟨w.heap.size + 1, 1, none⟩ = some (.int .i64 p.2.1.1) := hL.cell 1
          have c5 : w4.cell? ⟨w.heap.size + 1, 5, none⟩ = some (.int .i64 p.2.2.1) := hL.cell 5
          obtain ⟨R, hR⟩ : ∃ R, rgE p.2.2 = R := ⟨_, rfl⟩
          rw [hR] at HE ⊢
          clear hR
          by_cases k2 : R = 0
          · have HE5 : Hid (E = if p.2.2.1 ≤ p.2.1.1 then 7 else 0) := Lib.hid (by rw [HE.out, if_pos k2])
            subst k2
            by_cases k3 : p.2.2.1 ≤ p.2.1.1
            · have HF : Hid (E = 7) := Lib.hid (by rw [HE5.out, if_pos k3])
              go_wp2_with fail
              go_ret
              exact ⟨ret_int HF.out.symm, hG⟩
            · have HF : Hid (E = 0) := Lib.hid (by rw [HE5.out, if_neg k3])
              go_wp2_with fail
              go_ret
              exact ⟨ret_int HF.out.symm, hG⟩
          · have HF : Hid (E = R) := Lib.hid (by rw [HE.out, if_neg k2])
            have k2' : (R != 0) = true := by simpa using k2
            clear k2
            go_wp2_with fail
            go_ret
            exact ⟨ret_int HF.out.symm, hG⟩
    · have HF : Hid (E = R) := Lib.hid (by rw [HE1.out, if_neg k2])
      have k2' : (R != 0) = true := by simpa using k2
      clear k2 HE1
      go_wp2_with fail
      go_ret
      exact ⟨ret_int HF.out.symm, hG⟩
set_option maxRecDepth 100000 in
set_option maxHeartbeats 4000000 in
theorem hireFault_c (h : Hh) (v : Value) (l : List Lg) (w : World) (hr : RdR w 9 lgC v l) (hl : LgOk l) (hs1 : Small h.1) (hs2 : Small h.2.1) (hb1 : bnd h.2.2.1) (hb2 : bnd h.2.2.2) (hn : l.length ≤ 1000) :
    Calls Tryd.prog 101 #[.agg (hiC h v)] w fun e w' => e = .returned (.int .i64 (hiE h l)) ∧ G w w' none := by
  have hH := Bk.new w 61 (hiC h v)
  have hG := (G.refl w none).alloc (.cells (hiC h v) 61)
  have hR := hr.quiet hG
  obtain ⟨a, cap, rfl, hcap, hm⟩ := RdR.form hr
  clear hr
  unfold Small at hs1 hs2
  obtain ⟨E, hE⟩ : ∃ E, hiE h l = E := ⟨_, rfl⟩
  have HE : Hid (E = if keyB h.1 = false then 5 else if keyB h.2.1 = false then 5 else if tE h.2.2.1 h.2.2.2 = 0 then (if l.length = 0 then 3 else if 20 < l.length then 2 else lsE h.2.2.1 none l) else tE h.2.2.1 h.2.2.2) := Lib.hid hE.symm
  rw [hE]
  clear hE
  simp only [hiC] at hH hG hR ⊢
  go_enter Tryd.func101, Tryd.ntmps101
  go_upto_region 1 with fail
  generalize w.alloc (.cells #[.string h.1, .string h.2.1, .int .i64 h.2.2.1, .int .i64 h.2.2.2, .slice a l.length cap] 61) = w2 at hG hH hR ⊢
  have hg := hH.lt
  generalize w.heap.size = g at hH hg ⊢
  have c0 : w2.cell? ⟨g, 0, none⟩ = some (.string h.1) := hH.cell 0
  have c1 : w2.cell? ⟨g, 1, none⟩ = some (.string h.2.1) := hH.cell 1
  go_wp2_with fail
  refine (rkey_c _ _ hs1).mono ?_; rintro e w' ⟨rfl, hGk⟩
  have hH := hH.quiet hGk
  have hR := hR.quiet hGk
  have hG := hG.trans hGk
  clear hGk c0 c1
  have c1 : w'.cell? ⟨g, 1, none⟩ = some (.string h.2.1) := hH.cell 1
  cases k1 : keyB h.1 with
  | false =>
    have HF : Hid (E = 5) := Lib.hid (by rw [HE.out, if_pos k1])
    clear k1
    go_wp2_with fail
    go_ret
    exact ⟨ret_int HF.out.symm, hG⟩
  | true =>
    have K1 := Lib.hid k1
    clear k1
    go_wp2_with fail
    refine (rkey_c _ _ hs2).mono ?_; rintro e w4 ⟨rfl, hGk⟩
    have hH := hH.quiet hGk
    have hR := hR.quiet hGk
    have hG := hG.trans hGk
    clear hGk c1
    cases k2 : keyB h.2.1 with
    | false =>
      have HF : Hid (E = 5) := Lib.hid (by rw [HE.out, if_neg (by simp [K1.out]), if_pos k2])
      clear k2
      go_wp2_with fail
      go_ret
      exact ⟨ret_int HF.out.symm, hG⟩
    | true =>
      have HE1 : Hid (E = if tE h.2.2.1 h.2.2.2 = 0 then (if l.length = 0 then 3 else if 20 < l.length then 2 else lsE h.2.2.1 none l) else tE h.2.2.1 h.2.2.2) := Lib.hid (by rw [HE.out, if_neg (by simp [K1.out]), if_neg (by simp [k2])])
      clear k2 HE
      have HT := Lib.hid (hH.part 2 #[.int .i64 h.2.2.1, .int .i64 h.2.2.2] (hi_time h _))
      go_wp2_with (refine wpList_load_at rfl 31 _ rfl ⟨g, 2, none⟩ rfl #[.int .i64 h.2.2.1, .int .i64 h.2.2.2] _ HT.out Tryd.underlying31 rfl (wi_info _ _) ?_)
      refine (timeFault_c _ _ _ hb1 hb2).mono ?_; rintro e w3 ⟨rfl, hG3⟩
      have hH := hH.quiet hG3
      have hR := hR.quiet hG3
      have hG := hG.trans hG3
      clear hG3 HT
      obtain ⟨T, hT⟩ : ∃ T, tE h.2.2.1 h.2.2.2 = T := ⟨_, rfl⟩
      rw [hT] at HE1 ⊢
      clear hT
      by_cases k3 : T = 0
      · have HE2 : Hid (E = if l.length = 0 then 3 else if 20 < l.length then 2 else lsE h.2.2.1 none l) := Lib.hid (by rw [HE1.out, if_pos k3])
        subst k3
        clear HE1
        have c4 : w3.cell? ⟨g, 4, none⟩ = some (.slice a l.length cap) := hH.cell 4
        by_cases k4 : l.length = 0
        · have HF : Hid (E = 3) := Lib.hid (by rw [HE2.out, if_pos k4])
          have k4' : ((l.length : Int) == 0) = true := by rw [k4]; rfl
          clear k4
          go_wp2_with fail
          go_ret
          exact ⟨ret_int HF.out.symm, hG⟩
        · have k4' : ((l.length : Int) == 0) = false := by rw [beq_eq_false_iff_ne]; omega
          by_cases k5 : 20 < l.length
          · have HF : Hid (E = 2) := Lib.hid (by rw [HE2.out, if_neg k4, if_pos k5])
            have k5' : (20 : Int) < (l.length : Int) := by omega
            clear k5 k4
            go_wp2_with fail
            go_ret
            exact ⟨ret_int HF.out.symm, hG⟩
          · have HE3 : Hid (E = lsE h.2.2.1 none l) := Lib.hid (by rw [HE2.out, if_neg k4, if_neg k5])
            have k5' : ¬ (20 : Int) < (l.length : Int) := by omega
            clear k5 k4 HE2
            have HHH := Lib.hid hH
            have HRR := Lib.hid hR
            clear hH hR
            go_wp2_with fail
            go_loopw [35] (LsRel w3 h.2.2.1 l) (fun i _ => l.length - (intOf i).toNat)
            case atStart => exact ⟨0, by omega, rfl, rfl, G.refl _ _⟩
            case round =>
              obtain ⟨k, hkl, rfl, heq, hGr⟩ := hrel
              have HEq := Lib.hid heq
              clear heq c4
              have hH := HHH.out.quiet hGr
              have hR := HRR.out.quiet hGr
              by_cases hk : k < l.length
              · obtain ⟨p, hp⟩ : ∃ p, l[k]? = some p := ⟨_, List.getElem?_eq_getElem hk⟩
                have hdrop : l.drop k = p :: l.drop (k + 1) := by rw [List.drop_eq_getElem_cons hk, ← (List.getElem?_eq_some_iff.1 hp).2]
                have HS : Hid (lsE h.2.2.1 none l = if lgE h.2.2.1 (prevAt l k) (l.drop (k + 1)).isEmpty p = 0 then lsE h.2.2.1 (some p) (l.drop (k + 1)) else lgE h.2.2.1 (prevAt l k) (l.drop (k + 1)).isEmpty p) := Lib.hid (by rw [HEq.out, hdrop]; rfl)
                have hpb := hl p (List.mem_of_getElem? hp)
                have HP := Lib.hid hp
                have HK := Lib.hid hk
                have hki : (k : Int) < (l.length : Int) := by omega
                clear hdrop hp
                go_wp2_with (refine wpList_load_row rfl 61 _ rfl g rfl 61 #[.string h.1, .string h.2.1, .int .i64 h.2.2.1, .int .i64 h.2.2.2, .slice a l.length cap] (0, 0) _ hH Tryd.underlying61 rfl (hi_info h _) ?_)
                refine (legFault_c h _ l k p _ hR HP.out hpb hn).mono ?_; rintro e w5 ⟨rfl, hG5⟩
                have hGr5 := hGr.trans hG5
                clear hG5 hGr hH hR hpb
                obtain ⟨L, hL⟩ : ∃ L, lgE h.2.2.1 (prevAt l k) (l.drop (k + 1)).isEmpty p = L := ⟨_, rfl⟩
                rw [hL] at HS ⊢
                clear hL
                by_cases k6 : L = 0
                · have HF : Hid (lsE h.2.2.1 none l = lsE h.2.2.1 (prevAt l (k + 1)) (l.drop (k + 1))) := Lib.hid (by rw [HS.out, if_pos k6, prevAt_succ l k p HP.out])
                  subst k6
                  clear HS
                  go_wp2_with fail
                  go_roundw
                  case rel => exact ⟨k + 1, by omega, by go_num, HF.out, hGr5⟩
                  case measure => have := HK.out; simp [intOf]; omega
                · have HF : Hid (E = L) := Lib.hid (by rw [HE3.out, HS.out, if_neg k6])
                  have k6' : (L != 0) = true := by simpa using k6
                  clear k6 HS
                  go_wp2_with fail
                  go_ret
                  exact ⟨ret_int HF.out.symm, hG.trans hGr5⟩
              · obtain rfl : k = l.length := by omega
                have HF : Hid (E = 0) := Lib.hid (by rw [HE3.out, HEq.out, List.drop_length]; rfl)
                go_wp2_with fail
                go_ret
                exact ⟨ret_int HF.out.symm, hG.trans hGr⟩
      · have HF : Hid (E = T) := Lib.hid (by rw [HE1.out, if_neg k3])
        have k3' : (T != 0) = true := by simpa using k3
        clear k3 HE1
        go_wp2_with fail
        go_ret
        exact ⟨ret_int HF.out.symm, hG⟩
end Go.Proofs.YtbieiefbgcgogaaDoor

/- Hires: openLeg, right, Start; made, StartOf. -/
namespace Go.Proofs.YtbieiefbgcgogaaDoor
open Go.RowKit

def hiZ : Array Value := hiC (⟨#[]⟩, ⟨#[]⟩, 0, 0) (.slice none 0 0)
/-- What is returned of a hire: itself, or none. -/
def hiH (E : Int) (h : Hh) : Hh := if E = 0 then h else (⟨#[]⟩, ⟨#[]⟩, 0, 0)
def hiL (E : Int) (l : List Lg) : List Lg := if E = 0 then l else []
def MadePost (h : Hh) (l : List Lg) (B : Nat → Prop) (w : World) (e : Ending) (w' : World) : Prop :=
  ∃ (H : Hh) (a : Option Addr) (n c : Nat), e = .returned (.tuple #[.agg #[.string H.1, .string H.2.1, .int .i64 H.2.2.1, .int .i64 H.2.2.2, .slice a n c], .int .i64 (hiE h l)]) ∧ H = hiH (hiE h l) h ∧ (∀ k, (Value.slice a n c).ownBlock = some k → B k) ∧ RdR w' 9 lgC (.slice a n c) (hiL (hiE h l) l) ∧ G w w' none
/-- A row's block is there. -/
theorem Rd.blk {w : World} {z : Nat} {v : Value} {n : Nat} {cs : List Value} (h : Rd w z v n cs) : ∀ k, v.ownBlock = some k → k < w.heap.size := by
  obtain ⟨a, c, rfl, h1, h2, h3, h4, h5⟩ := h
  intro k hk
  cases a with
  | none => cases hk
  | some b =>
    have := (h5 b rfl).2.1
    cases hk
    exact this
theorem hi_one (h : Hh) (a : Option Addr) (n c : Nat) : (hiC h (.slice a n c)).all (·.oneCell') = true := by simp [hiC, Value.oneCell']
theorem lg_one (x : Lg) : (lgC x).all (·.oneCell') = true := by simp [lgC, Value.oneCell']
/-- Two results, the first a struct that lies in memory. -/
theorem results_cell_hi {P : Program} {fn : Func} {p u : Tmp} {ty : TypeId} (h : fn.results = #[.cell p ty, .tmp u]) (tmps : Array Value) (w : World) (g : Nat) (t : TypeId) (cs : Array Value) (fr : Nat × Nat) (d : TypeDesc)
    (hp : tmps.getD p undef = .pointer (some ⟨g, 0, none⟩)) (hg : w.heap[g]? = some (.cells cs t fr))
    (hu : P.underlying ty = some d) (hd : (match d with | .struct _ | .array _ _ => true | _ => false) = true) (hi : (P.info? ty).map (·.size) = some cs.size) :
    (results fn tmps).run P w = .ok (.tuple #[.agg cs, tmps.getD u undef]) w := by
  have hp' : tmps[p]?.getD undef = .pointer (some ⟨g, 0, none⟩) := by simpa using hp
  simp [results, h, hp', asAddr, run_loadVar_row w g t ty cs fr d hg hu hd hi]
set_option maxRecDepth 100000 in
set_option maxHeartbeats 4000000 in
theorem right_c (h : Hh) (v : Value) (l : List Lg) (w : World) (hr : RdR w 9 lgC v l) (hl : LgOk l) (hs1 : Small h.1) (hs2 : Small h.2.1) (hb1 : bnd h.2.2.1) (hb2 : bnd h.2.2.2) (hn : l.length ≤ 1000) :
    Calls Tryd.prog 73 #[.agg (hiC h v)] w (MadePost h l (fun k => v.ownBlock = some k) w) := by
  have hH := (Bk.new w 61 (hiC h v)).alloc (.cells hiZ 61)
  have hG := ((G.refl w none).alloc (.cells (hiC h v) 61)).alloc (.cells hiZ 61)
  have hZ := Bk.newAt (w := w.alloc (.cells (hiC h v) 61)) (b := w.heap.size + 1) (by simp) 61 hiZ
  have hR := hr.quiet hG
  have HLO := Lib.hid hr.blk
  obtain ⟨a, cap, rfl, hcap, hm⟩ := RdR.form hr
  clear hr
  simp only [hiC, hiZ] at hH hG hR hZ ⊢
  go_enter Tryd.func73, Tryd.ntmps73
  go_upto_region 1 with fail
  generalize (w.alloc (.cells #[.string h.1, .string h.2.1, .int .i64 h.2.2.1, .int .i64 h.2.2.2, .slice a l.length cap] 61)).alloc (.cells #[.string ⟨#[]⟩, .string ⟨#[]⟩, .int .i64 0, .int .i64 0, .slice none 0 0] 61) = w2 at hG hH hR hZ ⊢
  go_wp2_with (refine wpList_load_row rfl 61 _ rfl w.heap.size rfl 61 #[.string h.1, .string h.2.1, .int .i64 h.2.2.1, .int .i64 h.2.2.2, .slice a l.length cap] (0, 0) _ hH Tryd.underlying61 rfl (hi_info h _) ?_)
  refine (check_c h _ l _ hR hl hs1 hs2 hb1 hb2 hn).mono ?_; rintro e w3 ⟨rfl, hG3⟩
  have hH := hH.quiet hG3
  have hZ := hZ.quiet hG3
  have hG := hG.trans hG3
  have hR := hR.quiet hG3
  clear hG3
  obtain ⟨E, hE⟩ : ∃ E, hiE h l = E := ⟨_, rfl⟩
  have HFIN : Hid (hiE h l = E) := Lib.hid hE
  rw [hE]
  clear hE
  by_cases k1 : E = 0
  · subst k1
    go_wp2_with (first | (refine wpList_load_row rfl 61 _ rfl w.heap.size rfl 61 #[.string h.1, .string h.2.1, .int .i64 h.2.2.1, .int .i64 h.2.2.2, .slice a l.length cap] (0, 0) _ hH Tryd.underlying61 rfl (hi_info h _) ?_) | (refine wpList_store_row rfl 61 _ _ rfl (w.heap.size + 1) #[.string h.1, .string h.2.1, .int .i64 h.2.2.1, .int .i64 h.2.2.2, .slice a l.length cap] rfl rfl 61 _ hZ (hi_info _ _) rfl (hi_one h _ _ _) ?_))
    refine bodyPost_ret (results_cell_hi rfl _ _ (w.heap.size + 1) 61 #[.string h.1, .string h.2.1, .int .i64 h.2.2.1, .int .i64 h.2.2.2, .slice a l.length cap] (0, 0) _ rfl (hZ.setRow _) Tryd.underlying61 rfl (hi_info h _)) rfl ?_
    exact ⟨h, a, l.length, cap, by rw [HFIN.out]; rfl, by rw [HFIN.out]; rfl, fun _ hk => hk, by rw [HFIN.out]; exact hR.grown ((G.refl w3 (some (w.heap.size + 1))).setRow (.inr rfl) _) (fun k e hk => by cases e; have := HLO.out _ hk; omega), hG.setRow (.inl (by omega)) _⟩
  · have k1' : (E != 0) = true := by simpa using k1
    have K1 := Lib.hid k1
    clear k1
    go_wp2_with (refine wpList_store_row rfl 61 _ _ rfl (w.heap.size + 1) #[.string ⟨#[]⟩, .string ⟨#[]⟩, .int .i64 0, .int .i64 0, .slice none 0 0] rfl rfl 61 _ hZ (hi_info (⟨#[]⟩, ⟨#[]⟩, 0, 0) (.slice none 0 0)) rfl (hi_one (⟨#[]⟩, ⟨#[]⟩, 0, 0) _ _ _) ?_)
    refine bodyPost_ret (results_cell_hi rfl _ _ (w.heap.size + 1) 61 #[.string ⟨#[]⟩, .string ⟨#[]⟩, .int .i64 0, .int .i64 0, .slice none 0 0] (0, 0) _ rfl (hZ.setRow _) Tryd.underlying61 rfl (hi_info (⟨#[]⟩, ⟨#[]⟩, 0, 0) (.slice none 0 0))) rfl ?_
    exact ⟨(⟨#[]⟩, ⟨#[]⟩, 0, 0), none, 0, 0, by rw [HFIN.out]; rfl, by rw [HFIN.out, hiH, if_neg K1.out], fun _ hk => (by cases hk), by rw [HFIN.out, hiL, if_neg K1.out]; exact RdR.nil _ _ _, hG.setRow (.inl (by omega)) _⟩
set_option maxRecDepth 100000 in
set_option maxHeartbeats 4000000 in
theorem made_c (h : Hh) (v : Value) (l : List Lg) (w : World) (hr : RdR w 9 lgC v l) (hl : LgOk l) (hs1 : Small h.1) (hs2 : Small h.2.1) (hb1 : bnd h.2.2.1) (hb2 : bnd h.2.2.2) (hn : l.length ≤ 1000) :
    Calls Tryd.prog 75 #[.agg (hiC h v)] w (MadePost h l (fun k => v.ownBlock = some k) w) := by
  have hH := (Bk.new w 61 (hiC h v)).alloc (.cells hiZ 61)
  have hG := ((G.refl w none).alloc (.cells (hiC h v) 61)).alloc (.cells hiZ 61)
  have hZ := Bk.newAt (w := w.alloc (.cells (hiC h v) 61)) (b := w.heap.size + 1) (by simp) 61 hiZ
  have hR := hr.quiet hG
  have HLO := Lib.hid hr.blk
  obtain ⟨a, cap, rfl, hcap, hm⟩ := RdR.form hr
  clear hr
  simp only [hiC, hiZ] at hH hG hR hZ ⊢
  go_enter Tryd.func75, Tryd.ntmps75
  go_upto_region 1 with fail
  generalize (w.alloc (.cells #[.string h.1, .string h.2.1, .int .i64 h.2.2.1, .int .i64 h.2.2.2, .slice a l.length cap] 61)).alloc (.cells #[.string ⟨#[]⟩, .string ⟨#[]⟩, .int .i64 0, .int .i64 0, .slice none 0 0] 61) = w2 at hG hH hR hZ ⊢
  go_wp2_with (refine wpList_load_row rfl 61 _ rfl w.heap.size rfl 61 #[.string h.1, .string h.2.1, .int .i64 h.2.2.1, .int .i64 h.2.2.2, .slice a l.length cap] (0, 0) _ hH Tryd.underlying61 rfl (hi_info h _) ?_)
  refine (hireFault_c h _ l _ hR hl hs1 hs2 hb1 hb2 hn).mono ?_; rintro e w3 ⟨rfl, hG3⟩
  have hH := hH.quiet hG3
  have hZ := hZ.quiet hG3
  have hG := hG.trans hG3
  have hR := hR.quiet hG3
  clear hG3
  obtain ⟨E, hE⟩ : ∃ E, hiE h l = E := ⟨_, rfl⟩
  have HFIN : Hid (hiE h l = E) := Lib.hid hE
  rw [hE]
  clear hE
  by_cases k1 : E = 0
  · subst k1
    go_wp2_with (first | (refine wpList_load_row rfl 61 _ rfl w.heap.size rfl 61 #[.string h.1, .string h.2.1, .int .i64 h.2.2.1, .int .i64 h.2.2.2, .slice a l.length cap] (0, 0) _ hH Tryd.underlying61 rfl (hi_info h _) ?_) | (refine wpList_store_row rfl 61 _ _ rfl (w.heap.size + 1) #[.string h.1, .string h.2.1, .int .i64 h.2.2.1, .int .i64 h.2.2.2, .slice a l.length cap] rfl rfl 61 _ hZ (hi_info _ _) rfl (hi_one h _ _ _) ?_))
    refine bodyPost_ret (results_cell_hi rfl _ _ (w.heap.size + 1) 61 #[.string h.1, .string h.2.1, .int .i64 h.2.2.1, .int .i64 h.2.2.2, .slice a l.length cap] (0, 0) _ rfl (hZ.setRow _) Tryd.underlying61 rfl (hi_info h _)) rfl ?_
    exact ⟨h, a, l.length, cap, by rw [HFIN.out]; rfl, by rw [HFIN.out]; rfl, fun _ hk => hk, by rw [HFIN.out]; exact hR.grown ((G.refl w3 (some (w.heap.size + 1))).setRow (.inr rfl) _) (fun k e hk => by cases e; have := HLO.out _ hk; omega), hG.setRow (.inl (by omega)) _⟩
  · have k1' : (E != 0) = true := by simpa using k1
    have K1 := Lib.hid k1
    clear k1
    go_wp2_with (refine wpList_store_row rfl 61 _ _ rfl (w.heap.size + 1) #[.string ⟨#[]⟩, .string ⟨#[]⟩, .int .i64 0, .int .i64 0, .slice none 0 0] rfl rfl 61 _ hZ (hi_info (⟨#[]⟩, ⟨#[]⟩, 0, 0) (.slice none 0 0)) rfl (hi_one (⟨#[]⟩, ⟨#[]⟩, 0, 0) _ _ _) ?_)
    refine bodyPost_ret (results_cell_hi rfl _ _ (w.heap.size + 1) 61 #[.string ⟨#[]⟩, .string ⟨#[]⟩, .int .i64 0, .int .i64 0, .slice none 0 0] (0, 0) _ rfl (hZ.setRow _) Tryd.underlying61 rfl (hi_info (⟨#[]⟩, ⟨#[]⟩, 0, 0) (.slice none 0 0))) rfl ?_
    exact ⟨(⟨#[]⟩, ⟨#[]⟩, 0, 0), none, 0, 0, by rw [HFIN.out]; rfl, by rw [HFIN.out, hiH, if_neg K1.out], fun _ hk => (by cases hk), by rw [HFIN.out, hiL, if_neg K1.out]; exact RdR.nil _ _ _, hG.setRow (.inl (by omega)) _⟩
set_option maxRecDepth 100000 in
set_option maxHeartbeats 2000000 in
theorem openLeg_c (s : ByteArray) (r : Rg) (w : World) : Calls Tryd.prog 74 #[.string s, .agg (rgC r)] w fun e w' => e = .returned (.agg (lgC (s, r, noIn))) ∧ G w w' none := by
  have hZ := Bk.newAt (w := w.alloc (.cells (rgC r) 57)) (b := w.heap.size + 1) (by simp) 111 (lgC (⟨#[]⟩, (0, ⟨#[]⟩, 0, 0), (0, ⟨#[]⟩, 0, 0)))
  have hB := (Bk.new w 57 (rgC r)).alloc (.cells (lgC (⟨#[]⟩, (0, ⟨#[]⟩, 0, 0), (0, ⟨#[]⟩, 0, 0))) 111)
  have hG := ((G.refl w none).alloc (.cells (rgC r) 57)).alloc (.cells (lgC (⟨#[]⟩, (0, ⟨#[]⟩, 0, 0), (0, ⟨#[]⟩, 0, 0))) 111)
  obtain ⟨r1, r2, r3, r4⟩ := r
  simp only [rgC, lgC, noIn] at hZ hB hG ⊢
  go_enter Tryd.func74, Tryd.ntmps74
  go_upto_region 1 with fail
  generalize (w.alloc (.cells #[.int .i64 r1, .string r2, .int .i64 r3, .int .i64 r4] 57)).alloc (.cells #[.string ⟨#[]⟩, .int .i64 0, .string ⟨#[]⟩, .int .i64 0, .int .i64 0, .int .i64 0, .string ⟨#[]⟩, .int .i64 0, .int .i64 0] 111) = w2 at hG hB hZ ⊢
  go_wp2_with (first | (refine wpList_load_row rfl 57 _ rfl w.heap.size rfl 57 #[.int .i64 r1, .string r2, .int .i64 r3, .int .i64 r4] (0, 0) _ hB Tryd.underlying57 rfl (rg_info (r1, r2, r3, r4)) ?_) | (refine wpList_store_row rfl 111 _ _ rfl (w.heap.size + 1) #[.string s, .int .i64 r1, .string r2, .int .i64 r3, .int .i64 r4, .int .i64 (-1), .string ⟨#[]⟩, .int .i64 0, .int .i64 0] rfl rfl 111 _ hZ (lg_info (s, (r1, r2, r3, r4), noIn)) rfl (lg_one (s, (r1, r2, r3, r4), noIn)) ?_))
  refine bodyPost_ret (results_cell_row rfl _ _ (w.heap.size + 1) 111 #[.string s, .int .i64 r1, .string r2, .int .i64 r3, .int .i64 r4, .int .i64 (-1), .string ⟨#[]⟩, .int .i64 0, .int .i64 0] (0, 0) _ rfl (hZ.setRow _) Tryd.underlying111 rfl (lg_info (s, (r1, r2, r3, r4), noIn))) rfl ?_
  exact ⟨rfl, hG.setRow (.inl (by omega)) _⟩
end Go.Proofs.YtbieiefbgcgogaaDoor

/- Steps of a region that draws its order, by hand. No program. -/
namespace Go.Proofs.YtbieiefbgcgogaaDoor
open Go.RowKit
section
variable {P : Program} {ops : Array Oper} {o : Oper} {a : Act} {w : World} {K : Act → World → Prop} {Q : Exit → Act → World → Prop} {E : Prop}
theorem st_val (hg : o.guard = none) {v : Value} {w' : World} (hr : (execOp a.eval o).run P w = .ok (.value v) w') (hK : K (a.put o.dst v) w') : if Region.wanted o (yielded ops a.tmps) = true then Oper.wp P o a w K Q else E := by
  rw [if_pos (by simp [Region.wanted, hg])]
  unfold Oper.wp
  rw [hr]
  exact hK
theorem st_wp (hg : o.guard = none) (h : Oper.wp P o a w K Q) : if Region.wanted o (yielded ops a.tmps) = true then Oper.wp P o a w K Q else E := by
  rw [if_pos (by simp [Region.wanted, hg])]
  exact h
theorem st_call (hg : o.guard = none) {f : FuncId} {args : Array Value} {w1 : World} (hr : (execOp a.eval o).run P w = .ok (.enter f args) w1) (hc : Calls P f args w1 fun e w' => ∃ v, e = .returned v ∧ K (a.put o.dst v) w') : if Region.wanted o (yielded ops a.tmps) = true then Oper.wp P o a w K Q else E := by
  rw [if_pos (by simp [Region.wanted, hg])]
  unfold Oper.wp
  rw [hr]
  refine hc.mono ?_
  rintro e w' ⟨v, rfl, hK⟩
  exact hK
theorem run_load_row {ty : TypeId} {x : Operand} (ho : o.op = .load ty x) (g : Nat) (hx : a.eval x = .pointer (some ⟨g, 0, none⟩)) (t : TypeId) (cs : Array Value) (d : TypeDesc) (hg : Bk w g t cs)
    (hu : P.underlying ty = some d) (hd : (match d with | .struct _ | .array _ _ => true | _ => false) = true) (hi : (P.info? ty).map (·.size) = some cs.size) : (execOp a.eval o).run P w = .ok (.value (.agg cs)) w := by
  unfold execOp
  simp only [ho, hx, Instr.loadAt, Instr.sureAddr, Sem.run_bind, Sem.run_pure, Result.andThen_ok, run_loadVar_row w g t ty cs (0, 0) d hg hu hd hi]
/-- One that may come up, and it alone. -/
theorem ready_one {md : Region.Mode} {fuel : Nat} {listed : Array Bool} {i : Nat} (hr : Region.ready md ops listed = [i]) (ho : ops[i]? = some o)
    (h : ∀ K' : Act → World → Prop, (∀ a w, wpAny P md ops Q fuel (listed.setIfInBounds i true) a w → K' a w) → if Region.wanted o (yielded ops a.tmps) = true then Oper.wp P o a w K' Q else K' (a.put o.dst undef) w) : wpAny P md ops Q (fuel + 1) listed a w :=
  wpAny_ready hr (by simp) (AllReady.cons ho h AllReady.nil)
theorem ready_two {md : Region.Mode} {fuel : Nat} {listed : Array Bool} {i j : Nat} {o2 : Oper} (hr : Region.ready md ops listed = [i, j]) (ho : ops[i]? = some o) (ho2 : ops[j]? = some o2)
    (h : ∀ K' : Act → World → Prop, (∀ a w, wpAny P md ops Q fuel (listed.setIfInBounds i true) a w → K' a w) → if Region.wanted o (yielded ops a.tmps) = true then Oper.wp P o a w K' Q else K' (a.put o.dst undef) w)
    (h2 : ∀ K' : Act → World → Prop, (∀ a w, wpAny P md ops Q fuel (listed.setIfInBounds j true) a w → K' a w) → if Region.wanted o2 (yielded ops a.tmps) = true then Oper.wp P o2 a w K' Q else K' (a.put o2.dst undef) w) : wpAny P md ops Q (fuel + 1) listed a w :=
  wpAny_ready hr (by simp) (AllReady.cons ho h (AllReady.cons ho2 h2 AllReady.nil))
end
end Go.Proofs.YtbieiefbgcgogaaDoor
