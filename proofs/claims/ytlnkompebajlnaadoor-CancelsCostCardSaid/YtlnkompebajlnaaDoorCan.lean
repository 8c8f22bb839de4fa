/- CancelFee; the reference's CancelOf. -/
import Derived.Test.YtlnkompebajlnaaDoorTir
import Derived.Test.YtlnkompebajlnaaDoorPck
namespace Go.Proofs.YtlnkompebajlnaaDoor
open Go.RowKit

/-- The permille of the last tier that is meant. -/
def cnS (d a : Int) (x : Ti) : Int := if d < x.1 then x.2 else a
def cnP (l : List Ti) (d : Int) : Int := l.foldl (cnS d) 0
theorem cnP_succ {l : List Ti} {k : Nat} {p : Ti} (d : Int) (hp : l[k]? = some p) : cnP (l.take (k + 1)) d = cnS d (cnP (l.take k) d) p := by
  have hk : k < l.length := (List.getElem?_eq_some_iff.1 hp).1
  have e : l.take (k + 1) = l.take k ++ [p] := by
    rw [List.take_succ_eq_append_getElem hk, (List.getElem?_eq_some_iff.1 hp).2]
  unfold cnP
  rw [e, List.foldl_append]
  rfl
theorem cnP_rng {l : List Ti} (h : ∀ x ∈ l, 0 ≤ x.2 ∧ x.2 ≤ 1000) (d : Int) : 0 ≤ cnP l d ∧ cnP l d ≤ 1000 := by
  have : ∀ (r : List Ti) (a : Int), (∀ x ∈ r, 0 ≤ x.2 ∧ x.2 ≤ 1000) → 0 ≤ a ∧ a ≤ 1000 → 0 ≤ r.foldl (cnS d) a ∧ r.foldl (cnS d) a ≤ 1000 := by
    intro r
    induction r with
    | nil => intro a _ ha; exact ha
    | cons x r ih =>
      intro a hx ha
      refine ih _ (fun y hy => hx y (List.mem_cons_of_mem _ hy)) ?_
      unfold cnS
      split
      · exact hx x (List.mem_cons_self ..)
      · exact ha
  exact this l 0 h (by omega)
theorem tiErr_ok {l : List Ti} : ∀ {b : Option Ti}, tiErr b l = 0 → ∀ x ∈ l, 0 ≤ x.2 ∧ x.2 ≤ 1000 := by
  induction l with
  | nil => intro b _ x hx; cases hx
  | cons y r ih =>
    intro b h
    unfold tiErr at h
    split at h
    · exact absurd h (by decide)
    · split at h
      · exact absurd h (by decide)
      · rename_i h2
        split at h
        · exact absurd h (by decide)
        · intro x hx
          rcases List.mem_cons.1 hx with rfl | hx
          · simp only [inB, Bool.not_eq_false, Bool.and_eq_true, decide_eq_true_eq] at h2
            omega
          · exact ih h x hx
theorem tiE_ok {l : List Ti} (h : tiE l = 0) : ∀ x ∈ l, 0 ≤ x.2 ∧ x.2 ≤ 1000 := by
  unfold tiE at h
  split at h
  · exact absurd h (by decide)
  · exact tiErr_ok h
theorem boE_ok {b : Bo} (h : boE [b] = 0) : 0 ≤ b.2.2.1 ∧ b.2.2.1 < 5761440 := by
  have h1 : boErr ⟨#[]⟩ [b] = 0 := h
  unfold boErr at h1
  split at h1
  · exact absurd h1 (by decide)
  · split at h1
    · exact absurd h1 (by decide)
    · split at h1
      · exact absurd h1 (by decide)
      · split at h1
        · exact absurd h1 (by decide)
        · rename_i h2
          simp only [boT, Bool.not_eq_false, Bool.and_eq_true] at h2
          have := (timB_iff _ _).1 h2.1
          omega
theorem one_len (b : Bo) : ([b] : List Bo).length ≤ 1000 := by simp
theorem RdR.one {w : World} {g : Nat} {b : Bo} (h : Bk w g 33 (boC b)) : RdR w 6 boC (.slice (some ⟨g, 0, none⟩) 1 1) [b] := h.rd 6 1 rfl (by omega)
theorem BoOk.one {b : Bo} (h : boB b) : BoOk [b] := fun x hx => by
  obtain rfl := List.mem_singleton.1 hx
  exact h
def cfE (l : List Ti) (b : Bo) (c t : Int) : Int := if tiE l = 0 then (if boE [b] = 0 then (if inB c 0 1000000000 = false then 1 else if momB t = false then 1 else 0) else boE [b]) else tiE l
def cfN (l : List Ti) (b : Bo) (c t : Int) : Int := if cfE l b c t = 0 then c * cnP l (b.2.2.1 - t) / 1000 else 0
def CfRel (w : World) (l : List Ti) (d : Int) (g : Nat) (b : Bo) (s i : Value) (wr : World) : Prop :=
  ∃ k : Nat, k ≤ l.length ∧ i = .int .i64 k ∧ s = .int .i64 (cnP (l.take k) d) ∧ Bk wr g 33 (boC b) ∧ G w wr none
set_option maxRecDepth 100000 in
set_option maxHeartbeats 4000000 in
theorem cancelFee_c (v : Value) (l : List Ti) (b : Bo) (c t : Int) (w : World) (hr : RdR w 2 tiC v l) (hn : l.length ≤ 1000) (hb : boB b) :
    Calls Tryd.prog 23 #[v, .agg (boC b), .int .i64 c, .int .i64 t] w fun e w' => e = .returned (.tuple #[.int .i64 (cfN l b c t), .int .i64 (cfE l b c t)]) ∧ G w w' none := by
  have HR := Lib.hid hr
  have HB : Hid (boB b) := Lib.hid hb
  have hB0 := Bk.new w 33 (boC b)
  have hG0 := (G.refl w none).alloc (.cells (boC b) 33)
  obtain ⟨a, cap, rfl, hcap, hm⟩ := RdR.form hr
  clear hr hb
  go_enter Tryd.func23, Tryd.ntmps23
  go_wp2_with fail
  refine (checkTiers_c _ l _ (HR.out.quiet hG0) hn).mono ?_; rintro e w1 ⟨rfl, hG1⟩
  have hB := hB0.quiet hG1
  have hG := hG0.trans hG1
  clear hB0 hG0 hG1
  by_cases h0 : tiE l = 0
  · have HE : Hid (cfE l b c t = if boE [b] = 0 then (if inB c 0 1000000000 = false then 1 else if momB t = false then 1 else 0) else boE [b]) := Lib.hid (by rw [cfE, if_pos h0])
    have HOK := Lib.hid (tiE_ok h0)
    rw [h0]
    clear h0
    go_wp2_with (refine wpList_load_row rfl 33 _ rfl w.heap.size rfl 33 #[.string b.1, .string b.2.1, .int .i64 b.2.2.1, .int .i64 b.2.2.2.1, .int .i64 b.2.2.2.2.1, .int .i64 b.2.2.2.2.2] (0, 0) _ hB Tryd.underlying33 rfl (bo_info b) ?_)
    have hN2 : Bk (w1.alloc (.cells #[.string b.1, .string b.2.1, .int .i64 b.2.2.1, .int .i64 b.2.2.2.1, .int .i64 b.2.2.2.2.1, .int .i64 b.2.2.2.2.2] 33)) w1.heap.size 33 (boC b) := Bk.new w1 33 (boC b)
    have hG2 := hG.alloc (.cells #[.string b.1, .string b.2.1, .int .i64 b.2.2.1, .int .i64 b.2.2.2.1, .int .i64 b.2.2.2.2.1, .int .i64 b.2.2.2.2.2] 33)
    have hB2 := hB.alloc (.cells #[.string b.1, .string b.2.1, .int .i64 b.2.2.1, .int .i64 b.2.2.2.1, .int .i64 b.2.2.2.2.1, .int .i64 b.2.2.2.2.2] 33)
    clear hB hG
    refine (checkForm_c _ [b] _ (RdR.one hN2) (BoOk.one HB.out) (one_len b)).mono ?_; rintro e w3 ⟨rfl, hG3⟩
    have hB := hB2.quiet hG3
    have hG := hG2.trans hG3
    clear hN2 hB2 hG2 hG3
    by_cases h1 : boE [b] = 0
    · have HE2 : Hid (cfE l b c t = if inB c 0 1000000000 = false then 1 else if momB t = false then 1 else 0) := Lib.hid (by rw [HE.out, if_pos h1])
      obtain ⟨a0, a1⟩ := boE_ok h1
      rw [h1]
      clear h1 HE
      go_wp2_with fail
      refine (within_c _ _ _ _).mono ?_; rintro e w' ⟨rfl, rfl⟩
      cases hc : inB c 0 1000000000 with
      | false =>
        have HF : Hid (cfE l b c t = 1) := Lib.hid (by rw [HE2.out, if_pos hc])
        have HN : Hid (cfN l b c t = 0) := Lib.hid (by rw [cfN, if_neg (by rw [HF.out]; decide)])
        go_wp2_with fail
        go_ret2
        exact ⟨by rw [HF.out, HN.out]; rfl, hG⟩
      | true =>
        have HC := Lib.hid hc
        clear hc
        go_wp2_with fail
        refine (isMoment_c _ _).mono ?_; rintro e w' ⟨rfl, rfl⟩
        cases ht : momB t with
        | false =>
          have HF : Hid (cfE l b c t = 1) := Lib.hid (by rw [HE2.out, if_neg (by simp [HC.out]), if_pos ht])
          have HN : Hid (cfN l b c t = 0) := Lib.hid (by rw [cfN, if_neg (by rw [HF.out]; decide)])
          go_wp2_with fail
          go_ret2
          exact ⟨by rw [HF.out, HN.out]; rfl, hG⟩
        | true =>
          have HF : Hid (cfE l b c t = 0) := Lib.hid (by rw [HE2.out, if_neg (by simp [HC.out]), if_neg (by simp [ht])])
          have HN : Hid (cfN l b c t = c * cnP l (b.2.2.1 - t) / 1000) := Lib.hid (by rw [cfN, if_pos HF.out])
          obtain ⟨t0, t1⟩ : 0 ≤ t ∧ t < 5761440 := by simpa [momB] using ht
          obtain ⟨c0, c1⟩ : 0 ≤ c ∧ c ≤ 1000000000 := by simpa [inB] using HC.out
          clear ht HE2
          go_wp2_with fail
          go_loopw [12, 36] (CfRel w l (b.2.2.1 - t) w.heap.size b) (fun _ i _ => l.length - (intOf i).toNat)
          case atStart => exact ⟨0, by omega, rfl, rfl, hB, hG⟩
          case round =>
            clear hB hG
            obtain ⟨k, hkl, rfl, rfl, hB, hG⟩ := hrel
            by_cases hk : k < l.length
            · obtain ⟨p, hp⟩ : ∃ p, l[k]? = some p := ⟨_, List.getElem?_eq_getElem hk⟩
              have HP : Hid (cnP (l.take (k + 1)) (b.2.2.1 - t) = if b.2.2.1 - t < p.1 then p.2 else cnP (l.take k) (b.2.2.1 - t)) := Lib.hid (cnP_succ _ hp)
              obtain ⟨bb, bo, rfl, hbb, _⟩ := RdR.elem tiC_sz HR.out hG hp
              have HW := Lib.hid (tiRow HR.out hG hp)
              have hB5 := Bk.new wr 76 (tiC p)
              have hG5 := hG.alloc (.cells (tiC p) 76)
              have hB6 := hB.alloc (.cells (tiC p) 76)
              have cb : wr.cell? ⟨w.heap.size, 2, none⟩ = some (.int .i64 b.2.2.1) := hB.cell 2
              have hlt := hB.lt
              have HB6 := Lib.hid hB6
              have HG5 := Lib.hid hG5
              clear hp hG hB hB5 hB6 hG5
              rcases (show b.2.2.1 - t < p.1 ∨ p.1 ≤ b.2.2.1 - t by omega) with h2 | h2
              · have HQ : Hid (p.2 = cnP (l.take (k + 1)) (b.2.2.1 - t)) := Lib.hid (by rw [HP.out, if_pos h2])
                clear HP
                generalize cnP (l.take k) (b.2.2.1 - t) = N0
                go_wp2_with (refine wpList_load_at rfl 76 _ rfl ⟨bb, bo + k * 2, none⟩ rfl #[.int .i64 p.1, .int .i64 p.2] _ HW.out Tryd.underlying76 rfl (ti_info p) ?_)
                go_roundw
                case rel => exact ⟨k + 1, by omega, by go_num, by rw [← HQ.out], HB6.out, HG5.out⟩
                case measure => simp [intOf]; omega
              · have HQ : Hid (cnP (l.take k) (b.2.2.1 - t) = cnP (l.take (k + 1)) (b.2.2.1 - t)) := Lib.hid (by rw [HP.out, if_neg (by omega)])
                have h3 : ¬ b.2.2.1 - t < p.1 := by omega
                clear HP
                go_wp2_with (refine wpList_load_at rfl 76 _ rfl ⟨bb, bo + k * 2, none⟩ rfl #[.int .i64 p.1, .int .i64 p.2] _ HW.out Tryd.underlying76 rfl (ti_info p) ?_)
                go_roundw
                case rel => exact ⟨k + 1, by omega, by go_num, by rw [← HQ.out], HB6.out, HG5.out⟩
                case measure => simp [intOf]; omega
            · obtain rfl : k = l.length := by omega
              rw [List.take_length] at *
              obtain ⟨n0, n1⟩ := cnP_rng HOK.out (b.2.2.1 - t)
              generalize cnP l (b.2.2.1 - t) = N at HN n0 n1 ⊢
              have m0 : 0 ≤ c * N := Int.mul_nonneg c0 n0
              have m1 : c * N ≤ 1000000000000 := by
                have := Int.mul_le_mul c1 n1 n0 (by omega)
                omega
              go_wp2_with fail
              go_ret2
              exact ⟨by rw [HF.out, HN.out]; rfl, hG⟩
    · have HF : Hid (cfE l b c t = boE [b]) := Lib.hid (by rw [HE.out, if_neg h1])
      have HN : Hid (cfN l b c t = 0) := Lib.hid (by rw [cfN, if_neg (by rw [HF.out]; exact h1)])
      have h1' : (boE [b] != 0) = true := by rw [bne_iff_ne]; exact h1
      clear h1 HE
      generalize boE [b] = E at h1' HF ⊢
      go_wp2_with fail
      go_ret2
      exact ⟨by rw [HF.out, HN.out]; rfl, hG⟩
  · have HF : Hid (cfE l b c t = tiE l) := Lib.hid (by rw [cfE, if_neg h0])
    have HN : Hid (cfN l b c t = 0) := Lib.hid (by rw [cfN, if_neg (by rw [HF.out]; exact h0)])
    have h0' : (tiE l != 0) = true := by rw [bne_iff_ne]; exact h0
    clear h0
    generalize tiE l = E at h0' HF ⊢
    go_wp2_with fail
    go_ret2
    exact ⟨by rw [HF.out, HN.out]; rfl, hG⟩
def CoRel (w : World) (l : List Ti) (d c : Int) (g : Nat) (b : Bo) (s i : Value) (wr : World) : Prop :=
  ∃ k : Nat, k ≤ l.length ∧ i = .int .i64 k ∧ s = .int .i64 (c * cnP (l.take k) d / 1000) ∧ Bk wr g 33 (boC b) ∧ G w wr none
set_option maxRecDepth 100000 in
set_option maxHeartbeats 4000000 in
theorem cancelOf_c (v : Value) (l : List Ti) (b : Bo) (c t : Int) (w : World) (hr : RdR w 2 tiC v l) (hn : l.length ≤ 1000) (h0 : tiE l = 0) (a0 : 0 ≤ b.2.2.1) (a1 : b.2.2.1 < 5761440) (t0 : 0 ≤ t) (t1 : t < 5761440) (c0 : 0 ≤ c) (c1 : c ≤ 1000000000) :
    Calls Tryd.prog 27 #[v, .agg (boC b), .int .i64 c, .int .i64 t] w fun e w' => e = .returned (.int .i64 (c * cnP l (b.2.2.1 - t) / 1000)) ∧ G w w' none := by
  have HR := Lib.hid hr
  have hB := Bk.new w 33 (boC b)
  have hG := (G.refl w none).alloc (.cells (boC b) 33)
  have HOK := Lib.hid (tiE_ok h0)
  obtain ⟨a, cap, rfl, hcap, hm⟩ := RdR.form hr
  clear hr h0
  go_enter Tryd.func27, Tryd.ntmps27
  go_wp2_with fail
  go_loopw [9, 14] (CoRel w l (b.2.2.1 - t) c w.heap.size b) (fun _ i _ => l.length - (intOf i).toNat)
  case atStart => exact ⟨0, by omega, rfl, by rw [List.take_zero, show cnP [] (b.2.2.1 - t) = 0 from rfl, Int.mul_zero]; rfl, hB, hG⟩
  case round =>
    clear hB hG
    obtain ⟨k, hkl, rfl, rfl, hB, hG⟩ := hrel
    by_cases hk : k < l.length
    · obtain ⟨p, hp⟩ : ∃ p, l[k]? = some p := ⟨_, List.getElem?_eq_getElem hk⟩
      have HP : Hid (cnP (l.take (k + 1)) (b.2.2.1 - t) = if b.2.2.1 - t < p.1 then p.2 else cnP (l.take k) (b.2.2.1 - t)) := Lib.hid (cnP_succ _ hp)
      obtain ⟨n0, n1⟩ := HOK.out p (List.mem_of_getElem? hp)
      have m0 : 0 ≤ c * p.2 := Int.mul_nonneg c0 n0
      have m1 : c * p.2 ≤ 1000000000000 := by
        have := Int.mul_le_mul c1 n1 n0 (by omega)
        omega
      obtain ⟨bb, bo, rfl, hbb, _⟩ := RdR.elem tiC_sz HR.out hG hp
      have HW := Lib.hid (tiRow HR.out hG hp)
      have HB6 := Lib.hid (hB.alloc (.cells (tiC p) 76))
      have HG5 := Lib.hid (hG.alloc (.cells (tiC p) 76))
      have cb : wr.cell? ⟨w.heap.size, 2, none⟩ = some (.int .i64 b.2.2.1) := hB.cell 2
      have hlt := hB.lt
      clear hp hG hB
      rcases (show b.2.2.1 - t < p.1 ∨ p.1 ≤ b.2.2.1 - t by omega) with h2 | h2
      · have HQ : Hid (p.2 = cnP (l.take (k + 1)) (b.2.2.1 - t)) := Lib.hid (by rw [HP.out, if_pos h2])
        clear HP
        generalize c * cnP (l.take k) (b.2.2.1 - t) / 1000 = N0
        go_wp2_with (refine wpList_load_at rfl 76 _ rfl ⟨bb, bo + k * 2, none⟩ rfl #[.int .i64 p.1, .int .i64 p.2] _ HW.out Tryd.underlying76 rfl (ti_info p) ?_)
        go_roundw
        case rel => exact ⟨k + 1, by omega, by go_num, by rw [← HQ.out], HB6.out, HG5.out⟩
        case measure => simp [intOf]; omega
      · have HQ : Hid (cnP (l.take k) (b.2.2.1 - t) = cnP (l.take (k + 1)) (b.2.2.1 - t)) := Lib.hid (by rw [HP.out, if_neg (by omega)])
        have h3 : ¬ b.2.2.1 - t < p.1 := by omega
        clear HP
        go_wp2_with (refine wpList_load_at rfl 76 _ rfl ⟨bb, bo + k * 2, none⟩ rfl #[.int .i64 p.1, .int .i64 p.2] _ HW.out Tryd.underlying76 rfl (ti_info p) ?_)
        go_roundw
        case rel => exact ⟨k + 1, by omega, by go_num, by rw [← HQ.out], HB6.out, HG5.out⟩
        case measure => simp [intOf]; omega
    · obtain rfl : k = l.length := by omega
      rw [List.take_length] at *
      obtain ⟨N, hN⟩ : ∃ N, c * cnP l (b.2.2.1 - t) / 1000 = N := ⟨_, rfl⟩
      have HN := Lib.hid hN
      rw [hN]
      clear hN
      go_wp2_with fail
      go_ret
      exact ⟨by rw [HN.out]; rfl, hG⟩
end Go.Proofs.YtlnkompebajlnaaDoor
