/- Codes: BestCode; the reference's CodeOf. -/
import Derived.Test.YtgofeigebldkiaaDoorCdb
import Derived.Test.YtgofeigebldkiaaDoorCdf
import Derived.Deep.RegionHeld3
namespace Go.Proofs.YtgofeigebldkiaaDoor
open Go.RowKit

theorem cdErr_ok {l : List Cd} : ∀ {b : ByteArray}, cdErr b l = 0 → ∀ x ∈ l, keyB x.1 = true ∧ cdBadN x = false := by
  induction l with
  | nil => intro b _ x hx; cases hx
  | cons y r ih =>
    intro b h
    unfold cdErr at h
    split at h
    · exact absurd h (by decide)
    · rename_i h1
      split at h
      · exact absurd h (by decide)
      · split at h
        · exact absurd h (by decide)
        · split at h
          · exact absurd h (by decide)
          · rename_i h4
            intro x hx
            rcases List.mem_cons.1 hx with rfl | hx
            · exact ⟨by simpa using h1, by simpa using h4⟩
            · exact ih h x hx
theorem cdE_ok {l : List Cd} (h : cdE l = 0) : ∀ x ∈ l, (0 < x.1.size) ∧ (1 ≤ x.2.2.2.2.2 ∧ x.2.2.2.2.2 ≤ 1000) ∧ (0 ≤ x.2.2.1 ∧ x.2.2.1 ≤ x.2.2.2.1 ∧ x.2.2.2.1 ≤ 4001) := by
  unfold cdE at h
  split at h
  · exact absurd h (by decide)
  · intro x hx
    obtain ⟨h1, h2⟩ := cdErr_ok h x hx
    refine ⟨?_, ?_⟩
    · rcases Nat.eq_zero_or_pos x.1.size with hz | hz
      · rw [keyB_no _ (.inl hz)] at h1; cases h1
      · exact hz
    · simp only [cdBadN, inB, Bool.not_eq_false', Bool.and_eq_true, decide_eq_true_eq] at h2
      omega
/-- One code more. -/
def bcS (ks : List ByteArray) (k : ByteArray) (day n c : Int) (s : ByteArray × Int) (x : Cd) : ByteArray × Int :=
  if (hasK ks x.1 && cdCnt x k day n) = true then (if (s.1.toList.isEmpty || decide (s.2 < c * x.2.2.2.2.2 / 1000)) = true then (x.1, c * x.2.2.2.2.2 / 1000) else s) else s
def bcF (ks : List ByteArray) (k : ByteArray) (day n c : Int) (l : List Cd) : ByteArray × Int := l.foldl (bcS ks k day n c) (⟨#[]⟩, 0)
def coS (ks : List ByteArray) (k : ByteArray) (day n c : Int) (s : ByteArray × Int) (x : Cd) : ByteArray × Int :=
  if (hasK ks x.1 && cdCnt x k day n) = true then (if s.2 < c * x.2.2.2.2.2 / 1000 then (x.1, c * x.2.2.2.2.2 / 1000) else s) else s
def coF (ks : List ByteArray) (k : ByteArray) (day n c : Int) (l : List Cd) : ByteArray × Int := l.foldl (coS ks k day n c) (⟨#[]⟩, -1)
theorem fold_succ {α β : Type} (f : β → α → β) (b : β) {l : List α} {k : Nat} {p : α} (hp : l[k]? = some p) : (l.take (k + 1)).foldl f b = f ((l.take k).foldl f b) p := by
  have hk : k < l.length := (List.getElem?_eq_some_iff.1 hp).1
  rw [List.take_succ_eq_append_getElem hk, (List.getElem?_eq_some_iff.1 hp).2, List.foldl_append]
  rfl
theorem bc_co (ks : List ByteArray) (k : ByteArray) (day n c : Int) (hc : 0 ≤ c) (l : List Cd) (h : ∀ x ∈ l, 0 < x.1.size ∧ 0 ≤ x.2.2.2.2.2) : bcF ks k day n c l = ((coF ks k day n c l).1, max 0 (coF ks k day n c l).2) := by
  have key : ∀ (r : List Cd) (s t : ByteArray × Int), (∀ x ∈ r, 0 < x.1.size ∧ 0 ≤ x.2.2.2.2.2) → ((s = (⟨#[]⟩, 0) ∧ t = (⟨#[]⟩, -1)) ∨ (s = t ∧ s.1.toList.isEmpty = false ∧ 0 ≤ s.2)) →
      r.foldl (bcS ks k day n c) s = ((r.foldl (coS ks k day n c) t).1, max 0 (r.foldl (coS ks k day n c) t).2) := by
    intro r
    induction r with
    | nil =>
      intro s t _ h
      rcases h with ⟨rfl, rfl⟩ | ⟨rfl, _, h0⟩
      · rfl
      · show s = (s.1, max 0 s.2)
        rw [show max 0 s.2 = s.2 by omega]
    | cons x r ih =>
      intro s t hx h
      obtain ⟨hx1, hx2⟩ := hx x (List.mem_cons_self ..)
      have hm : 0 ≤ c * x.2.2.2.2.2 / 1000 := Int.ediv_nonneg (Int.mul_nonneg hc hx2) (by omega)
      refine ih _ _ (fun y hy => hx y (List.mem_cons_of_mem _ hy)) ?_
      unfold bcS coS
      rcases h with ⟨rfl, rfl⟩ | ⟨rfl, hne, h0⟩
      · split
        · right
          have he : (ByteArray.mk #[]).toList.isEmpty = true := by rw [ByteArray.toList_eq]; rfl
          rw [if_pos (by rw [he]; rfl), if_pos (show (-1 : Int) < c * x.2.2.2.2.2 / 1000 by omega)]
          exact ⟨rfl, isE_of hx1, hm⟩
        · exact .inl ⟨rfl, rfl⟩
      · right
        rw [hne, Bool.false_or]
        split
        · by_cases hlt : s.2 < c * x.2.2.2.2.2 / 1000
          · rw [if_pos (decide_eq_true hlt), if_pos hlt]
            exact ⟨rfl, isE_of hx1, hm⟩
          · rw [if_neg (by simpa using hlt), if_neg hlt]
            exact ⟨rfl, hne, h0⟩
        · exact ⟨rfl, hne, h0⟩
  exact key l _ _ h (.inl ⟨rfl, rfl⟩)
def cbN (l : List Cd) (ks : List ByteArray) (k : ByteArray) (a z c : Int) : ByteArray × Int := if cbE l ks k a z c = 0 then bcF ks k (a / 1440) (tN a z) c l else (⟨#[]⟩, 0)
theorem cbE_zero {l : List Cd} {ks : List ByteArray} {k : ByteArray} {a z c : Int} (h : cbE l ks k a z c = 0) : cdE l = 0 ∧ tE a z = 0 ∧ 0 ≤ c ∧ c ≤ 1000000000 := by
  unfold cbE at h
  split at h
  · rename_i h1
    split at h
    · split at h
      · exact absurd h (by decide)
      · split at h
        · rename_i h4
          split at h
          · exact absurd h (by decide)
          · rename_i h5
            simp only [inB, Bool.not_eq_false, Bool.and_eq_true, decide_eq_true_eq] at h5
            exact ⟨h1, h4, h5⟩
        · rename_i h4; exact absurd h h4
    · rename_i h2; exact absurd h h2
  · rename_i h1; exact absurd h h1
def BcRel (w : World) (l : List Cd) (ks : List ByteArray) (key : ByteArray) (day n c : Int) (g : Nat) (a z : Int) (s14 s15 i : Value) (wr : World) : Prop :=
  ∃ k : Nat, k ≤ l.length ∧ i = .int .i64 k ∧ s14 = .string (bcF ks key day n c (l.take k)).1 ∧ s15 = .int .i64 (bcF ks key day n c (l.take k)).2 ∧ Bk wr g 29 #[.int .i64 a, .int .i64 z] ∧ G w wr none
set_option maxRecDepth 100000 in
set_option maxHeartbeats 8000000 in
theorem bestCode_c (v u : Value) (l : List Cd) (ks : List ByteArray) (key : ByteArray) (a z c : Int) (w : World) (hr : RdR w 6 cdC v l) (hl : CdOk l) (hn : l.length ≤ 1000) (hs : RdS w u ks) (hk1 : ks.length ≤ 1000) (hk : Small key) (ha : bnd a) (hz : bnd z) :
    Calls Tryd.prog 35 #[v, u, .string key, .agg #[.int .i64 a, .int .i64 z], .int .i64 c] w fun e w' => e = .returned (.tuple #[.string (cbN l ks key a z c).1, .int .i64 (cbN l ks key a z c).2, .int .i64 (cbE l ks key a z c)]) ∧ G w w' none := by
  have hG0 := (G.refl w none).alloc (.cells #[.int .i64 a, .int .i64 z] 29)
  have hB0 := Bk.new w 29 #[.int .i64 a, .int .i64 z]
  have HR := Lib.hid hr
  have HS := Lib.hid hs
  have HH := Lib.hid (And.intro hl (And.intro ha hz))
  have HN1 : Hid (cbE l ks key a z c = 0 → cbN l ks key a z c = bcF ks key (a / 1440) (tN a z) c l) := Lib.hid fun h => by rw [cbN, if_pos h]
  have HN2 : Hid (cbE l ks key a z c ≠ 0 → cbN l ks key a z c = (⟨#[]⟩, 0)) := Lib.hid fun h => by rw [cbN, if_neg h]
  obtain ⟨ad, cap, rfl, hcap, hm⟩ := RdR.form hr
  clear hr hs hl ha hz
  go_enter Tryd.func35, Tryd.ntmps35
  go_wp2_with (refine wpList_load_row rfl 29 _ rfl w.heap.size rfl 29 #[.int .i64 a, .int .i64 z] (0, 0) _ hB0 Tryd.underlying29 rfl (wi_info a z) ?_)
  refine (checkBestCode_c _ u l ks key a z c _ (HR.out.quiet hG0) HH.out.1 hn (HS.out.quiet hG0) hk1 hk HH.out.2.1 HH.out.2.2).mono ?_; rintro e w1 ⟨rfl, hG1⟩
  have hB := hB0.quiet hG1
  have hG := hG0.trans hG1
  clear hB0 hG0 hG1
  by_cases h0 : cbE l ks key a z c = 0
  · obtain ⟨h1, h2, c0, c1⟩ := cbE_zero h0
    have HT := Lib.hid h2
    have HOK := Lib.hid (cdE_ok h1)
    have HN := Lib.hid (HN1.out h0)
    have HE0 := Lib.hid h0
    rw [h0]
    clear h0 h1 h2 HN1 HN2
    obtain ⟨D, hD⟩ : ∃ D, a / 1440 = D := ⟨_, rfl⟩
    obtain ⟨N, hN⟩ : ∃ N, tN a z = N := ⟨_, rfl⟩
    rw [hD, hN] at HN
    have HD := Lib.hid hD
    have HNN := Lib.hid hN
    clear hD hN
    go_wp2_with fail
    go_loopw [14, 15, 30] (BcRel w l ks key D N c w.heap.size a z) (fun _ _ i _ => l.length - (intOf i).toNat)
    case atStart => exact ⟨0, by omega, rfl, rfl, rfl, hB, hG⟩
    case round =>
      clear hB hG
      obtain ⟨k, hkl, rfl, rfl, rfl, hB, hG⟩ := hrel
      by_cases hlt : k < l.length
      · obtain ⟨p, hp⟩ : ∃ p, l[k]? = some p := ⟨_, List.getElem?_eq_getElem hlt⟩
        have HF0 : Hid (bcF ks key D N c (l.take (k + 1)) = bcS ks key D N c (bcF ks key D N c (l.take k)) p) := Lib.hid (fold_succ _ _ hp)
        obtain ⟨_, ⟨n0, n1⟩, _⟩ := HOK.out p (List.mem_of_getElem? hp)
        have m0 : 0 ≤ c * p.2.2.2.2.2 := Int.mul_nonneg c0 (by omega)
        have m1 : c * p.2.2.2.2.2 ≤ 1000000000000 := by
          have := Int.mul_le_mul c1 n1 (by omega) (by omega)
          omega
        obtain ⟨bb, bo, rfl, hbb, _⟩ := RdR.elem cdC_sz HR.out hG hp
        have HW := Lib.hid (cdRow HR.out hG hp)
        have hB5 := Bk.new wr 116 (cdC p)
        have hG5 := hG.alloc (.cells (cdC p) 116)
        have hW5 := hB.alloc (.cells (cdC p) 116)
        clear hp hG hB
        go_wp2_with (refine wpList_load_at rfl 116 _ rfl ⟨bb, bo + k * 6, none⟩ rfl #[.string p.1, .string p.2.1, .int .i64 p.2.2.1, .int .i64 p.2.2.2.1, .int .i64 p.2.2.2.2.1, .int .i64 p.2.2.2.2.2] _ HW.out Tryd.underlying116 rfl (cd_info p) ?_)
        have hB5 : Bk (wr.alloc (.cells #[.string p.1, .string p.2.1, .int .i64 p.2.2.1, .int .i64 p.2.2.2.1, .int .i64 p.2.2.2.2.1, .int .i64 p.2.2.2.2.2] 116)) wr.heap.size 116 (cdC p) := hB5
        have hG5 : G w (wr.alloc (.cells #[.string p.1, .string p.2.1, .int .i64 p.2.2.1, .int .i64 p.2.2.2.1, .int .i64 p.2.2.2.2.1, .int .i64 p.2.2.2.2.2] 116)) none := hG5
        have hW5 : Bk (wr.alloc (.cells #[.string p.1, .string p.2.1, .int .i64 p.2.2.1, .int .i64 p.2.2.2.1, .int .i64 p.2.2.2.2.1, .int .i64 p.2.2.2.2.2] 116)) w.heap.size 29 #[.int .i64 a, .int .i64 z] := hW5
        clear HW
        generalize wr.alloc (.cells #[.string p.1, .string p.2.1, .int .i64 p.2.2.1, .int .i64 p.2.2.2.1, .int .i64 p.2.2.2.2.1, .int .i64 p.2.2.2.2.2] 116) = w5 at hB5 hG5 hW5 ⊢
        generalize wr.heap.size = g at hB5 ⊢
        refine (sContains_c u ks p.1 _ (HS.out.quiet hG5) (by omega)).mono ?_; rintro e w' ⟨rfl, rfl⟩
        obtain ⟨S, M, hSM⟩ : ∃ S M, bcF ks key D N c (l.take k) = (S, M) := ⟨_, _, rfl⟩
        rw [hSM] at HF0
        rw [hSM]
        have HF : Hid (bcF ks key D N c (l.take (k + 1)) = if (hasK ks p.1 && cdCnt p key D N) = true then (if (S.toList.isEmpty || decide (M < c * p.2.2.2.2.2 / 1000)) = true then (p.1, c * p.2.2.2.2.2 / 1000) else (S, M)) else (S, M)) := Lib.hid HF0.out
        clear HF0 hSM
        cases hk2 : hasK ks p.1 with
        | false =>
          have HQ : Hid (bcF ks key D N c (l.take (k + 1)) = (S, M)) := Lib.hid (by rw [HF.out, hk2]; rfl)
          clear HF hk2
          go_wp2_with fail
          go_roundw
          case rel => exact ⟨k + 1, by omega, by go_num, by rw [HQ.out], by rw [HQ.out], hW5, hG5⟩
          case measure => simp [intOf]; omega
        | true =>
          have HF2 : Hid (bcF ks key D N c (l.take (k + 1)) = if cdCnt p key D N = true then (if (S.toList.isEmpty || decide (M < c * p.2.2.2.2.2 / 1000)) = true then (p.1, c * p.2.2.2.2.2 / 1000) else (S, M)) else (S, M)) := Lib.hid (by rw [HF.out, hk2]; rfl)
          clear HF hk2
          have e0 : w5.cell? ⟨g, 0, none⟩ = some (.string p.1) := hB5.cell 0
          have e1 : w5.cell? ⟨g, 1, none⟩ = some (.string p.2.1) := hB5.cell 1
          have e2 : w5.cell? ⟨g, 2, none⟩ = some (.int .i64 p.2.2.1) := hB5.cell 2
          have e3 : w5.cell? ⟨g, 3, none⟩ = some (.int .i64 p.2.2.2.1) := hB5.cell 3
          have e4 : w5.cell? ⟨g, 4, none⟩ = some (.int .i64 p.2.2.2.2.1) := hB5.cell 4
          have e5 : w5.cell? ⟨g, 5, none⟩ = some (.int .i64 p.2.2.2.2.2) := hB5.cell 5
          have t0 : w5.cell? ⟨w.heap.size, 0, none⟩ = some (.int .i64 a) := hW5.cell 0
          have t1 : w5.cell? ⟨w.heap.size, 1, none⟩ = some (.int .i64 z) := hW5.cell 1
          go_wp2_with fail
          refine (counts_c p key a z _ HH.out.2.1 HH.out.2.2 HT.out).mono ?_; rintro e w6 ⟨rfl, hG6⟩
          rw [HD.out, HNN.out]
          have hB6 := hB5.quiet hG6
          have hW6 := hW5.quiet hG6
          have hG06 := hG5.trans hG6
          clear e0 e1 e2 e3 e4 e5 t0 t1 hB5 hW5 hG5 hG6
          cases hq : cdCnt p key D N with
          | false =>
            have HQ : Hid (bcF ks key D N c (l.take (k + 1)) = (S, M)) := Lib.hid (by rw [HF2.out, hq]; rfl)
            clear HF2 hq
            go_wp2_with fail
            go_roundw
            case rel => exact ⟨k + 1, by omega, by go_num, by rw [HQ.out], by rw [HQ.out], hW6, hG06⟩
            case measure => simp [intOf]; omega
          | true =>
            have HF3 : Hid (bcF ks key D N c (l.take (k + 1)) = if (S.toList.isEmpty || decide (M < c * p.2.2.2.2.2 / 1000)) = true then (p.1, c * p.2.2.2.2.2 / 1000) else (S, M)) := Lib.hid (by rw [HF2.out, hq]; rfl)
            clear HF2 hq
            have e0 : w6.cell? ⟨g, 0, none⟩ = some (.string p.1) := hB6.cell 0
            have e5 : w6.cell? ⟨g, 5, none⟩ = some (.int .i64 p.2.2.2.2.2) := hB6.cell 5
            cases hem : S.toList.isEmpty with
            | true =>
              have HQ : Hid (bcF ks key D N c (l.take (k + 1)) = (p.1, c * p.2.2.2.2.2 / 1000)) := Lib.hid (by rw [HF3.out, hem]; rfl)
              clear HF3
              go_wp2_with fail
              go_roundw
              case rel => exact ⟨k + 1, by omega, by go_num, by rw [HQ.out], by rw [HQ.out], hW6, hG06⟩
              case measure => simp [intOf]; omega
            | false =>
              rcases (show M < c * p.2.2.2.2.2 / 1000 ∨ c * p.2.2.2.2.2 / 1000 ≤ M by omega) with hc | hc
              · have HQ : Hid (bcF ks key D N c (l.take (k + 1)) = (p.1, c * p.2.2.2.2.2 / 1000)) := Lib.hid (by rw [HF3.out, hem, decide_eq_true hc]; rfl)
                clear HF3
                go_wp2_with fail
                go_roundw
                case rel => exact ⟨k + 1, by omega, by go_num, by rw [HQ.out], by rw [HQ.out], hW6, hG06⟩
                case measure => simp [intOf]; omega
              · have HQ : Hid (bcF ks key D N c (l.take (k + 1)) = (S, M)) := Lib.hid (by rw [HF3.out, hem, decide_eq_false (by omega)]; rfl)
                have hc2 : ¬ M < c * p.2.2.2.2.2 / 1000 := by omega
                clear HF3
                go_wp2_with fail
                go_roundw
                case rel => exact ⟨k + 1, by omega, by go_num, by rw [HQ.out], by rw [HQ.out], hW6, hG06⟩
                case measure => simp [intOf]; omega
      · obtain rfl : k = l.length := by omega
        rw [List.take_length] at *
        have HF : Hid (cbN l ks key a z c = bcF ks key D N c l) := HN
        generalize bcF ks key D N c l = X at HF ⊢
        go_wp2_with fail
        go_ret3
        exact ⟨by rw [HF.out, HE0.out]; rfl, hG⟩
  · have HF := Lib.hid (HN2.out h0)
    have h0' : (cbE l ks key a z c != 0) = true := by rw [bne_iff_ne]; exact h0
    clear h0 HN1 HN2
    obtain ⟨E, hE⟩ : ∃ E, cbE l ks key a z c = E := ⟨_, rfl⟩
    have HE0 := Lib.hid hE
    rw [hE] at h0' ⊢
    clear hE
    go_wp2_with fail
    go_ret3
    exact ⟨by rw [HF.out, HE0.out]; rfl, hG⟩
end Go.Proofs.YtgofeigebldkiaaDoor
