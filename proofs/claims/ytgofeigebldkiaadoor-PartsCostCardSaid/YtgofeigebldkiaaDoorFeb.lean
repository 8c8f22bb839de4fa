/- Fees: the search by halves. -/
import Derived.Test.YtgofeigebldkiaaDoorFeg
namespace Go.Proofs.YtgofeigebldkiaaDoor
open Go.RowKit

theorem cmpF_neg (x y : Fe) : cmpF y x = - cmpF x y := by
  have h1 := cmpI_neg x.1 y.1
  have h2 := cmpI_neg x.2.1 y.2.1
  unfold cmpF orI
  rw [h1, h2]
  split <;> split <;> omega
theorem cmpF_trans {x y z : Fe} (h : cmpF x y < 0) (k : cmpF y z < 0) : cmpF x z < 0 := by
  unfold cmpF orI at *
  by_cases h1 : cmpI x.1 y.1 = 0
  · rw [if_pos h1] at h
    have e1 := cmpI_eq.1 h1
    rw [e1]
    by_cases h2 : cmpI y.1 z.1 = 0
    · rw [if_pos h2] at k ⊢
      exact cmpI_trans h k
    · rw [if_neg h2] at k ⊢
      exact k
  · rw [if_neg h1] at h
    by_cases h2 : cmpI y.1 z.1 = 0
    · rw [← cmpI_eq.1 h2, if_neg h1]
      exact h
    · rw [if_neg h2] at k
      have h3 := cmpI_trans h k
      rw [if_neg (by omega)]
      exact h3
theorem cmpF_zero {x y : Fe} : cmpF x y = 0 ↔ x.1 = y.1 ∧ x.2.1 = y.2.1 := by
  unfold cmpF orI
  by_cases h1 : cmpI x.1 y.1 = 0
  · rw [if_pos h1, cmpI_eq]
    exact ⟨fun h => ⟨cmpI_eq.1 h1, h⟩, fun h => h.2⟩
  · rw [if_neg h1]
    exact ⟨fun h => absurd h h1, fun h => absurd (cmpI_eq.2 h.1) h1⟩
def RiseF (l : List Fe) : Prop := l.Pairwise (fun a b => cmpF a b < 0)
theorem fe_rise {b : Option Fe} {l : List Fe} (h : feErr b l = 0) : RiseF l ∧ (∀ y, b = some y → ∀ x ∈ l, cmpF y x < 0) ∧ ∀ x ∈ l, (0 ≤ x.2.2 ∧ x.2.2 ≤ 1000000) ∧ x.1 ≠ x.2.1 := by
  induction l generalizing b with
  | nil => exact ⟨List.Pairwise.nil, fun _ _ x hx => (by cases hx), fun x hx => (by cases hx)⟩
  | cons p r ih =>
    unfold feErr at h
    split at h
    · omega
    · split at h
      · omega
      · split at h
        · omega
        · rename_i hq
          split at h
          · omega
          · rename_i ha
            split at h
            · omega
            · rename_i hb
              obtain ⟨i1, i2, i3⟩ := ih h
              have hp := i2 p rfl
              have hin : 0 ≤ p.2.2 ∧ p.2.2 ≤ 1000000 := by
                unfold inB at hb
                simp only [Bool.and_eq_false_iff, decide_eq_false_iff_not] at hb
                omega
              have hy : ∀ y, b = some y → cmpF y p < 0 := fun y e => by
                subst e
                have : ¬ 0 ≤ cmpF y p := fun h => ha (decide_eq_true h)
                omega
              refine ⟨List.pairwise_cons.2 ⟨hp, i1⟩, fun y e x hx => ?_, fun x hx => ?_⟩
              · rcases List.mem_cons.1 hx with rfl | hx
                · exact hy y e
                · exact cmpF_trans (hy y e) (hp x hx)
              · rcases List.mem_cons.1 hx with rfl | hx
                · exact ⟨hin, fun e => hq (eqB_iff.2 e)⟩
                · exact i3 x hx
def BelowF (l : List Fe) (t : Fe) (i : Nat) : Prop := ∀ (j : Nat) (s : Fe), j < i → l[j]? = some s → cmpF s t < 0
def FromF (l : List Fe) (t : Fe) (i : Nat) : Prop := ∀ (j : Nat) (s : Fe), i ≤ j → l[j]? = some s → 0 ≤ cmpF s t
theorem RiseF.lt {l : List Fe} (h : RiseF l) {i j : Nat} {a b : Fe} (hij : i < j) (ha : l[i]? = some a) (hb : l[j]? = some b) : cmpF a b < 0 := by
  obtain ⟨h1, rfl⟩ := List.getElem?_eq_some_iff.1 ha
  obtain ⟨h2, rfl⟩ := List.getElem?_eq_some_iff.1 hb
  exact (List.pairwise_iff_getElem.1 h) i j h1 h2 hij
theorem BelowF.up {l : List Fe} {t s : Fe} {i : Nat} (hr : RiseF l) (hs : l[i]? = some s) (h : cmpF s t < 0) : BelowF l t (i + 1) := fun j u hj hu => by
  rcases Nat.lt_or_ge j i with hji | hji
  · exact cmpF_trans (hr.lt hji hu hs) h
  · obtain rfl : j = i := by omega
    rw [hs] at hu
    obtain rfl := Option.some.inj hu
    exact h
theorem FromF.down {l : List Fe} {t s : Fe} {i : Nat} (hr : RiseF l) (hs : l[i]? = some s) (h : 0 ≤ cmpF s t) : FromF l t i := fun j u hj hu => by
  rcases Nat.lt_or_ge i j with hji | hji
  · have h1 := hr.lt hji hs hu
    rcases Int.lt_or_le (cmpF u t) 0 with h2 | h2
    · have := cmpF_trans h1 h2; omega
    · exact h2
  · obtain rfl : j = i := by omega
    rw [hs] at hu
    obtain rfl := Option.some.inj hu
    exact h
def feF (a b : ByteArray) (x : Fe) : Bool := eqB x.1 a && eqB x.2.1 b
theorem feF_iff {a b : ByteArray} {x : Fe} {c : Int} : feF a b x = true ↔ cmpF x (a, b, c) = 0 := by
  unfold feF
  rw [Bool.and_eq_true, eqB_iff, eqB_iff, cmpF_zero]
theorem fb_found {l : List Fe} {a b : ByteArray} {c : Int} {i : Nat} (hr : RiseF l) (h1 : BelowF l (a, b, c) i) (h2 : FromF l (a, b, c) i) :
    (∀ p, l[i]? = some p → cmpF p (a, b, c) = 0 → l.find? (feF a b) = some p) ∧ (∀ p, l[i]? = some p → cmpF p (a, b, c) ≠ 0 → l.find? (feF a b) = none) ∧ (l[i]? = none → l.find? (feF a b) = none) := by
  refine ⟨fun p hp h0 => ?_, fun p hp h0 => ?_, fun hp => ?_⟩
  · obtain ⟨hi, e⟩ := List.getElem?_eq_some_iff.1 hp
    refine List.find?_eq_some_iff_getElem.2 ⟨feF_iff.2 h0, i, hi, e, fun j hj => ?_⟩
    have h3 := h1 j l[j] hj (List.getElem?_eq_getElem (by omega))
    rw [Bool.not_eq_true']
    cases hb : feF a b l[j] with
    | false => rfl
    | true => have := (feF_iff (c := c)).1 hb; omega
  · refine List.find?_eq_none.2 fun x hx hxf => ?_
    obtain ⟨j, hj, rfl⟩ := List.getElem_of_mem hx
    have hg := List.getElem?_eq_getElem hj
    have h0' := (feF_iff (c := c)).1 hxf
    rcases Nat.lt_or_ge j i with hji | hji
    · have := h1 j _ hji hg; omega
    · rcases Nat.lt_or_ge i j with hij | hij
      · have h3 := h2 i p (Nat.le_refl _) hp
        have h4 := hr.lt hij hp hg
        have h5 := cmpF_neg l[j] (a, b, c)
        have h6 := cmpF_neg p (a, b, c)
        have h7 : cmpF (a, b, c) p < 0 := by omega
        have h8 := cmpF_trans h7 h4
        omega
      · obtain rfl : j = i := by omega
        rw [hg] at hp
        obtain rfl := Option.some.inj hp
        exact h0 h0'
  · refine List.find?_eq_none.2 fun x hx hxf => ?_
    obtain ⟨j, hj, rfl⟩ := List.getElem_of_mem hx
    have hg := List.getElem?_eq_getElem hj
    have h0' := (feF_iff (c := c)).1 hxf
    have hil : l.length ≤ i := List.getElem?_eq_none_iff.1 hp
    have := h1 j _ (by omega) hg
    omega
def BfPost (l : List Fe) (a b : ByteArray) (w : World) (e : Ending) (w' : World) : Prop := ∃ i : Nat, e = .returned (.tuple #[.int .i64 i, .bool (l.find? (feF a b)).isSome]) ∧ (∀ q, l.find? (feF a b) = some q → l[i]? = some q) ∧ G w w' none
def BfRel (w : World) (l : List Fe) (t : Fe) (kx : Nat) (s9 s10 : Value) (wr : World) : Prop :=
  ∃ lo hi : Nat, s9 = .int .i64 lo ∧ s10 = .int .i64 hi ∧ lo ≤ hi ∧ hi ≤ l.length ∧ hi - lo ≤ kx ∧ BelowF l t lo ∧ FromF l t hi ∧ Bk wr w.heap.size 110 (feC t) ∧ G w wr none
set_option maxRecDepth 100000 in
set_option maxHeartbeats 4000000 in
theorem bsFe_c (v : Value) (l : List Fe) (a b : ByteArray) (w : World) (hr : RdR w 3 feC v l) (hn : l.length ≤ 1000000) (hs : RiseF l) :
    Calls Tryd.prog 70 #[v, .agg (feC (a, b, 0)), .func (.func 71) #[] #[]] w (BfPost l a b w) := by
  have HR := Lib.hid hr
  have HS := Lib.hid hs
  obtain ⟨ad, cap, rfl, hcap, hm⟩ := RdR.form hr
  clear hr hs
  have HT : Hid (((a, b, (0 : Int)) : Fe) = ((a, b, (0 : Int)) : Fe)) := Lib.hid rfl
  have HFF : Hid (∀ i : Nat, BelowF l (a, b, 0) i → FromF l (a, b, 0) i → (∀ p, l[i]? = some p → cmpF p (a, b, 0) = 0 → l.find? (feF a b) = some p) ∧ (∀ p, l[i]? = some p → cmpF p (a, b, 0) ≠ 0 → l.find? (feF a b) = none) ∧ (l[i]? = none → l.find? (feF a b) = none)) := Lib.hid fun i h1 h2 => fb_found HS.out h1 h2
  generalize ((a, b, (0 : Int)) : Fe) = t at HFF ⊢
  clear HT
  go_enter Tryd.func70, Tryd.ntmps70
  go_wp2_with fail
  go_loopg [9, 10] l.length (BfRel w l t)
  case atStart => exact ⟨0, l.length, rfl, rfl, Nat.zero_le _, Nat.le_refl _, by omega, fun j s hj => absurd hj (Nat.not_lt_zero _), fun j s hj hu => by have h1 := (List.getElem?_eq_some_iff.1 hu).1; omega, Bk.new w _ _, (G.refl _ _).alloc _⟩
  case round =>
    obtain ⟨lo, hi, rfl, rfl, hlh, hin, hg, hbe, hfr, hB, hG⟩ := hrel
    have HBE := Lib.hid hbe
    have HFR := Lib.hid hfr
    clear hbe hfr
    by_cases hlt : lo < hi
    · obtain ⟨m, hm0'⟩ : ∃ m, (lo + hi) / 2 = m := ⟨_, rfl⟩
      have hml' : lo ≤ m ∧ m < hi := by omega
      obtain ⟨hml1, hml2⟩ := hml'
      have hmi : ((lo : Int) + (hi : Int)) / 2 = (m : Int) := by omega
      have HM := Lib.hid hm0'
      clear hm0'
      obtain ⟨p, hp⟩ : ∃ p, l[m]? = some p := ⟨_, List.getElem?_eq_getElem (by omega)⟩
      obtain ⟨bb, bo, rfl, hbb, _⟩ := RdR.elem feC_sz HR.out hG hp
      have HP := Lib.hid hp
      have d0 := RdR.cell feC_sz HR.out hG hp 0 (.string p.1) rfl
      have d1 := RdR.cell feC_sz HR.out hG hp 1 (.string p.2.1) rfl
      have d2 := RdR.cell feC_sz HR.out hG hp 2 (.int .i64 p.2.2) rfl
      have c0 : wr.cell? ⟨w.heap.size, 0, none⟩ = some (.string t.1) := hB.cell 0
      have c1 : wr.cell? ⟨w.heap.size, 1, none⟩ = some (.string t.2.1) := hB.cell 1
      have c2 : wr.cell? ⟨w.heap.size, 2, none⟩ = some (.int .i64 t.2.2) := hB.cell 2
      simp only [Nat.add_zero] at d0
      have hgl := hB.lt
      have hbw := Nat.lt_of_lt_of_le hbb hG.size
      have hm0 : (0 : Int) ≤ (m : Int) := Int.natCast_nonneg m
      have hml : (m : Int) < (l.length : Int) := by omega
      clear hp
      by_cases hc : cmpF p t < 0
      · have HU := Lib.hid (BelowF.up HS.out HP.out hc)
        go_wp2_with fail
        go_region_held3 (fun w' => w'.cell? ⟨bb, bo + m * 3, none⟩ = some (.string p.1) ∧ w'.cell? ⟨bb, bo + m * 3 + 1, none⟩ = some (.string p.2.1) ∧ w'.cell? ⟨bb, bo + m * 3 + 2, none⟩ = some (.int .i64 p.2.2) ∧ w'.cell? ⟨w.heap.size, 0, none⟩ = some (.string t.1) ∧ w'.cell? ⟨w.heap.size, 1, none⟩ = some (.string t.2.1) ∧ w'.cell? ⟨w.heap.size, 2, none⟩ = some (.int .i64 t.2.2)) (first | exact ⟨d0, d1, d2, c0, c1, c2⟩ | exact hS6 | go_keep) (first | (go_at_call 71; refine (compareFees_c p t _).mono ?_; rintro e w6 ⟨rfl, hG6⟩; have hG06 := hG.drew.trans hG6; have hB8 := (hB.quiet ((G.refl wr none).drew)).quiet hG6; have hS6 : w6.cell? ⟨bb, bo + m * 3, none⟩ = some (.string p.1) ∧ w6.cell? ⟨bb, bo + m * 3 + 1, none⟩ = some (.string p.2.1) ∧ w6.cell? ⟨bb, bo + m * 3 + 2, none⟩ = some (.int .i64 p.2.2) ∧ w6.cell? ⟨w.heap.size, 0, none⟩ = some (.string t.1) ∧ w6.cell? ⟨w.heap.size, 1, none⟩ = some (.string t.2.1) ∧ w6.cell? ⟨w.heap.size, 2, none⟩ = some (.int .i64 t.2.2) := ⟨((gcell hG6).1 bb _ hbw).trans d0, ((gcell hG6).1 bb _ hbw).trans d1, ((gcell hG6).1 bb _ hbw).trans d2, ((gcell hG6).1 w.heap.size _ hgl).trans c0, ((gcell hG6).1 w.heap.size _ hgl).trans c1, ((gcell hG6).1 w.heap.size _ hgl).trans c2⟩))
        go_wp2_with fail
        go_roundg (hi - (m + 1))
        case measure => omega
        case rel => exact ⟨m + 1, hi, by go_num, rfl, by omega, hin, Nat.le_refl _, HU.out, HFR.out, hB8, hG06⟩
      · have hc' : 0 ≤ cmpF p t := by omega
        have HU := Lib.hid (FromF.down HS.out HP.out hc')
        clear hc
        go_wp2_with fail
        go_region_held3 (fun w' => w'.cell? ⟨bb, bo + m * 3, none⟩ = some (.string p.1) ∧ w'.cell? ⟨bb, bo + m * 3 + 1, none⟩ = some (.string p.2.1) ∧ w'.cell? ⟨bb, bo + m * 3 + 2, none⟩ = some (.int .i64 p.2.2) ∧ w'.cell? ⟨w.heap.size, 0, none⟩ = some (.string t.1) ∧ w'.cell? ⟨w.heap.size, 1, none⟩ = some (.string t.2.1) ∧ w'.cell? ⟨w.heap.size, 2, none⟩ = some (.int .i64 t.2.2)) (first | exact ⟨d0, d1, d2, c0, c1, c2⟩ | exact hS6 | go_keep) (first | (go_at_call 71; refine (compareFees_c p t _).mono ?_; rintro e w6 ⟨rfl, hG6⟩; have hG06 := hG.drew.trans hG6; have hB8 := (hB.quiet ((G.refl wr none).drew)).quiet hG6; have hS6 : w6.cell? ⟨bb, bo + m * 3, none⟩ = some (.string p.1) ∧ w6.cell? ⟨bb, bo + m * 3 + 1, none⟩ = some (.string p.2.1) ∧ w6.cell? ⟨bb, bo + m * 3 + 2, none⟩ = some (.int .i64 p.2.2) ∧ w6.cell? ⟨w.heap.size, 0, none⟩ = some (.string t.1) ∧ w6.cell? ⟨w.heap.size, 1, none⟩ = some (.string t.2.1) ∧ w6.cell? ⟨w.heap.size, 2, none⟩ = some (.int .i64 t.2.2) := ⟨((gcell hG6).1 bb _ hbw).trans d0, ((gcell hG6).1 bb _ hbw).trans d1, ((gcell hG6).1 bb _ hbw).trans d2, ((gcell hG6).1 w.heap.size _ hgl).trans c0, ((gcell hG6).1 w.heap.size _ hgl).trans c1, ((gcell hG6).1 w.heap.size _ hgl).trans c2⟩))
        go_wp2_with fail
        go_roundg (m - lo)
        case measure => omega
        case rel => exact ⟨lo, m, rfl, rfl, by omega, by omega, Nat.le_refl _, HBE.out, HU.out, hB8, hG06⟩
    · obtain rfl : lo = hi := by omega
      obtain ⟨f1, f2, f3⟩ := HFF.out lo HBE.out HFR.out
      have HF1 := Lib.hid f1
      have HF2 := Lib.hid f2
      have HF3 := Lib.hid f3
      clear f1 f2 f3
      by_cases hn' : lo < l.length
      · obtain ⟨p, hp⟩ : ∃ p, l[lo]? = some p := ⟨_, List.getElem?_eq_getElem hn'⟩
        obtain ⟨bb, bo, rfl, hbb, _⟩ := RdR.elem feC_sz HR.out hG hp
        have HP := Lib.hid hp
        have d0 := RdR.cell feC_sz HR.out hG hp 0 (.string p.1) rfl
        have d1 := RdR.cell feC_sz HR.out hG hp 1 (.string p.2.1) rfl
        have d2 := RdR.cell feC_sz HR.out hG hp 2 (.int .i64 p.2.2) rfl
        have c0 : wr.cell? ⟨w.heap.size, 0, none⟩ = some (.string t.1) := hB.cell 0
        have c1 : wr.cell? ⟨w.heap.size, 1, none⟩ = some (.string t.2.1) := hB.cell 1
        have c2 : wr.cell? ⟨w.heap.size, 2, none⟩ = some (.int .i64 t.2.2) := hB.cell 2
        simp only [Nat.add_zero] at d0
        have hgl := hB.lt
        have hbw := Nat.lt_of_lt_of_le hbb hG.size
        have hm0 : (0 : Int) ≤ (lo : Int) := Int.natCast_nonneg lo
        have hml : (lo : Int) < (l.length : Int) := by omega
        clear hp
        by_cases hc : cmpF p t = 0
        · have HN : Hid (l.find? (feF a b) = some p) := Lib.hid (HF1.out p HP.out hc)
          go_wp2_with fail
          go_region_held3 (fun w' => w'.cell? ⟨bb, bo + lo * 3, none⟩ = some (.string p.1) ∧ w'.cell? ⟨bb, bo + lo * 3 + 1, none⟩ = some (.string p.2.1) ∧ w'.cell? ⟨bb, bo + lo * 3 + 2, none⟩ = some (.int .i64 p.2.2) ∧ w'.cell? ⟨w.heap.size, 0, none⟩ = some (.string t.1) ∧ w'.cell? ⟨w.heap.size, 1, none⟩ = some (.string t.2.1) ∧ w'.cell? ⟨w.heap.size, 2, none⟩ = some (.int .i64 t.2.2)) (first | exact ⟨d0, d1, d2, c0, c1, c2⟩ | exact hS6 | go_keep) (first | (go_at_call 71; refine (compareFees_c p t _).mono ?_; rintro e w6 ⟨rfl, hG6⟩; have hG06 := hG.drew.trans hG6; have hB8 := (hB.quiet ((G.refl wr none).drew)).quiet hG6; have hS6 : w6.cell? ⟨bb, bo + lo * 3, none⟩ = some (.string p.1) ∧ w6.cell? ⟨bb, bo + lo * 3 + 1, none⟩ = some (.string p.2.1) ∧ w6.cell? ⟨bb, bo + lo * 3 + 2, none⟩ = some (.int .i64 p.2.2) ∧ w6.cell? ⟨w.heap.size, 0, none⟩ = some (.string t.1) ∧ w6.cell? ⟨w.heap.size, 1, none⟩ = some (.string t.2.1) ∧ w6.cell? ⟨w.heap.size, 2, none⟩ = some (.int .i64 t.2.2) := ⟨((gcell hG6).1 bb _ hbw).trans d0, ((gcell hG6).1 bb _ hbw).trans d1, ((gcell hG6).1 bb _ hbw).trans d2, ((gcell hG6).1 w.heap.size _ hgl).trans c0, ((gcell hG6).1 w.heap.size _ hgl).trans c1, ((gcell hG6).1 w.heap.size _ hgl).trans c2⟩))
          go_wp2_with fail
          go_ret2
          refine ⟨lo, ?_, fun q hq => ?_, hG06⟩
          · rw [HN.out]; rfl
          · rw [HN.out] at hq; rw [HP.out]; exact hq
        · have HN : Hid (l.find? (feF a b) = none) := Lib.hid (HF2.out p HP.out hc)
          have hc' : (cmpF p t == 0) = false := by simpa using hc
          clear hc
          go_wp2_with fail
          go_region_held3 (fun w' => w'.cell? ⟨bb, bo + lo * 3, none⟩ = some (.string p.1) ∧ w'.cell? ⟨bb, bo + lo * 3 + 1, none⟩ = some (.string p.2.1) ∧ w'.cell? ⟨bb, bo + lo * 3 + 2, none⟩ = some (.int .i64 p.2.2) ∧ w'.cell? ⟨w.heap.size, 0, none⟩ = some (.string t.1) ∧ w'.cell? ⟨w.heap.size, 1, none⟩ = some (.string t.2.1) ∧ w'.cell? ⟨w.heap.size, 2, none⟩ = some (.int .i64 t.2.2)) (first | exact ⟨d0, d1, d2, c0, c1, c2⟩ | exact hS6 | go_keep) (first | (go_at_call 71; refine (compareFees_c p t _).mono ?_; rintro e w6 ⟨rfl, hG6⟩; have hG06 := hG.drew.trans hG6; have hB8 := (hB.quiet ((G.refl wr none).drew)).quiet hG6; have hS6 : w6.cell? ⟨bb, bo + lo * 3, none⟩ = some (.string p.1) ∧ w6.cell? ⟨bb, bo + lo * 3 + 1, none⟩ = some (.string p.2.1) ∧ w6.cell? ⟨bb, bo + lo * 3 + 2, none⟩ = some (.int .i64 p.2.2) ∧ w6.cell? ⟨w.heap.size, 0, none⟩ = some (.string t.1) ∧ w6.cell? ⟨w.heap.size, 1, none⟩ = some (.string t.2.1) ∧ w6.cell? ⟨w.heap.size, 2, none⟩ = some (.int .i64 t.2.2) := ⟨((gcell hG6).1 bb _ hbw).trans d0, ((gcell hG6).1 bb _ hbw).trans d1, ((gcell hG6).1 bb _ hbw).trans d2, ((gcell hG6).1 w.heap.size _ hgl).trans c0, ((gcell hG6).1 w.heap.size _ hgl).trans c1, ((gcell hG6).1 w.heap.size _ hgl).trans c2⟩))
          go_wp2_with fail
          go_ret2
          refine ⟨lo, ?_, fun q hq => ?_, hG06⟩
          · rw [HN.out]; rfl
          · rw [HN.out] at hq; cases hq
      · have HN : Hid (l.find? (feF a b) = none) := Lib.hid (HF3.out (List.getElem?_eq_none (by omega)))
        have hlo : l.length ≤ lo := by omega
        go_wp2_with fail
        go_quiet (fail)
        have hGq := hG.drewN nq
        go_wp2_with fail
        go_ret2
        refine ⟨lo, ?_, fun q hq => ?_, hGq⟩
        · rw [HN.out]; rfl
        · rw [HN.out] at hq; cases hq
end Go.Proofs.YtgofeigebldkiaaDoor
