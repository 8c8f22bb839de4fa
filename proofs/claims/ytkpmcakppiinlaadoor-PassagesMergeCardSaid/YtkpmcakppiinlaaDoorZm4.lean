/- Tck, Mgp, Mgb, Tmg, Tru, Cln, Grw, Cct, Paf, Gaf, Gps. -/
import Derived.Test.YtkpmcakppiinlaaDoorZm3
import Derived.Test.YtkpmcakppiinlaaDoorZm1
import Derived.Lib.AppendZeros
import Derived.Test.YtkpmcakppiinlaaDoorZm2
/- Passages at gates: toll.Check, toll.checkRuled. Written by gentck.py. -/
namespace Go.Proofs.YtkpmcakppiinlaaDoor
open Go.RowKit

def tkErr (g : List Ga) : List Pa → Int
  | [] => 0
  | p :: r => if (gaS g p.2.1).isSome = false then 8 else if momB (p.1 - clk g p.2.1) = false then 16 else tkErr g r
def tcE (g : List Ga) (l : List Pa) : Int := if gaE g = 0 then (if paE l = 0 then tkErr g l else paE l) else gaE g
def rdE (x : Tr) (g : List Ga) (l : List Pa) : Int := if trE x = 0 then tcE g l else trE x
theorem pa_bnd (b : Option Pa) (l : List Pa) (h : paErr b l = 0) : ∀ p ∈ l, 0 ≤ p.1 ∧ p.1 < 5761440 := by
  induction l generalizing b with
  | nil => exact fun p hp => by cases hp
  | cons p r ih =>
    unfold paErr at h
    split at h
    · omega
    · rename_i hm
      split at h
      · omega
      · split at h
        · omega
        · split at h
          · omega
          · split at h
            · omega
            · have i3 := ih _ h
              intro q hq
              rcases List.mem_cons.1 hq with rfl | hq
              · unfold momB at hm
                simp at hm
                omega
              · exact i3 q hq
theorem paE_ok {l : List Pa} (h : paE l = 0) : (∀ p ∈ l, 0 ≤ p.1 ∧ p.1 < 5761440) ∧ l.length ≤ 1000 := by
  unfold paE at h
  split at h
  · omega
  · exact ⟨pa_bnd _ _ h, by omega⟩
def TcRel (w : World) (gs : List Ga) (l : List Pa) (b c : Nat) (f : Fn) (i : Value) (wr : World) : Prop :=
  ∃ k : Nat, k ≤ l.length ∧ i = .int .i64 k ∧ tkErr gs l = tkErr gs (l.drop k) ∧ MapG wr b c f ∧ G w wr none
set_option maxRecDepth 100000 in
set_option maxHeartbeats 8000000 in
theorem tollCheck_c (v v2 : Value) (gs : List Ga) (l : List Pa) (w : World) (hr : RdR w 3 gaC v gs) (hr2 : RdR w 4 paC v2 l) (hl : GaOk gs) (hl2 : PaOk l) (hn : gs.length ≤ 1000) (hn2 : l.length ≤ 1000000) :
    Calls Tryd.prog 14 #[v, v2] w fun e w' => e = .returned (.int .i64 (tcE gs l)) ∧ G w w' none := by
  obtain ⟨a, cap, rfl, hcap, hm⟩ := RdR.form hr
  obtain ⟨a2, cap2, rfl, hcap2, hm2⟩ := RdR.form hr2
  obtain ⟨E, hE⟩ : ∃ E, tcE gs l = E := ⟨_, rfl⟩
  have HE : Hid (E = if gaE gs = 0 then (if paE l = 0 then tkErr gs l else paE l) else gaE gs) := Lib.hid (by rw [← hE]; rfl)
  rw [hE]
  clear hE
  go_enter Tryd.func14, Tryd.ntmps14
  go_wp2_with fail
  refine (checkGates_c _ gs _ hr hl (by omega)).mono ?_; rintro e w1 ⟨rfl, hG⟩
  replace hr := hr.quiet hG
  replace hr2 := hr2.quiet hG
  obtain ⟨E1, hE1⟩ : ∃ E1, gaE gs = E1 := ⟨_, rfl⟩
  have HG := Lib.hid hE1
  rw [hE1] at HE ⊢
  clear hE1
  by_cases e1 : E1 = 0
  · subst e1
    have HE2 : Hid (E = if paE l = 0 then tkErr gs l else paE l) := Lib.hid (by rw [HE.out, if_pos rfl])
    clear HE
    go_wp2_with fail
    refine (paForm_c _ l _ hr2 hl2 hn2).mono ?_; rintro e w2 ⟨rfl, hh⟩
    replace hr := hr.quiet hh
    replace hr2 := hr2.quiet hh
    replace hG := hG.trans hh
    clear hh
    obtain ⟨E2, hE2⟩ : ∃ E2, paE l = E2 := ⟨_, rfl⟩
    have HP := Lib.hid hE2
    rw [hE2] at HE2 ⊢
    clear hE2
    by_cases e2 : E2 = 0
    · subst e2
      have HE3 : Hid (E = tkErr gs l) := Lib.hid (by rw [HE2.out, if_pos rfl])
      have HPB := Lib.hid (paE_ok HP.out).1
      have HGB := Lib.hid (gaE_ok HG.out).2.1
      clear HE2
      go_wp2_with fail
      refine (gatesOf_c _ gs _ hr hl hn).mono ?_; rintro e w3 ⟨b, rfl, hbb0, hM, hh⟩
      have HR2 := Lib.hid (hr2.quiet hh)
      replace hG := hG.trans hh
      clear hr hr2 hh
      obtain ⟨F, hF⟩ : ∃ F, gaF eF gs = F := ⟨_, rfl⟩
      have HF := Lib.hid hF
      generalize gaN 0 eF gs = cn at hM
      rw [hF] at hM
      clear hF
      go_wp2_with fail
      go_loopw [26] (TcRel w3 gs l b cn F) (fun i _ => l.length - (intOf i).toNat)
      case atStart => exact ⟨0, by omega, rfl, rfl, hM, G.refl _ _⟩
      case round =>
        clear hM
        obtain ⟨k, hkl, rfl, heq, hM, hGr⟩ := hrel
        have HQ := Lib.hid heq
        clear heq
        by_cases hk : k < l.length
        · obtain ⟨⟨t, gk, y, c⟩, hp⟩ : ∃ p, l[k]? = some p := ⟨_, List.getElem?_eq_getElem hk⟩
          have hdrop : l.drop k = (t, gk, y, c) :: l.drop (k + 1) := by rw [List.drop_eq_getElem_cons hk, ← (List.getElem?_eq_some_iff.1 hp).2]
          have hpm := List.mem_of_getElem? hp
          have HT := Lib.hid (HPB.out _ hpm)
          have hs1 := (hl2 _ hpm).1
          have HSm := Lib.hid hs1
          dsimp only at hs1 HT HSm
          unfold Small at hs1
          obtain ⟨bb, bo, rfl, hbb, _⟩ := RdR.elem paC_sz HR2.out hGr hp
          have HW := Lib.hid (paRow HR2.out hGr hp)
          have HS : Hid (tkErr gs (l.drop k) = if (gaS gs gk).isSome = false then 8 else if momB (t - clk gs gk) = false then 16 else tkErr gs (l.drop (k + 1))) := Lib.hid (by rw [hdrop]; rfl)
          have hfa : Hid (F gk = (gaS gs gk).map (fun u => .agg (gaC u))) := Lib.hid (by rw [← HF.out, gaF_at])
          have HK := Lib.hid hk
          have hB5 : Bk (wr.alloc (.cells #[.int .i64 t, .string gk, .string y, .int .i64 c] 34)) wr.heap.size 34 #[.int .i64 t, .string gk, .string y, .int .i64 c] := Bk.new wr 34 _
          have hG5 : G w3 (wr.alloc (.cells #[.int .i64 t, .string gk, .string y, .int .i64 c] 34)) none := hGr.alloc (.cells (paC (t, gk, y, c)) 34)
          have hM5 := hM.alloc (.cells #[.int .i64 t, .string gk, .string y, .int .i64 c] 34)
          clear hdrop hp hGr hM hpm
          go_upto_region 11 with (refine wpList_load_at rfl 34 _ rfl ⟨bb, bo + k * 4, none⟩ rfl #[.int .i64 t, .string gk, .string y, .int .i64 c] _ HW.out Tryd.underlying34 rfl (pa_info (t, gk, y, c)) ?_)
          clear HW
          generalize wr.alloc (.cells #[.int .i64 t, .string gk, .string y, .int .i64 c] 34) = w5 at hB5 hG5 hM5 ⊢
          generalize wr.heap.size = g5 at hB5 ⊢
          have c1 : w5.cell? ⟨g5, 1, none⟩ = some (.string gk) := hB5.cell 1
          cases hg : gaS gs gk with
          | none =>
            have hfs : F gk = none := by rw [hfa.out, hg]; rfl
            obtain rfl : E = 8 := by rw [HE3.out, HQ.out, HS.out, hg]; rfl
            have hG6 := hG5.alloc (.cells #[.string ⟨#[]⟩, .string ⟨#[]⟩, .int .i64 0] 51)
            clear hg
            go_wp2_with (at_lookup; refine wpM_look_ok rfl _ _ 65 rfl 9 51 Tryd.underlying9 Tryd.underlying65 (.agg #[.string ⟨#[]⟩, .string ⟨#[]⟩, .int .i64 0]) (zg_run _) b cn F rfl hM5 gk rfl hs1 ?_; rw [hfs])
            go_ret
            exact ⟨rfl, hG.trans hG6⟩
          | some u =>
            obtain ⟨k1, a1, q1⟩ := u
            have hfs : F gk = some (.agg #[.string k1, .string a1, .int .i64 q1]) := by rw [hfa.out, hg]; rfl
            have HS2 : Hid (tkErr gs (l.drop k) = if momB (t - clk gs gk) = false then 16 else tkErr gs (l.drop (k + 1))) := Lib.hid (by rw [HS.out, hg]; rfl)
            have hG6 := hG5.alloc (.cells #[.string k1, .string a1, .int .i64 q1] 51)
            have hM6 := hM5.alloc (.cells #[.string k1, .string a1, .int .i64 q1] 51)
            have hB6 := hB5.alloc (.cells #[.string k1, .string a1, .int .i64 q1] 51)
            clear hg
            go_upto_region 12 with (at_lookup; refine wpM_look_ok rfl _ _ 65 rfl 9 51 Tryd.underlying9 Tryd.underlying65 (.agg #[.string ⟨#[]⟩, .string ⟨#[]⟩, .int .i64 0]) (zg_run _) b cn F rfl hM5 gk rfl hs1 ?_; rw [hfs])
            generalize w5.alloc (.cells #[.string k1, .string a1, .int .i64 q1] 51) = w6 at hG6 hM6 hB6 ⊢
            clear hB5 hG5 hM5 c1
            go_wp2_with (refine wpList_load_row rfl 34 _ rfl g5 rfl 34 #[.int .i64 t, .string gk, .string y, .int .i64 c] (0, 0) _ hB6 Tryd.underlying34 rfl (pa_info (t, gk, y, c)) ?_)
            refine (trueTime_c b cn gs (t, gk, y, c) _ (by rw [HF.out]; exact hM6) HSm.out (by have := HT.out; dsimp only; omega) HGB.out).mono ?_; rintro e w7 ⟨rfl, hh⟩
            have hG7 := hG6.trans hh
            have hM7 := hM6.quiet hh
            clear hG6 hM6 hB6 hh
            dsimp only
            generalize t - clk gs gk = tt at HS2 ⊢
            go_wp2_with fail
            refine (isMoment_c tt _).mono ?_; rintro e w' ⟨rfl, rfl⟩
            cases hmb : momB tt with
            | false =>
              obtain rfl : E = 16 := by rw [HE3.out, HQ.out, HS2.out, if_pos hmb]
              clear hmb
              go_wp2_with fail
              go_ret
              exact ⟨rfl, hG.trans hG7⟩
            | true =>
              have HN : Hid (tkErr gs l = tkErr gs (l.drop (k + 1))) := Lib.hid (by rw [HQ.out, HS2.out, if_neg (by simp [hmb])])
              clear hmb
              go_wp2_with fail
              go_roundw
              case rel => exact ⟨k + 1, (by have := HK.out; omega), by go_num, HN.out, hM7, hG7⟩
              case measure => have := HK.out; simp [intOf]; omega
        · obtain rfl : k = l.length := by omega
          obtain rfl : E = 0 := by rw [HE3.out, HQ.out, List.drop_length]; rfl
          go_wp2_with fail
          go_ret
          exact ⟨rfl, hG.trans hGr⟩
    · obtain rfl : E = E2 := by rw [HE2.out, if_neg e2]
      have hb : (E != 0) = true := bne_iff_ne.2 e2
      clear HE2 HP e2
      go_wp2_with fail
      go_ret
      exact ⟨rfl, hG⟩
  · obtain rfl : E = E1 := by rw [HE.out, if_neg e1]
    have hb : (E != 0) = true := bne_iff_ne.2 e1
    clear HE HG e1
    go_wp2_with fail
    go_ret
    exact ⟨rfl, hG⟩
set_option maxRecDepth 100000 in
set_option maxHeartbeats 4000000 in
theorem checkRuled_c (x : Tr) (v v2 : Value) (gs : List Ga) (l : List Pa) (w : World) (hr : RdR w 3 gaC v gs) (hr2 : RdR w 4 paC v2 l) (hl : GaOk gs) (hl2 : PaOk l) (hn : gs.length ≤ 1000) (hn2 : l.length ≤ 1000000) :
    Calls Tryd.prog 60 #[v, .agg (trC x), v2] w fun e w' => e = .returned (.int .i64 (rdE x gs l)) ∧ G w w' none := by
  obtain ⟨E, hE⟩ : ∃ E, rdE x gs l = E := ⟨_, rfl⟩
  have HE : Hid (E = if trE x = 0 then tcE gs l else trE x) := Lib.hid (by rw [← hE]; rfl)
  rw [hE]
  clear hE
  have CT := Lib.hid (fun w => tollRules_c x w)
  obtain ⟨d, q, f⟩ := x
  show Calls Tryd.prog 60 #[v, .agg #[.int .i64 d, .int .i64 q, .int .i64 f], v2] w _
  have hB : Bk (w.alloc (.cells #[.int .i64 d, .int .i64 q, .int .i64 f] 73)) w.heap.size 73 #[.int .i64 d, .int .i64 q, .int .i64 f] := Bk.new _ _ _
  have hG := (G.refl w none).alloc (.cells #[.int .i64 d, .int .i64 q, .int .i64 f] 73)
  go_enter Tryd.func60, Tryd.ntmps60
  go_upto_region 1 with fail
  generalize w.alloc (.cells #[.int .i64 d, .int .i64 q, .int .i64 f] 73) = w1 at hB hG ⊢
  generalize w.heap.size = g at hB ⊢
  go_wp2_with (refine wpList_load_row rfl 73 _ rfl g rfl 73 #[.int .i64 d, .int .i64 q, .int .i64 f] (0, 0) _ hB Tryd.underlying73 rfl (tr_info (d, q, f)) ?_)
  refine (CT.out _).mono ?_; rintro e w2 ⟨rfl, hh⟩
  replace hr := (hr.quiet hG).quiet hh
  replace hr2 := (hr2.quiet hG).quiet hh
  replace hG := hG.trans hh
  clear hh hB
  generalize trE (d, q, f) = E1 at HE ⊢
  by_cases e1 : E1 = 0
  · subst e1
    obtain rfl : E = tcE gs l := by rw [HE.out, if_pos rfl]
    clear HE
    go_wp2_with fail
    refine (tollCheck_c _ _ gs l _ hr hr2 hl hl2 hn hn2).mono ?_; rintro e w3 ⟨rfl, hh⟩
    go_wp2_with fail
    go_ret
    exact ⟨rfl, hG.trans hh⟩
  · obtain rfl : E = E1 := by rw [HE.out, if_neg e1]
    have hb : (E != 0) = true := bne_iff_ne.2 e1
    clear HE e1
    go_wp2_with fail
    go_ret
    exact ⟨rfl, hG⟩
end Go.Proofs.YtkpmcakppiinlaaDoor

/- The order of passages; right lists of passages rise (mathematics). No program. -/
namespace Go.Proofs.YtkpmcakppiinlaaDoor
open Go.RowKit

theorem ord_cmpS : OrdC cmpS := ⟨fun x y => by unfold cmpS; split <;> split <;> (try split) <;> (try split) <;> omega, fun x y z => by unfold cmpS; intro h1 h2; split at h1 <;> split at h2 <;> split <;> (try split at h1) <;> (try split at h2) <;> (try split) <;> omega⟩
theorem ord_cmpI : OrdC cmpI := ⟨fun x y => by have := cmpI_neg x y; omega, fun x y z h1 h2 => by
  by_cases e1 : cmpI x y = 0
  · rw [cmpI_eq.1 e1]; exact h2
  · by_cases e2 : cmpI y z = 0
    · rw [← cmpI_eq.1 e2]; exact h1
    · have := cmpI_trans (a := x) (b := y) (c := z) (by omega) (by omega)
      omega⟩
theorem OrdC.on {α β : Type} {c : β → β → Int} (h : OrdC c) (f : α → β) : OrdC (fun x y => c (f x) (f y)) := ⟨fun _ _ => h.anti _ _, fun _ _ _ => h.trans _ _ _⟩
theorem OrdC.lex {α : Type} {c d : α → α → Int} (h : OrdC c) (k : OrdC d) : OrdC (fun x y => orI (c x y) (d x y)) := ⟨fun x y => by
    have a1 := h.anti x y
    have a2 := h.anti y x
    have a3 := k.anti x y
    unfold orI
    split <;> split <;> omega, fun x y z => by
    intro h1 h2
    unfold orI at h1 h2 ⊢
    have a1 := h.anti x y
    have a2 := h.anti y x
    have a3 := h.anti y z
    have a4 := h.anti z y
    have a5 := h.anti x z
    have a6 := h.anti z x
    have a7 := h.trans x y z
    have a8 := h.trans z y x
    have a9 := k.trans x y z
    have b1 := fun e => h.lt_le (x := x) (y := y) (z := z) e
    have b2 := fun e => h.le_lt (x := x) (y := y) (z := z) e
    by_cases e1 : c x y = 0
    · by_cases e2 : c y z = 0
      · have e3 : c x z = 0 := by
          have := a7 (by omega) (by omega)
          have := a8 (by omega) (by omega)
          omega
        rw [if_pos e1] at h1
        rw [if_pos e2] at h2
        rw [if_pos e3]
        exact a9 h1 h2
      · rw [if_neg e2] at h2
        have := b2 (by omega) (by omega)
        rw [if_neg (by omega)]
        omega
    · rw [if_neg e1] at h1
      have : c y z ≤ 0 := by
        by_cases e2 : c y z = 0
        · omega
        · rw [if_neg e2] at h2; exact h2
      have := b1 (by omega) this
      rw [if_neg (by omega)]
      omega⟩
theorem ord_cmpP : OrdC cmpP := (ord_cmpS.on (fun x : Pa => x.1)).lex ((ord_cmpI.on (fun x : Pa => x.2.1)).lex (ord_cmpI.on (fun x : Pa => x.2.2.1)))
theorem pa_rise : ∀ (l : List Pa) (b : Option Pa), paErr b l = 0 → (∀ q, b = some q → ∀ x ∈ l, cmpP q x < 0) ∧ l.Pairwise (fun p q => cmpP p q < 0)
  | [], _, _ => ⟨fun _ _ x hx => (by cases hx), List.Pairwise.nil⟩
  | x :: r, b, h => by
    unfold paErr at h
    split at h
    · omega
    split at h
    · omega
    split at h
    · omega
    split at h
    · omega
    split at h
    · omega
    rename_i ha
    obtain ⟨i1, i2⟩ := pa_rise r (some x) h
    have i3 : ∀ z ∈ r, cmpP x z < 0 := i1 x rfl
    refine ⟨fun q e z hz => ?_, List.pairwise_cons.2 ⟨i3, i2⟩⟩
    subst e
    have h1 : cmpP q x < 0 := by
      unfold paAfter at ha
      simp at ha
      exact ha
    rcases List.mem_cons.1 hz with rfl | hz
    · exact h1
    · exact ord_cmpP.lt_le h1 (by have := i3 z hz; omega)
theorem paE_rise {l : List Pa} (h : paE l = 0) : l.Pairwise (fun p q => cmpP p q < 0) := by
  unfold paE at h
  split at h
  · omega
  · exact (pa_rise l none h).2
/-- What is made of two right lists, and as the reference makes it. -/
theorem paMg_ref {a b : List Pa} (ha : paE a = 0) (hb : paE b = 0) :
    mg cmpP a b = if tieL cmpP (cpL (fun x y => decide (x = y)) (isrt (fun p q => decide (cmpP p q < 0)) (a ++ b))) = true then none else some (cpL (fun x y => decide (x = y)) (isrt (fun p q => decide (cmpP p q < 0)) (a ++ b))) :=
  mg_ref ord_cmpP a b (paE_rise ha) (paE_rise hb)
end Go.Proofs.YtkpmcakppiinlaaDoor

/- basic.Merge at passages. Written by genmgb.py. -/
namespace Go.Proofs.YtkpmcakppiinlaaDoor
open Go.RowKit

theorem cmpP_range (x y : Pa) : cmpP x y = -1 ∨ cmpP x y = 0 ∨ cmpP x y = 1 := by
  have h1 : cmpS x.1 y.1 = -1 ∨ cmpS x.1 y.1 = 0 ∨ cmpS x.1 y.1 = 1 := by unfold cmpS; split <;> (try split) <;> simp
  have h2 := cmpI_range x.2.1 y.2.1
  have h3 := cmpI_range x.2.2.1 y.2.2.1
  unfold cmpP orI
  split <;> (try split) <;> assumption
theorem RdR.dropP {α : Type} {w : World} {z : Nat} {c : α → Array Value} {bb bo n cap : Nat} {l : List α} (hz : ∀ p, (c p).size = z) (h : RdR w z c (.slice (some ⟨bb, bo, none⟩) n cap) l) (k : Nat) (hk : k ≤ l.length) :
    RdR w z c (.slice (if cap = k then some ⟨bb, bo, none⟩ else some ⟨bb, bo + k * z, none⟩) (n - k) (cap - k)) (l.drop k) := by
  obtain ⟨a', c', e, h1, h2, h3, h4, h5⟩ := h
  cases e
  have hlen : (l.drop k).length = l.length - k := List.length_drop
  refine ⟨_, _, by rw [hlen], by omega, by omega, rowL_len hz _, fun e => ?_, fun b hb => ?_⟩
  · split at e <;> simp at e
  · obtain ⟨q1, q2, q3⟩ := h5 _ rfl
    by_cases hc : cap = k
    · rw [if_pos hc] at hb
      cases hb
      have hl0 : l.drop k = [] := List.eq_nil_of_length_eq_zero (by omega)
      exact ⟨q1, q2, fun j u hj => by rw [hl0] at hj; simp [rowL] at hj⟩
    · rw [if_neg hc] at hb
      cases hb
      refine ⟨rfl, q2, fun j u hj => ?_⟩
      have e2 : rowL c l = rowL c (l.take k) ++ rowL c (l.drop k) := by
        unfold rowL
        rw [← List.flatMap_append, List.take_append_drop]
      have hlk : (rowL c (l.take k)).length = k * z := by rw [rowL_len hz, List.length_take, Nat.min_eq_left hk]
      have := q3 (k * z + j) u (by rw [e2, List.getElem?_append_right (by omega), hlk, show k * z + j - k * z = j by omega]; exact hj)
      dsimp only at this ⊢
      rw [show bo + k * z + j = bo + (k * z + j) by omega]
      exact this
theorem mg_head {a b : List Pa} {x y : Pa} (hx : a[0]? = some x) (hy : b[0]? = some y) : mg cmpP a b = if cmpP x y = 0 then (if x = y then (mg cmpP (a.drop 1) (b.drop 1)).map (x :: ·) else none) else if cmpP x y < 0 then (mg cmpP (a.drop 1) b).map (x :: ·) else (mg cmpP a (b.drop 1)).map (y :: ·) := by
  cases a with
  | nil => cases hx
  | cons p a =>
    cases b with
    | nil => cases hy
    | cons q b =>
      cases hx
      cases hy
      rfl
theorem mg_snoc {m : List Pa} {x : Pa} (o : Option (List Pa)) : (o.map (x :: ·)).map (m ++ ·) = o.map ((m ++ [x]) ++ ·) := by
  cases o <;> simp
def lenV : Value → Nat
  | .slice _ n _ => n
  | _ => 0
def MgPost (w : World) (A B : List Pa) (e : Ending) (w' : World) : Prop :=
  G w w' none ∧ ((mg cmpP A B = none ∧ e = .returned (.tuple #[.slice none 0 0, .int .i64 13])) ∨ ∃ v' l, mg cmpP A B = some l ∧ e = .returned (.tuple #[v', .int .i64 0]) ∧ OwnPa w' w.heap.size v' l ∧ l.length ≤ A.length + B.length)
def MgRel (w : World) (A B : List Pa) (s0 s1 s10 : Value) (wr : World) : Prop :=
  ∃ (a b m : List Pa), RdR w 4 paC s0 a ∧ RdR w 4 paC s1 b ∧ OwnPa wr w.heap.size s10 m ∧ a.length + b.length + m.length ≤ A.length + B.length ∧ mg cmpP A B = (mg cmpP a b).map (m ++ ·) ∧ G w wr none
theorem paQ_neq2 (x y : Pa) (w : World) : (binOp .neq 34 (.agg (paC x)) (.agg (paC y))).run Tryd.prog w = .ok (.bool (!(decide (x = y)))) w := pa_neq x y w
theorem mkPa (n : Nat) (hn : n ≤ 1000) (w : World) : ∃ cur : Array Value, cur.size = n * 4 ∧ (Instr.makeSlice 28 (.int .i64 0) (.int .i64 (n : Int))).run Tryd.prog w = .ok (.slice (some ⟨w.heap.size, 0, none⟩) 0 n) (w.alloc (.cells cur 34)) := by
  obtain ⟨i0, hi, hz0, hz1, hz2⟩ := info_parts pa_rowOk.row
  have h := run_make (P := Tryd.prog) w 28 34 i0 _ Tryd.underlying28 hi hz0 .i64 .i64 (0 : Nat) n (by omega) (by omega) (by rw [hz2]; omega) (by omega)
  refine ⟨_, ?_, h⟩
  simp [madeCells, hz1]
set_option maxRecDepth 100000 in
set_option maxHeartbeats 8000000 in
theorem mergeB_c (F : FuncId) (caps : Array Value) (v u : Value) (A B : List Pa) (w : World) (hcf : ∀ (args : Array Value) (w : World), (callFunc F args).run Tryd.prog w = .ok (.enter F args) w)
    (hal : ∀ (x y : Pa) (w' : World), Calls Tryd.prog F (#[.agg (paC x), .agg (paC y)] ++ caps) w' fun e w'' => e = .returned (.int .i64 (cmpP x y)) ∧ G w' w'' none)
    (hr : RdR w 4 paC v A) (hs : RdR w 4 paC u B) (hn : A.length + B.length ≤ 1000) :
    Calls Tryd.prog 29 #[v, u, .func (.func F) #[] caps, .int .i64 1000] w (MgPost w A B) := by
  have HAL := Lib.hid hal
  have HR := Lib.hid hr
  have HS := Lib.hid hs
  obtain ⟨n, hn2⟩ : ∃ n, A.length + B.length = n := ⟨_, rfl⟩
  obtain ⟨a, cap, rfl, hcap, hm⟩ := RdR.form hr
  obtain ⟨a2, cap2, rfl, hcap2, hm2⟩ := RdR.form hs
  have HN := Lib.hid hn2
  have hmk : IntKind.i64.wrap ((A.length : Int) + (B.length : Int)) = (n : Int) := by rw [IntKind.wrap_i64]; omega
  have hn3 : n ≤ 1000 := by omega
  clear hal hr hs hn2
  obtain ⟨cur, hcs, hrun⟩ := mkPa n hn3 w
  have HCS := Lib.hid hcs
  clear hcs
  go_enter Tryd.func29, Tryd.ntmps29
  go_wp2_with fail
  go_loopw [0, 1, 10] (MgRel w A B) (fun s0 s1 _ _ => lenV s0 + lenV s1)
  case atStart =>
    refine ⟨A, B, [], HR.out, HS.out, ?_, by simp, ?_, (G.refl w none).alloc _⟩
    · exact World.ownsRow_made w cur n (Nat.le_refl _) (by unfold maxLen; omega) HCS.out
    · cases mg cmpP A B <;> simp
  case round =>
    clear hcap hm hcap2 hm2 hmk hn3 hrun
    obtain ⟨a, b, m, hra, hrb, hown, hlen, hmg, hG⟩ := hrel
    have HRA := Lib.hid hra
    have HRB := Lib.hid hrb
    have HL := Lib.hid hlen
    have HM := Lib.hid hmg
    have HN2 := Lib.hid hn
    obtain ⟨aa, cap, rfl, hcap, hm⟩ := RdR.form hra
    obtain ⟨ab, cap2, rfl, hcap2, hm2⟩ := RdR.form hrb
    clear hra hrb hlen hmg hn
    by_cases hab : 0 < a.length ∧ 0 < b.length
    · obtain ⟨ha, hb⟩ := hab
      obtain ⟨⟨x1, x2, x3, x4⟩, hx⟩ : ∃ x, a[0]? = some x := ⟨_, List.getElem?_eq_getElem ha⟩
      obtain ⟨⟨y1, y2, y3, y4⟩, hy⟩ : ∃ y, b[0]? = some y := ⟨_, List.getElem?_eq_getElem hb⟩
      obtain ⟨bb, bo, rfl, hbb, _⟩ := RdR.elem paC_sz HRA.out hG hx
      obtain ⟨b2, o2, rfl, hb2, _⟩ := RdR.elem paC_sz HRB.out hG hy
      have hcc : ∀ w', G wr w' none → w'.cell? ⟨bb, bo, none⟩ = some (.int .i64 x1) ∧ w'.cell? ⟨bb, bo + 1, none⟩ = some (.string x2) ∧ w'.cell? ⟨bb, bo + 2, none⟩ = some (.string x3) ∧ w'.cell? ⟨bb, bo + 3, none⟩ = some (.int .i64 x4) ∧ w'.cell? ⟨b2, o2, none⟩ = some (.int .i64 y1) ∧ w'.cell? ⟨b2, o2 + 1, none⟩ = some (.string y2) ∧ w'.cell? ⟨b2, o2 + 2, none⟩ = some (.string y3) ∧ w'.cell? ⟨b2, o2 + 3, none⟩ = some (.int .i64 y4) := fun w' q9 => by
        have ex0 := RdR.cell paC_sz HRA.out (hG.trans q9) hx 0 (.int .i64 x1) rfl; have ex1 := RdR.cell paC_sz HRA.out (hG.trans q9) hx 1 (.string x2) rfl; have ex2 := RdR.cell paC_sz HRA.out (hG.trans q9) hx 2 (.string x3) rfl; have ex3 := RdR.cell paC_sz HRA.out (hG.trans q9) hx 3 (.int .i64 x4) rfl; have ey0 := RdR.cell paC_sz HRB.out (hG.trans q9) hy 0 (.int .i64 y1) rfl; have ey1 := RdR.cell paC_sz HRB.out (hG.trans q9) hy 1 (.string y2) rfl; have ey2 := RdR.cell paC_sz HRB.out (hG.trans q9) hy 2 (.string y3) rfl; have ey3 := RdR.cell paC_sz HRB.out (hG.trans q9) hy 3 (.int .i64 y4) rfl
        simp only [Nat.zero_mul, Nat.add_zero, Nat.zero_add] at ex0 ex1 ex2 ex3 ey0 ey1 ey2 ey3
        exact ⟨ex0, ex1, ex2, ex3, ey0, ey1, ey2, ey3⟩
      obtain ⟨o, ho⟩ : ∃ o, cmpP (x1, x2, x3, x4) (y1, y2, y3, y4) = o := ⟨_, rfl⟩
      have HO := Lib.hid ho
      have HRG := Lib.hid (ho ▸ cmpP_range (x1, x2, x3, x4) (y1, y2, y3, y4))
      have HST : Hid (mg cmpP a b = if o = 0 then (if ((x1, x2, x3, x4) : Pa) = (y1, y2, y3, y4) then (mg cmpP (a.drop 1) (b.drop 1)).map ((x1, x2, x3, x4) :: ·) else none) else if o < 0 then (mg cmpP (a.drop 1) b).map ((x1, x2, x3, x4) :: ·) else (mg cmpP a (b.drop 1)).map ((y1, y2, y3, y4) :: ·)) := Lib.hid (ho ▸ mg_head hx hy)
      have HA := Lib.hid (RdR.dropP paC_sz HRA.out 1 ha)
      have HB := Lib.hid (RdR.dropP paC_sz HRB.out 1 hb)
      have ha2 : (0 : Int) < (a.length : Int) := by omega
      have hb2 : (0 : Int) < (b.length : Int) := by omega
      clear ho hx hy
      go_upto_region 3 with fail
      have hS := (G.refl wr none).drew
      refine wp_region_held_drew (S := (fun w' : World => w'.cell? ⟨bb, bo, none⟩ = some (.int .i64 x1) ∧ w'.cell? ⟨bb, bo + 1, none⟩ = some (.string x2) ∧ w'.cell? ⟨bb, bo + 2, none⟩ = some (.string x3) ∧ w'.cell? ⟨bb, bo + 3, none⟩ = some (.int .i64 x4) ∧ w'.cell? ⟨b2, o2, none⟩ = some (.int .i64 y1) ∧ w'.cell? ⟨b2, o2 + 1, none⟩ = some (.string y2) ∧ w'.cell? ⟨b2, o2 + 2, none⟩ = some (.string y3) ∧ w'.cell? ⟨b2, o2 + 3, none⟩ = some (.int .i64 y4))) (by kernel_rfl) ?_ (fun hHeld => ?_)
      · exact hcc _ hS
      refine wpAnyH_take (i := 0) (oi := { dst := some 26, op := Op.move (Operand.tmp 2), type := 54, pos := _, after := #[], guard := none }) (v := ?_) rfl (by kernel_rfl) (by kernel_rfl) (by kernel_rfl) (fun _ _ _ h => h) (Or.inl ⟨by rfl, ?_⟩) (by assumption) ?_
      rotate_left
      · (intro w hSw; obtain ⟨q0, q1, q2, q3, q4, q5, q6, q7⟩ := hSw; (go_simp <;> with_reducible rfl))
      try simp only [Act.put, List.setIfInBounds_toArray, List.set_cons_zero, List.set_cons_succ]
      refine wpAnyH_take (i := 1) (oi := { dst := some 27, op := Op.move (Operand.tmp 0), type := 28, pos := _, after := #[], guard := none }) (v := ?_) rfl (by kernel_rfl) (by kernel_rfl) (by kernel_rfl) (fun _ _ _ h => h) (Or.inl ⟨by rfl, ?_⟩) (by assumption) ?_
      rotate_left
      · (intro w hSw; obtain ⟨q0, q1, q2, q3, q4, q5, q6, q7⟩ := hSw; (go_simp <;> with_reducible rfl))
      try simp only [Act.put, List.setIfInBounds_toArray, List.set_cons_zero, List.set_cons_succ]
      refine wpAnyH_take (i := 2) (oi := { dst := some 28, op := Op.indexAddr 28 (Operand.tmp 27) (Operand.const (Value.int IntKind.i64 0)), type := 0, pos := _, after := #[{ on := 1, ground := Ground.data }], guard := none }) (v := ?_) rfl (by kernel_rfl) (by kernel_rfl) (by kernel_rfl) (fun _ _ _ h => h) (Or.inl ⟨by rfl, ?_⟩) (by assumption) ?_
      rotate_left
      · (intro w hSw; obtain ⟨q0, q1, q2, q3, q4, q5, q6, q7⟩ := hSw; (go_simp <;> with_reducible rfl))
      try simp only [Act.put, List.setIfInBounds_toArray, List.set_cons_zero, List.set_cons_succ]
      refine wpAnyH_take (i := 3) (oi := { dst := some 29, op := Op.load 34 (Operand.tmp 28), type := 34, pos := _, after := #[{ on := 2, ground := Ground.data }], guard := none }) (v := ?_) rfl (by kernel_rfl) (by kernel_rfl) (by kernel_rfl) (fun _ _ _ h => h) (Or.inl ⟨by rfl, ?_⟩) (by assumption) ?_
      rotate_left
      · (intro w hSw; obtain ⟨q0, q1, q2, q3, q4, q5, q6, q7⟩ := hSw; (go_simp <;> with_reducible rfl))
      try simp only [Act.put, List.setIfInBounds_toArray, List.set_cons_zero, List.set_cons_succ]
      refine wpAnyH_take (i := 4) (oi := { dst := some 30, op := Op.move (Operand.tmp 1), type := 28, pos := _, after := #[], guard := none }) (v := ?_) rfl (by kernel_rfl) (by kernel_rfl) (by kernel_rfl) (fun _ _ _ h => h) (Or.inl ⟨by rfl, ?_⟩) (by assumption) ?_
      rotate_left
      · (intro w hSw; obtain ⟨q0, q1, q2, q3, q4, q5, q6, q7⟩ := hSw; (go_simp <;> with_reducible rfl))
      try simp only [Act.put, List.setIfInBounds_toArray, List.set_cons_zero, List.set_cons_succ]
      refine wpAnyH_take (i := 5) (oi := { dst := some 31, op := Op.indexAddr 28 (Operand.tmp 30) (Operand.const (Value.int IntKind.i64 0)), type := 0, pos := _, after := #[{ on := 4, ground := Ground.data }], guard := none }) (v := ?_) rfl (by kernel_rfl) (by kernel_rfl) (by kernel_rfl) (fun _ _ _ h => h) (Or.inl ⟨by rfl, ?_⟩) (by assumption) ?_
      rotate_left
      · (intro w hSw; obtain ⟨q0, q1, q2, q3, q4, q5, q6, q7⟩ := hSw; (go_simp <;> with_reducible rfl))
      try simp only [Act.put, List.setIfInBounds_toArray, List.set_cons_zero, List.set_cons_succ]
      refine wpAnyH_take (i := 6) (oi := { dst := some 32, op := Op.load 34 (Operand.tmp 31), type := 34, pos := _, after := #[{ on := 5, ground := Ground.data }], guard := none }) (v := ?_) rfl (by kernel_rfl) (by kernel_rfl) (by kernel_rfl) (fun _ _ _ h => h) (Or.inl ⟨by rfl, ?_⟩) (by assumption) ?_
      rotate_left
      · (intro w hSw; obtain ⟨q0, q1, q2, q3, q4, q5, q6, q7⟩ := hSw; (go_simp <;> with_reducible rfl))
      try simp only [Act.put, List.setIfInBounds_toArray, List.set_cons_zero, List.set_cons_succ]
      refine wpAnyH_ready (rs := [7]) (by kernel_rfl) (by simp) ?_
      refine AllReadyH.cons (o := { dst := some 33, op := Op.call { callee := Callee.value (Operand.tmp 26), args := #[Operand.tmp 29, Operand.tmp 32], argTypes := #[34, 34] }, type := 3, pos := _, after := #[{ on := 0, ground := Ground.data }, { on := 3, ground := Ground.data }, { on := 6, ground := Ground.data }], guard := none }) rfl (fun K hK => ?_) AllReadyH.nil
      go_simp
      refine (HAL.out (x1, x2, x3, x4) (y1, y2, y3, y4) _).mono ?_
      rintro e w4 ⟨rfl, hh⟩
      replace hS := hS.trans hh
      clear hh
      rw [HO.out]
      refine hK.out _ _ ?_ (fun hHeld => ?_)
      · exact hcc _ hS
      clear hK K
      try simp only [Act.put, List.setIfInBounds_toArray, List.set_cons_zero, List.set_cons_succ]
      refine wpAnyH_take (i := 8) (oi := { dst := some 11, op := Op.assign (Operand.tmp 33), type := 3, pos := _, after := #[{ on := 7, ground := Ground.data }, { on := 7, ground := Ground.chain }, { on := 0, ground := Ground.phase }, { on := 1, ground := Ground.phase }, { on := 2, ground := Ground.phase }, { on := 3, ground := Ground.phase }, { on := 4, ground := Ground.phase }, { on := 5, ground := Ground.phase }, { on := 6, ground := Ground.phase }, { on := 7, ground := Ground.phase }], guard := none }) (v := ?_) rfl (by kernel_rfl) (by kernel_rfl) (by kernel_rfl) (fun _ _ _ h => h) (Or.inl ⟨by rfl, ?_⟩) (by assumption) ?_
      rotate_left
      · (intro w hSw; obtain ⟨q0, q1, q2, q3, q4, q5, q6, q7⟩ := hSw; (go_simp <;> with_reducible rfl))
      try simp only [Act.put, List.setIfInBounds_toArray, List.set_cons_zero, List.set_cons_succ]
      refine wpAnyH_done (by kernel_rfl) ?_ _
      clear hHeld
      rcases HRG.out with e | e | e
      · subst e
        obtain ⟨q0, q1, q2, q3, q4, q5, q6, q7⟩ := hcc _ hS
        go_wp2_with fail
        go_quiet (fail)
        have hS5 : G wr (w4.drewN nq) none := hS.drewN nq
        clear q0 q1 q2 q3 q4 q5 q6 q7
        generalize w4.drewN nq = w5 at hS5 ⊢
        obtain ⟨q0, q1, q2, q3, q4, q5, q6, q7⟩ := hcc _ hS5
        have hown5 := OwnX.quiet hown hS5
        have hG5 := hG.trans hS5
        have hob := OwnX.low hown5
        have hsz := hG5.size
        clear hS hS5 hcc hown hG
        by_cases hc : cap = 1
        · have hownA := OwnX.alloc hown5 (.cells #[.int .i64 x1, .string x2, .string x3, .int .i64 x4] 34)
          go_wp2_with (at_builtin; refine wpList_plain rfl fun K' hK' => wp_append_x pa_rowOk _ _ rfl w.heap.size u10 m rfl hownA w5.heap.size (x1, x2, x3, x4) rfl (Bk.new w5 _ _) (by have := HL.out; have := HN2.out; omega) (by simp; omega) ?_; intro v8 w8 hown8 hgrow; refine hK' _ _ ?_)
          go_roundw
          case rel => exact ⟨a.drop 1, b, m ++ [(x1, x2, x3, x4)], (by have h := HA.out; simp [hc] at h ⊢; exact h), HRB.out, hown8, (by have := HL.out; rw [List.length_append]; simp only [List.length_drop, List.length_cons, List.length_nil]; omega), (by rw [HM.out, HST.out, if_neg (by omega), if_pos (by omega)]; exact mg_snoc _), (hG5.alloc _).other hgrow (fun r e => .inl (hob r e))⟩
          case measure => simp [lenV]; omega
        · have hownA := OwnX.alloc hown5 (.cells #[.int .i64 x1, .string x2, .string x3, .int .i64 x4] 34)
          go_wp2_with (at_builtin; refine wpList_plain rfl fun K' hK' => wp_append_x pa_rowOk _ _ rfl w.heap.size u10 m rfl hownA w5.heap.size (x1, x2, x3, x4) rfl (Bk.new w5 _ _) (by have := HL.out; have := HN2.out; omega) (by simp; omega) ?_; intro v8 w8 hown8 hgrow; refine hK' _ _ ?_)
          go_roundw
          case rel => exact ⟨a.drop 1, b, m ++ [(x1, x2, x3, x4)], (by have h := HA.out; simp [hc] at h ⊢; exact h), HRB.out, hown8, (by have := HL.out; rw [List.length_append]; simp only [List.length_drop, List.length_cons, List.length_nil]; omega), (by rw [HM.out, HST.out, if_neg (by omega), if_pos (by omega)]; exact mg_snoc _), (hG5.alloc _).other hgrow (fun r e => .inl (hob r e))⟩
          case measure => simp [lenV]; omega
      · subst e
        by_cases hxy : ((x1, x2, x3, x4) : Pa) = (y1, y2, y3, y4)
        · obtain ⟨q0, q1, q2, q3, q4, q5, q6, q7⟩ := hcc _ hS
          have hnq : ∀ w : World, (binOp .neq 34 (.agg #[.int .i64 x1, .string x2, .string x3, .int .i64 x4]) (.agg #[.int .i64 y1, .string y2, .string y3, .int .i64 y4])).run Tryd.prog w = .ok (.bool false) w := fun w => by
            have h := paQ_neq2 (x1, x2, x3, x4) (y1, y2, y3, y4) w
            rw [decide_eq_true hxy] at h
            exact h
          have HXY := Lib.hid hxy
          clear hxy
          go_wp2_with fail
          go_quiet (fail)
          have hS5 : G wr (w4.drewN nq) none := hS.drewN nq
          clear q0 q1 q2 q3 q4 q5 q6 q7
          generalize w4.drewN nq = w5 at hS5 ⊢
          obtain ⟨q0, q1, q2, q3, q4, q5, q6, q7⟩ := hcc _ hS5
          have hown5 := OwnX.quiet hown hS5
          have hG5 := hG.trans hS5
          have hob := OwnX.low hown5
          have hsz := hG5.size
          clear hS hS5 hcc hown hG
          by_cases hc : cap = 1
          · by_cases hc2 : cap2 = 1
            · have hownA := OwnX.alloc hown5 (.cells #[.int .i64 x1, .string x2, .string x3, .int .i64 x4] 34)
              go_wp2_with (at_builtin; refine wpList_plain rfl fun K' hK' => wp_append_x pa_rowOk _ _ rfl w.heap.size u10 m rfl hownA w5.heap.size (x1, x2, x3, x4) rfl (Bk.new w5 _ _) (by have := HL.out; have := HN2.out; omega) (by simp; omega) ?_; intro v8 w8 hown8 hgrow; refine hK' _ _ ?_)
              go_roundw
              case rel => exact ⟨a.drop 1, b.drop 1, m ++ [(x1, x2, x3, x4)], (by have h := HA.out; simp [hc] at h ⊢; exact h), (by have h := HB.out; simp [hc2] at h ⊢; exact h), hown8, (by have := HL.out; rw [List.length_append]; simp only [List.length_drop, List.length_cons, List.length_nil]; omega), (by rw [HM.out, HST.out, if_pos trivial, if_pos HXY.out]; exact mg_snoc _), (hG5.alloc _).other hgrow (fun r e => .inl (hob r e))⟩
              case measure => simp [lenV]; omega
            · have hownA := OwnX.alloc hown5 (.cells #[.int .i64 x1, .string x2, .string x3, .int .i64 x4] 34)
              go_wp2_with (at_builtin; refine wpList_plain rfl fun K' hK' => wp_append_x pa_rowOk _ _ rfl w.heap.size u10 m rfl hownA w5.heap.size (x1, x2, x3, x4) rfl (Bk.new w5 _ _) (by have := HL.out; have := HN2.out; omega) (by simp; omega) ?_; intro v8 w8 hown8 hgrow; refine hK' _ _ ?_)
              go_roundw
              case rel => exact ⟨a.drop 1, b.drop 1, m ++ [(x1, x2, x3, x4)], (by have h := HA.out; simp [hc] at h ⊢; exact h), (by have h := HB.out; simp [hc2] at h ⊢; exact h), hown8, (by have := HL.out; rw [List.length_append]; simp only [List.length_drop, List.length_cons, List.length_nil]; omega), (by rw [HM.out, HST.out, if_pos trivial, if_pos HXY.out]; exact mg_snoc _), (hG5.alloc _).other hgrow (fun r e => .inl (hob r e))⟩
              case measure => simp [lenV]; omega
          · by_cases hc2 : cap2 = 1
            · have hownA := OwnX.alloc hown5 (.cells #[.int .i64 x1, .string x2, .string x3, .int .i64 x4] 34)
              go_wp2_with (at_builtin; refine wpList_plain rfl fun K' hK' => wp_append_x pa_rowOk _ _ rfl w.heap.size u10 m rfl hownA w5.heap.size (x1, x2, x3, x4) rfl (Bk.new w5 _ _) (by have := HL.out; have := HN2.out; omega) (by simp; omega) ?_; intro v8 w8 hown8 hgrow; refine hK' _ _ ?_)
              go_roundw
              case rel => exact ⟨a.drop 1, b.drop 1, m ++ [(x1, x2, x3, x4)], (by have h := HA.out; simp [hc] at h ⊢; exact h), (by have h := HB.out; simp [hc2] at h ⊢; exact h), hown8, (by have := HL.out; rw [List.length_append]; simp only [List.length_drop, List.length_cons, List.length_nil]; omega), (by rw [HM.out, HST.out, if_pos trivial, if_pos HXY.out]; exact mg_snoc _), (hG5.alloc _).other hgrow (fun r e => .inl (hob r e))⟩
              case measure => simp [lenV]; omega
            · have hownA := OwnX.alloc hown5 (.cells #[.int .i64 x1, .string x2, .string x3, .int .i64 x4] 34)
              go_wp2_with (at_builtin; refine wpList_plain rfl fun K' hK' => wp_append_x pa_rowOk _ _ rfl w.heap.size u10 m rfl hownA w5.heap.size (x1, x2, x3, x4) rfl (Bk.new w5 _ _) (by have := HL.out; have := HN2.out; omega) (by simp; omega) ?_; intro v8 w8 hown8 hgrow; refine hK' _ _ ?_)
              go_roundw
              case rel => exact ⟨a.drop 1, b.drop 1, m ++ [(x1, x2, x3, x4)], (by have h := HA.out; simp [hc] at h ⊢; exact h), (by have h := HB.out; simp [hc2] at h ⊢; exact h), hown8, (by have := HL.out; rw [List.length_append]; simp only [List.length_drop, List.length_cons, List.length_nil]; omega), (by rw [HM.out, HST.out, if_pos trivial, if_pos HXY.out]; exact mg_snoc _), (hG5.alloc _).other hgrow (fun r e => .inl (hob r e))⟩
              case measure => simp [lenV]; omega
        · obtain ⟨q0, q1, q2, q3, q4, q5, q6, q7⟩ := hcc _ hS
          have hnq : ∀ w : World, (binOp .neq 34 (.agg #[.int .i64 x1, .string x2, .string x3, .int .i64 x4]) (.agg #[.int .i64 y1, .string y2, .string y3, .int .i64 y4])).run Tryd.prog w = .ok (.bool true) w := fun w => by
            have h := paQ_neq2 (x1, x2, x3, x4) (y1, y2, y3, y4) w
            rw [decide_eq_false hxy] at h
            exact h
          have HXY := Lib.hid hxy
          clear hxy
          go_wp2_with fail
          go_quiet (fail)
          have hS5 : G wr (w4.drewN nq) none := hS.drewN nq
          clear q0 q1 q2 q3 q4 q5 q6 q7
          generalize w4.drewN nq = w5 at hS5 ⊢
          obtain ⟨q0, q1, q2, q3, q4, q5, q6, q7⟩ := hcc _ hS5
          have hown5 := OwnX.quiet hown hS5
          have hG5 := hG.trans hS5
          have hob := OwnX.low hown5
          have hsz := hG5.size
          clear hS hS5 hcc hown hG
          go_wp2_with fail
          go_ret2
          exact ⟨hG5, .inl ⟨by rw [HM.out, HST.out, if_pos trivial, if_neg HXY.out]; rfl, rfl⟩⟩
      · subst e
        obtain ⟨q0, q1, q2, q3, q4, q5, q6, q7⟩ := hcc _ hS
        go_wp2_with fail
        go_quiet (fail)
        have hS5 : G wr (w4.drewN nq) none := hS.drewN nq
        clear q0 q1 q2 q3 q4 q5 q6 q7
        generalize w4.drewN nq = w5 at hS5 ⊢
        obtain ⟨q0, q1, q2, q3, q4, q5, q6, q7⟩ := hcc _ hS5
        have hown5 := OwnX.quiet hown hS5
        have hG5 := hG.trans hS5
        have hob := OwnX.low hown5
        have hsz := hG5.size
        clear hS hS5 hcc hown hG
        by_cases hc2 : cap2 = 1
        · have hownA := OwnX.alloc hown5 (.cells #[.int .i64 y1, .string y2, .string y3, .int .i64 y4] 34)
          go_wp2_with (at_builtin; refine wpList_plain rfl fun K' hK' => wp_append_x pa_rowOk _ _ rfl w.heap.size u10 m rfl hownA w5.heap.size (y1, y2, y3, y4) rfl (Bk.new w5 _ _) (by have := HL.out; have := HN2.out; omega) (by simp; omega) ?_; intro v8 w8 hown8 hgrow; refine hK' _ _ ?_)
          go_roundw
          case rel => exact ⟨b.drop 1, a, m ++ [(y1, y2, y3, y4)], (by have h := HB.out; simp [hc2] at h ⊢; exact h), HRA.out, hown8, (by have := HL.out; rw [List.length_append]; simp only [List.length_drop, List.length_cons, List.length_nil]; omega), (by rw [HM.out, HST.out, if_neg (by omega), if_neg (by omega), mg_comm ord_cmpP _ _ _ (Nat.le_refl _)]; exact mg_snoc _), (hG5.alloc _).other hgrow (fun r e => .inl (hob r e))⟩
          case measure => simp [lenV]; omega
        · have hownA := OwnX.alloc hown5 (.cells #[.int .i64 y1, .string y2, .string y3, .int .i64 y4] 34)
          go_wp2_with (at_builtin; refine wpList_plain rfl fun K' hK' => wp_append_x pa_rowOk _ _ rfl w.heap.size u10 m rfl hownA w5.heap.size (y1, y2, y3, y4) rfl (Bk.new w5 _ _) (by have := HL.out; have := HN2.out; omega) (by simp; omega) ?_; intro v8 w8 hown8 hgrow; refine hK' _ _ ?_)
          go_roundw
          case rel => exact ⟨b.drop 1, a, m ++ [(y1, y2, y3, y4)], (by have h := HB.out; simp [hc2] at h ⊢; exact h), HRA.out, hown8, (by have := HL.out; rw [List.length_append]; simp only [List.length_drop, List.length_cons, List.length_nil]; omega), (by rw [HM.out, HST.out, if_neg (by omega), if_neg (by omega), mg_comm ord_cmpP _ _ _ (Nat.le_refl _)]; exact mg_snoc _), (hG5.alloc _).other hgrow (fun r e => .inl (hob r e))⟩
          case measure => simp [lenV]; omega
    · have HRAw := HRA.out.quiet hG
      have HRBw := HRB.out.quiet hG
      have HE : Hid (mg cmpP a b = some (a ++ b)) := Lib.hid (by
        by_cases ha : 0 < a.length
        · obtain rfl : b = [] := List.eq_nil_of_length_eq_zero (by omega)
          rw [mg_nil, List.append_nil]
        · obtain rfl : a = [] := List.eq_nil_of_length_eq_zero (by omega)
          rfl)
      have hsz := hG.size
      have hob := OwnX.low hown
      have hlm : m.length + a.length ≤ 1000 := by have := HL.out; have := HN2.out; omega
      have hlm2 : (m ++ a).length + b.length ≤ 1000 := by rw [List.length_append]; have := HL.out; have := HN2.out; omega
      have HLM2 := Lib.hid hlm2
      clear hlm2
      have KEY : ∀ (ha2 : Bool), decide ((0 : Int) < (a.length : Int)) = ha2 → True := fun _ _ => trivial
      clear KEY
      by_cases ha : 0 < a.length
      · have hb0 : b.length = 0 := by omega
        have ha1 : (0 : Int) < (a.length : Int) := by omega
        obtain rfl : b = [] := List.eq_nil_of_length_eq_zero hb0
        go_upto_region 13 with (at_builtin; refine wpList_append_xs pa_rowOk rfl _ _ rfl w.heap.size u10 m rfl hown _ a rfl HRAw hlm hsz ?_; intro v8 w8 hown8 hgrow)
        have hG8 := hG.other hgrow (fun r e => .inl (hob r e))
        have hR8 := HRB.out.quiet hG8
        have hob8 := OwnX.low hown8
        have hsz8 := hG8.size
        clear hown hG hgrow HRAw HRBw hob hsz
        go_upto_region 14 with (at_builtin; refine wpList_append_xs pa_rowOk rfl _ _ rfl w.heap.size v8 (m ++ a) rfl hown8 _ [] rfl hR8 HLM2.out hsz8 ?_; intro v9 w9 hown9 hgrow9)
        have hG9 := hG8.other hgrow9 (fun r e => .inl (hob8 r e))
        obtain ⟨L, hL⟩ : ∃ L, m ++ a ++ [] = L := ⟨_, rfl⟩
        rw [hL] at hown9
        have HF : Hid (mg cmpP A B = some L) := Lib.hid (by rw [HM.out, HE.out, ← hL]; simp)
        have HLL : Hid (L.length ≤ A.length + B.length) := Lib.hid (by rw [← hL]; simp only [List.length_append]; have := HL.out; omega)
        obtain ⟨a9, c9, rfl, h91, h92⟩ := RdR.form (c := paC) (Rd.of_owns hown9)
        have hl9 : (L.length : Int) ≤ 1000 := by have := HLL.out; have := HN2.out; omega
        have hl8 : ¬ (1000 : Int) < (L.length : Int) := by omega
        clear hL hG8 hR8 hown8 hgrow9
        go_wp2_with fail
        go_ret2
        exact ⟨hG9, .inr ⟨_, L, HF.out, rfl, hown9, HLL.out⟩⟩
      · obtain rfl : a = [] := List.eq_nil_of_length_eq_zero (by omega)
        go_upto_region 13 with (at_builtin; refine wpList_append_xs pa_rowOk rfl _ _ rfl w.heap.size u10 m rfl hown _ [] rfl HRAw hlm hsz ?_; intro v8 w8 hown8 hgrow)
        have hG8 := hG.other hgrow (fun r e => .inl (hob r e))
        have hR8 := HRB.out.quiet hG8
        have hob8 := OwnX.low hown8
        have hsz8 := hG8.size
        clear hown hG hgrow HRAw HRBw hob hsz
        go_upto_region 14 with (at_builtin; refine wpList_append_xs pa_rowOk rfl _ _ rfl w.heap.size v8 (m ++ []) rfl hown8 _ b rfl hR8 HLM2.out hsz8 ?_; intro v9 w9 hown9 hgrow9)
        have hG9 := hG8.other hgrow9 (fun r e => .inl (hob8 r e))
        obtain ⟨L, hL⟩ : ∃ L, m ++ [] ++ b = L := ⟨_, rfl⟩
        rw [hL] at hown9
        have HF : Hid (mg cmpP A B = some L) := Lib.hid (by rw [HM.out, HE.out, ← hL]; simp)
        have HLL : Hid (L.length ≤ A.length + B.length) := Lib.hid (by rw [← hL]; simp only [List.length_append]; have := HL.out; omega)
        obtain ⟨a9, c9, rfl, h91, h92⟩ := RdR.form (c := paC) (Rd.of_owns hown9)
        have hl9 : (L.length : Int) ≤ 1000 := by have := HLL.out; have := HN2.out; omega
        have hl8 : ¬ (1000 : Int) < (L.length : Int) := by omega
        clear hL hG8 hR8 hown8 hgrow9
        go_wp2_with fail
        go_ret2
        exact ⟨hG9, .inr ⟨_, L, HF.out, rfl, hown9, HLL.out⟩⟩
end Go.Proofs.YtkpmcakppiinlaaDoor

/- toll.Merge. -/
namespace Go.Proofs.YtkpmcakppiinlaaDoor
open Go.RowKit

theorem cf_cmp : ∀ (args : Array Value) (w : World), (callFunc 30 args).run Tryd.prog w = .ok (.enter 30 args) w := fun args w => by kernel_rfl
def tmE (g : List Ga) (A B : List Pa) : Int := if tcE g A = 0 then (if tcE g B = 0 then (if mg cmpP A B = none then 13 else 0) else tcE g B) else tcE g A
def tmL (g : List Ga) (A B : List Pa) : List Pa := if tcE g A = 0 ∧ tcE g B = 0 then (mg cmpP A B).getD [] else []
def TmPost (g : List Ga) (A B : List Pa) (w : World) (e : Ending) (w' : World) : Prop :=
  G w w' none ∧ ∃ v', e = .returned (.tuple #[v', .int .i64 (tmE g A B)]) ∧ RdR w' 4 paC v' (tmL g A B)
set_option maxRecDepth 100000 in
set_option maxHeartbeats 4000000 in
theorem tollMerge_c (v v1 v2 : Value) (gs : List Ga) (A B : List Pa) (w : World) (hr : RdR w 3 gaC v gs) (hr1 : RdR w 4 paC v1 A) (hr2 : RdR w 4 paC v2 B) (hl : GaOk gs) (hl1 : PaOk A) (hl2 : PaOk B) (hn : gs.length ≤ 1000) (hn2 : A.length + B.length ≤ 1000) :
    Calls Tryd.prog 10 #[v, v1, v2] w (TmPost gs A B w) := by
  have CA := Lib.hid (tollCheck_c v v1 gs A w hr hr1 hl hl1 hn (by omega))
  have CB := Lib.hid (fun w1 (h : G w w1 none) => tollCheck_c v v2 gs B w1 (hr.quiet h) (hr2.quiet h) hl hl2 hn (by omega))
  have CM := Lib.hid (fun w1 (h : G w w1 none) => mergeB_c 30 #[] v1 v2 A B w1 cf_cmp (fun x y w' => comparePassages_c x y w') (hr1.quiet h) (hr2.quiet h) hn2)
  obtain ⟨E1, h1⟩ : ∃ E, tcE gs A = E := ⟨_, rfl⟩
  obtain ⟨E2, h2⟩ : ∃ E, tcE gs B = E := ⟨_, rfl⟩
  have H1 := Lib.hid h1
  have H2 := Lib.hid h2
  obtain ⟨a, cap, rfl, -, -⟩ := RdR.form hr
  obtain ⟨a1, cap1, rfl, -, -⟩ := RdR.form hr1
  obtain ⟨a2, cap2, rfl, -, -⟩ := RdR.form hr2
  clear hr hr1 hr2 hl hl1 hl2 hn hn2 h1 h2
  go_enter Tryd.func10, Tryd.ntmps10
  go_wp2_with fail
  refine CA.out.mono ?_; rintro e w1 ⟨rfl, hG1⟩
  rw [H1.out]
  by_cases e1 : E1 = 0
  · subst e1
    go_wp2_with fail
    refine (CB.out _ hG1).mono ?_; rintro e w2 ⟨rfl, hG2⟩
    rw [H2.out]
    replace hG2 := hG1.trans hG2
    clear hG1
    by_cases e2 : E2 = 0
    · subst e2
      go_wp2_with fail
      refine (CM.out _ hG2).mono ?_; rintro e w3 ⟨hG3, hp⟩
      replace hG3 := hG2.trans hG3
      clear hG2
      rcases hp with ⟨hm, rfl⟩ | ⟨v', l, hm, rfl, hown, hlen⟩
      · have HF : Hid (tmE gs A B = 13 ∧ tmL gs A B = []) := Lib.hid ⟨by unfold tmE; rw [if_pos H1.out, if_pos H2.out, if_pos hm], by unfold tmL; rw [if_pos ⟨H1.out, H2.out⟩, hm]; rfl⟩
        clear hm
        go_wp2_with fail
        go_ret2
        exact ⟨hG3, .slice none 0 0, by rw [HF.out.1]; rfl, by rw [HF.out.2]; exact RdR.nil _ _ _⟩
      · have HF : Hid (tmE gs A B = 0 ∧ tmL gs A B = l) := Lib.hid ⟨by unfold tmE; rw [if_pos H1.out, if_pos H2.out, hm]; rfl, by unfold tmL; rw [if_pos ⟨H1.out, H2.out⟩, hm]; rfl⟩
        have HRD := Lib.hid (Rd.of_owns hown)
        clear hm hown hlen
        go_wp2_with fail
        go_ret2
        exact ⟨hG3, v', by rw [HF.out.1]; rfl, by rw [HF.out.2]; exact HRD.out⟩
    · have HF : Hid (tmE gs A B = E2 ∧ tmL gs A B = []) := Lib.hid ⟨by unfold tmE; rw [if_pos H1.out, if_neg (by rw [H2.out]; exact e2), H2.out], by unfold tmL; rw [if_neg (fun q => e2 (by rw [← H2.out]; exact q.2))]⟩
      have hb : (E2 != 0) = true := bne_iff_ne.2 e2
      clear e2
      go_wp2_with fail
      go_ret2
      exact ⟨hG2, .slice none 0 0, by rw [HF.out.1]; rfl, by rw [HF.out.2]; exact RdR.nil _ _ _⟩
  · have HF : Hid (tmE gs A B = E1 ∧ tmL gs A B = []) := Lib.hid ⟨by unfold tmE; rw [if_neg (by rw [H1.out]; exact e1), H1.out], by unfold tmL; rw [if_neg (fun q => e1 (by rw [← H1.out]; exact q.1))]⟩
    have hb : (E1 != 0) = true := bne_iff_ne.2 e1
    clear e1
    go_wp2_with fail
    go_ret2
    exact ⟨hG1, .slice none 0 0, by rw [HF.out.1]; rfl, by rw [HF.out.2]; exact RdR.nil _ _ _⟩
end Go.Proofs.YtkpmcakppiinlaaDoor

/- toll.True. Written by gentru.py. -/
namespace Go.Proofs.YtkpmcakppiinlaaDoor
open Go.RowKit

def tuV (g : List Ga) (x : Pa) : Int := if tcE g [x] = 0 then x.1 - clk g x.2.1 else 0
set_option maxRecDepth 100000 in
set_option maxHeartbeats 4000000 in
theorem tollTrue_c (v : Value) (gs : List Ga) (x : Pa) (w : World) (hr : RdR w 3 gaC v gs) (hl : GaOk gs) (hl1 : PaOk [x]) (hn : gs.length ≤ 1000) :
    Calls Tryd.prog 18 #[v, .agg (paC x)] w fun e w' => e = .returned (.tuple #[.int .i64 (tuV gs x), .int .i64 (tcE gs [x])]) ∧ G w w' none := by
  obtain ⟨t, k, y, z⟩ := x
  have CA := Lib.hid (fun (u : Value) w1 (h : G w w1 none) (h2 : RdR w1 4 paC u [(t, k, y, z)]) => tollCheck_c v u gs [(t, k, y, z)] w1 (hr.quiet h) h2 hl hl1 hn (by simp))
  have CG := Lib.hid (fun w1 (h : G w w1 none) => gatesOf_c v gs w1 (hr.quiet h) hl hn)
  obtain ⟨E, hE⟩ : ∃ E, tcE gs [(t, k, y, z)] = E := ⟨_, rfl⟩
  have HE := Lib.hid hE
  have HSM := Lib.hid (hl1 _ List.mem_cons_self).1
  rw [hE]
  obtain ⟨a, cap, rfl, -, -⟩ := RdR.form hr
  have hB := Bk.new w 34 (paC (t, k, y, z))
  have hG := (G.refl w none).alloc (.cells (paC (t, k, y, z)) 34)
  simp only [paC] at hB hG
  clear hr hl hl1 hn hE
  show Calls Tryd.prog 18 #[.slice a gs.length cap, .agg #[.int .i64 t, .string k, .string y, .int .i64 z]] w _
  go_enter Tryd.func18, Tryd.ntmps18
  go_upto_region 1 with fail
  generalize w.alloc (.cells #[.int .i64 t, .string k, .string y, .int .i64 z] 34) = w1 at hB hG ⊢
  generalize w.heap.size = g at hB ⊢
  have hB2 := hB.alloc (.cells #[.int .i64 t, .string k, .string y, .int .i64 z] 34)
  have hR2 : RdR (w1.alloc (.cells #[.int .i64 t, .string k, .string y, .int .i64 z] 34)) 4 paC (.slice (some ⟨w1.heap.size, 0, none⟩) 1 1) [(t, k, y, z)] := (Bk.new w1 34 (paC (t, k, y, z))).rd 4 1 rfl (by omega)
  have hG2 := hG.alloc (.cells #[.int .i64 t, .string k, .string y, .int .i64 z] 34)
  go_wp2_with (refine wpList_load_row rfl 34 _ rfl g rfl 34 #[.int .i64 t, .string k, .string y, .int .i64 z] (0, 0) _ hB Tryd.underlying34 rfl (pa_info (t, k, y, z)) ?_)
  refine (CA.out _ _ hG2 hR2).mono ?_; rintro e w2 ⟨rfl, hh⟩
  replace hB2 := hB2.quiet hh
  replace hG2 := hG2.trans hh
  clear hh hR2 hB hG
  rw [HE.out]
  by_cases e1 : E = 0
  · subst e1
    have HV : Hid (tuV gs (t, k, y, z) = t - clk gs k) := Lib.hid (by unfold tuV; rw [if_pos HE.out])
    have HF : Hid (gaE gs = 0 ∧ Small k ∧ (-1000000000 ≤ t ∧ t ≤ 1000000000) ∧ ∀ p ∈ gs, -1440 ≤ p.2.2 ∧ p.2.2 ≤ 1440) := Lib.hid (by
      have h := HE.out
      unfold tcE at h
      by_cases h1 : gaE gs = 0
      · rw [if_pos h1] at h
        by_cases h2 : paE [(t, k, y, z)] = 0
        · have h3 := (paE_ok h2).1 _ List.mem_cons_self
          dsimp only at h3
          exact ⟨h1, HSM.out, by omega, (gaE_ok h1).2.1⟩
        · rw [if_neg h2] at h; exact absurd h h2
      · rw [if_neg h1] at h; exact absurd h h1)
    have hcc : ∀ w', G w2 w' none → w'.cell? ⟨g, 0, none⟩ = some (.int .i64 t) ∧ w'.cell? ⟨g, 1, none⟩ = some (.string k) ∧ w'.cell? ⟨g, 2, none⟩ = some (.string y) ∧ w'.cell? ⟨g, 3, none⟩ = some (.int .i64 z) := fun w' q9 => by
      have hB3 := hB2.quiet q9
      exact ⟨hB3.cell 0, hB3.cell 1, hB3.cell 2, hB3.cell 3⟩
    go_upto_region 4 with fail
    have hS := (G.refl w2 none).drew
    refine wp_region_held_drew (S := (fun w' : World => w'.cell? ⟨g, 0, none⟩ = some (.int .i64 t) ∧ w'.cell? ⟨g, 1, none⟩ = some (.string k) ∧ w'.cell? ⟨g, 2, none⟩ = some (.string y) ∧ w'.cell? ⟨g, 3, none⟩ = some (.int .i64 z))) (by kernel_rfl) ?_ (fun hHeld => ?_)
    · exact hcc _ hS
    refine wpAnyH_take (i := 0) (oi := { dst := some 14, op := Op.move (Operand.tmp 0), type := 26, pos := _, after := #[], guard := none }) (v := ?_) rfl (by kernel_rfl) (by kernel_rfl) (by kernel_rfl) (fun _ _ _ h => h) (Or.inl ⟨by rfl, ?_⟩) (by assumption) ?_
    rotate_left
    · (intro w hSw; obtain ⟨q0, q1, q2, q3⟩ := hSw; (go_simp <;> with_reducible rfl))
    try simp only [Act.put, List.setIfInBounds_toArray, List.set_cons_zero, List.set_cons_succ]
    refine wpAnyH_take (i := 2) (oi := { dst := some 16, op := Op.load 34 (Operand.tmp 3), type := 34, pos := _, after := #[], guard := none }) (v := ?_) rfl (by kernel_rfl) (by kernel_rfl) (by kernel_rfl) (fun _ _ _ h => h) (Or.inl ⟨by rfl, ?_⟩) (by assumption) ?_
    rotate_left
    · (intro w hSw; obtain ⟨q0, q1, q2, q3⟩ := hSw; (go_simp <;> with_reducible rfl))
    try simp only [Act.put, List.setIfInBounds_toArray, List.set_cons_zero, List.set_cons_succ]
    refine wpAnyH_ready (rs := [1]) (by kernel_rfl) (by simp) ?_
    refine AllReadyH.cons (o := { dst := some 15, op := Op.call { callee := Callee.value (Operand.func 39), args := #[Operand.tmp 14], argTypes := #[26] }, type := 65, pos := _, after := #[{ on := 0, ground := Ground.data }], guard := none }) rfl (fun K hK => ?_) AllReadyH.nil
    go_simp
    refine (CG.out _ (hG2.trans hS)).mono ?_
    rintro e w4 ⟨b, rfl, hb, hM, hh⟩
    have HMM := Lib.hid hM
    replace hS := hS.trans hh
    clear hh hM
    refine hK.out _ _ ?_ (fun hHeld => ?_)
    · exact hcc _ hS
    clear hK K
    try simp only [Act.put, List.setIfInBounds_toArray, List.set_cons_zero, List.set_cons_succ]
    refine wpAnyH_ready (rs := [3]) (by kernel_rfl) (by simp) ?_
    refine AllReadyH.cons (o := { dst := some 17, op := Op.call { callee := Callee.value (Operand.func 41), args := #[Operand.tmp 15, Operand.tmp 16], argTypes := #[65, 34] }, type := 3, pos := _, after := #[{ on := 1, ground := Ground.data }, { on := 2, ground := Ground.data }, { on := 1, ground := Ground.chain }], guard := none }) rfl (fun K hK => ?_) AllReadyH.nil
    go_simp
    refine (trueTime_c b _ gs (t, k, y, z) _ HMM.out HF.out.2.1 HF.out.2.2.1 HF.out.2.2.2).mono ?_
    rintro e w5 ⟨rfl, hh⟩
    replace hS := hS.trans hh
    clear hh
    refine hK.out _ _ ?_ (fun hHeld => ?_)
    · exact hcc _ hS
    clear hK K
    try simp only [Act.put, List.setIfInBounds_toArray, List.set_cons_zero, List.set_cons_succ]
    refine wpAnyH_take (i := 4) (oi := { dst := some 4, op := Op.assign (Operand.tmp 17), type := 3, pos := _, after := #[{ on := 3, ground := Ground.data }, { on := 3, ground := Ground.chain }, { on := 0, ground := Ground.phase }, { on := 1, ground := Ground.phase }, { on := 2, ground := Ground.phase }, { on := 3, ground := Ground.phase }], guard := none }) (v := ?_) rfl (by kernel_rfl) (by kernel_rfl) (by kernel_rfl) (fun _ _ _ h => h) (Or.inl ⟨by rfl, ?_⟩) (by assumption) ?_
    rotate_left
    · (intro w hSw; obtain ⟨q0, q1, q2, q3⟩ := hSw; (go_simp <;> with_reducible rfl))
    try simp only [Act.put, List.setIfInBounds_toArray, List.set_cons_zero, List.set_cons_succ]
    refine wpAnyH_take (i := 5) (oi := { dst := some 5, op := Op.assign (Operand.const (Value.int IntKind.i64 0)), type := 36, pos := _, after := #[{ on := 4, ground := Ground.chain }, { on := 0, ground := Ground.phase }, { on := 1, ground := Ground.phase }, { on := 2, ground := Ground.phase }, { on := 3, ground := Ground.phase }, { on := 4, ground := Ground.phase }], guard := none }) (v := ?_) rfl (by kernel_rfl) (by kernel_rfl) (by kernel_rfl) (fun _ _ _ h => h) (Or.inl ⟨by rfl, ?_⟩) (by assumption) ?_
    rotate_left
    · (intro w hSw; obtain ⟨q0, q1, q2, q3⟩ := hSw; (go_simp <;> with_reducible rfl))
    try simp only [Act.put, List.setIfInBounds_toArray, List.set_cons_zero, List.set_cons_succ]
    refine wpAnyH_done (by kernel_rfl) ?_ _
    clear hHeld
    go_wp2_with fail
    go_ret2
    exact ⟨by rw [HV.out]; rfl, hG2.trans hS⟩
  · have HV : Hid (tuV gs (t, k, y, z) = 0) := Lib.hid (by unfold tuV; rw [if_neg (by rw [HE.out]; exact e1)])
    have hb : (E != 0) = true := bne_iff_ne.2 e1
    clear e1
    go_wp2_with fail
    go_ret2
    exact ⟨by rw [HV.out]; rfl, hG2⟩
end Go.Proofs.YtkpmcakppiinlaaDoor

/- slices.Clone of passages (after Bil's text). -/
namespace Go.Proofs.YtkpmcakppiinlaaDoor
open Go.RowKit

/-- slices.Clone of passages. -/
theorem clonePa_c (v : Value) (l : List Pa) (w : World) (hr : RdR w 4 paC v l) (hn : l.length ≤ 2000) :
    Calls Tryd.prog 8 #[v] w fun e w' => ∃ v', e = .returned v' ∧ OwnPa w' w.heap.size v' l ∧ G w w' none := by
  have q22 : ∀ (w : World) (a : Option Addr) (n c n' c' : Nat), (binOp .eql 28 (.slice a n c) (.slice none n' c')).run Tryd.prog w = .ok (.bool a.isNone) w := fun w a n c n' c' => Lib.run_eql_slice_nil w _ _ a n c n' c' Tryd.underlying28
  obtain ⟨a, cap, rfl, h1, h2, h3, h4, h5⟩ := hr
  cases a with
  | none =>
    obtain ⟨hz, hc⟩ := h4 rfl
    subst hc
    have hl : l = [] := List.eq_nil_of_length_eq_zero hz
    subst hl
    clear h1 h2 h3 h4 h5 hn
    go_enter Tryd.func8, Tryd.ntmps8
    go_wp2_with fail
    go_ret
    exact ⟨_, rfl, World.ownsRow_nil _ _ _ _, G.refl _ _⟩
  | some ad =>
    obtain ⟨b, o, s⟩ := ad
    obtain ⟨e1, e2, e3⟩ := h5 _ rfl
    dsimp only at e1 e2 e3
    subst e1
    obtain ⟨i0, hi, hz0, hz1, hz2⟩ := info_parts pa_rowOk.row
    have E3 := Lib.hid e3
    clear e3 h4 h5
    go_enter Tryd.func8, Tryd.ntmps8
    go_wp2_with (at_builtin; refine wpList_append_own _ rfl _ _ 28 rfl w.heap.size 34 i0 (.agg (paC (0, ⟨#[]⟩, ⟨#[]⟩, 0))) 4 48 Tryd.underlying28 hi hz0 hz1 hz2 rfl (by omega) _ _ _ rfl (World.ownsRow_made w #[] 0 (Nat.le_refl _) (Nat.zero_le _) (by simp)) ⟨b, o, none⟩ l.length cap (rowL paC l) rfl ?qc1 ?qc2 ?qc3 ?qc4 ?qc5 ?qc6 ?_)
    case qc1 => exact h3
    case qc2 =>
      intro j u hj
      rw [add_at]
      exact Lib.cell?_alloc_some _ (E3.out j u hj)
    case qc3 => exact rowL_one pa_oneL l
    case qc4 => unfold maxLen; omega
    case qc5 => omega
    case qc6 => simp
    intro v' w1 hown hgrow hnil
    go_wp2_with fail
    go_ret
    refine ⟨v', rfl, by simpa using hown, ?_⟩
    exact ((G.refl w none).alloc _).other hgrow (fun k hk => by simp [Value.ownBlock] at hk; omega)
end Go.Proofs.YtkpmcakppiinlaaDoor

/- slices.Grow of no passages: append of a make. -/
namespace Go.Proofs.YtkpmcakppiinlaaDoor
open Go.RowKit

set_option maxRecDepth 100000 in
set_option maxHeartbeats 2000000 in
theorem growPa_c (n : Nat) (hn : n ≤ 1000) (w : World) :
    Calls Tryd.prog 59 #[.slice none 0 0, .int .i64 n] w fun e w' => ∃ v', e = .returned v' ∧ OwnPa w' w.heap.size v' [] ∧ G w w' none := by
  have hw : IntKind.i64.wrap (n : Int) = n := by rw [IntKind.wrap_i64]; omega
  have hneg : ¬ ((n : Int) < 0) := by omega
  by_cases h0 : 0 < n
  · have h0i : (0 : Int) < (n : Int) := by omega
    obtain ⟨i0, hi, hz0, hz1, hz2⟩ := info_parts pa_rowOk.row
    have hcap := grownCap_le_maxLen w n 0 34 (by unfold maxLen; omega)
    have hge := grownCap_ge w n 0 34
    have hr := fun ty => Lib.run_append_nil_zeros (P := Tryd.prog) w 28 3 ty 34 i0 _ .i64 .i64 Tryd.underlying28 Tryd.underlying3 hi hz0 n h0 (by rw [hz1]; omega) (by omega) (by rw [hz2]; omega)
    have HOW := Lib.hid (World.ownsRow_made (base := w.heap.size) (e := 34) (size := 4) w.drew (Builtin.zeroCells (paC (0, ⟨#[]⟩, ⟨#[]⟩, 0)) n ++ Builtin.zeroCells (paC (0, ⟨#[]⟩, ⟨#[]⟩, 0)) (grownCap w n 0 34 - n)) (grownCap w n 0 34) (Nat.le_refl _) hcap (by rw [Array.size_append, size_zeroCells, size_zeroCells, paC_sz, ← Nat.add_mul]; congr 1; omega))
    have HGG := Lib.hid ((G.refl w none).drew.alloc (.cells (Builtin.zeroCells (paC (0, ⟨#[]⟩, ⟨#[]⟩, 0)) n ++ Builtin.zeroCells (paC (0, ⟨#[]⟩, ⟨#[]⟩, 0)) (grownCap w n 0 34 - n)) 34))
    generalize grownCap w n 0 34 = C at hr HOW HGG hcap hge
    go_enter Tryd.func59, Tryd.ntmps59
    go_wp2_with (at_builtin; refine Lib.wpList_append_run _ rfl _ _ _ _ rfl _ _ rfl rfl _ _ (hr _) ?_)
    go_ret
    exact ⟨_, rfl, HOW.out, HGG.out⟩
  · obtain rfl : n = 0 := by omega
    go_enter Tryd.func59, Tryd.ntmps59
    go_wp2_with fail
    go_ret
    exact ⟨_, rfl, World.ownsRow_nil _ _ _ _, G.refl _ _⟩
end Go.Proofs.YtkpmcakppiinlaaDoor

/- slices.Concat of two lists of passages. -/
namespace Go.Proofs.YtkpmcakppiinlaaDoor
open Go.RowKit

def Ct1 (w : World) (A B : List Pa) (s3 i : Value) (wr : World) : Prop :=
  ((i = .int .i64 0 ∧ s3 = .int .i64 0) ∨ (i = .int .i64 1 ∧ s3 = .int .i64 A.length) ∨ (i = .int .i64 2 ∧ s3 = .int .i64 ((A.length + B.length : Nat) : Int))) ∧ G w wr none
def Ct2 (w : World) (base : Nat) (A B : List Pa) (s6 i : Value) (wr : World) : Prop :=
  ((i = .int .i64 0 ∧ OwnPa wr base s6 []) ∨ (i = .int .i64 1 ∧ OwnPa wr base s6 A) ∨ (i = .int .i64 2 ∧ OwnPa wr base s6 (A ++ B))) ∧ G w wr none
set_option maxRecDepth 100000 in
set_option maxHeartbeats 4000000 in
theorem concatPa_c (v u : Value) (A B : List Pa) (g : Nat) (w : World) (hB : Bk w g 28 #[v, u]) (hr : RdR w 4 paC v A) (hs : RdR w 4 paC u B) (hn : A.length + B.length ≤ 1000) :
    Calls Tryd.prog 42 #[.slice (some ⟨g, 0, none⟩) 2 2] w fun e w' => ∃ v', e = .returned v' ∧ OwnPa w' w.heap.size v' (A ++ B) ∧ G w w' none := by
  have HR := Lib.hid hr
  have HS := Lib.hid hs
  have HN := Lib.hid hn
  obtain ⟨a, cap, rfl, -, -⟩ := RdR.form hr
  obtain ⟨a2, cap2, rfl, -, -⟩ := RdR.form hs
  have hw0 : IntKind.i64.wrap (A.length : Int) = A.length := by rw [IntKind.wrap_i64]; omega
  have hw1 : IntKind.i64.wrap ((A.length : Int) + (B.length : Int)) = ((A.length + B.length : Nat) : Int) := by rw [IntKind.wrap_i64]; omega
  have hp0 : ¬ ((A.length : Int) < 0) := by omega
  have hp1 : ¬ (((A.length + B.length : Nat) : Int) < 0) := by omega
  clear hr hs hn
  go_enter Tryd.func42, Tryd.ntmps42
  go_wp2_with fail
  go_loopw [3, 11] (Ct1 w A B) (fun _ i _ => 2 - (intOf i).toNat)
  case atStart => exact ⟨.inl ⟨rfl, rfl⟩, G.refl _ _⟩
  case round =>
    obtain ⟨hc, hG⟩ := hrel
    have hB2 := hB.quiet hG
    have c0 : wr.cell? ⟨g, 0, none⟩ = some (.slice a A.length cap) := hB2.cell 0
    have c1 : wr.cell? ⟨g, 1, none⟩ = some (.slice a2 B.length cap2) := hB2.cell 1
    rcases hc with ⟨rfl, rfl⟩ | ⟨rfl, rfl⟩ | ⟨rfl, rfl⟩
    · go_wp2_with fail
      go_roundw
      case rel => exact ⟨.inr (.inl ⟨rfl, rfl⟩), hG⟩
      case measure => simp [intOf]
    · go_wp2_with fail
      go_roundw
      case rel => exact ⟨.inr (.inr ⟨rfl, rfl⟩), hG⟩
      case measure => simp [intOf]
    · clear c0 c1
      obtain ⟨n, hnn⟩ : ∃ n, A.length + B.length = n := ⟨_, rfl⟩
      have hn2 : n ≤ 1000 := by have := HN.out; omega
      rw [hnn]
      clear hnn hp1 hw1
      go_wp2_with fail
      refine (growPa_c n hn2 _).mono ?_; rintro e w1 ⟨v1, rfl, hown1, hh⟩
      have hsz1 := hG.size
      have hG1 := hG.trans hh
      clear hG hh hB2
      go_wp2_with fail
      go_loopw [6, 27] (Ct2 w w.heap.size A B) (fun _ i _ => 2 - (intOf i).toNat)
      case atStart => exact ⟨.inl ⟨rfl, hown1.down hsz1⟩, hG1⟩
      case round =>
        clear hown1 hG1
        obtain ⟨hc, hG⟩ := hrel
        have hB2 := hB.quiet hG
        have c0 : wr.cell? ⟨g, 0, none⟩ = some (.slice a A.length cap) := hB2.cell 0
        have c1 : wr.cell? ⟨g, 1, none⟩ = some (.slice a2 B.length cap2) := hB2.cell 1
        have hsz := hG.size
        rcases hc with ⟨rfl, hown⟩ | ⟨rfl, hown⟩ | ⟨rfl, hown⟩
        · have hob := OwnX.low hown
          have hRA := HR.out.quiet hG
          go_wp2_with (at_builtin; refine wpList_append_xs pa_rowOk rfl _ _ rfl w.heap.size u6 [] rfl hown _ A rfl hRA (by have := HN.out; simp only [List.length_nil]; omega) hsz ?_; intro v9 w9 hown9 hgrow9)
          go_roundw
          case rel => exact ⟨.inr (.inl ⟨rfl, by simpa using hown9⟩), hG.other hgrow9 (fun r e => .inl (hob r e))⟩
          case measure => simp [intOf]
        · have hob := OwnX.low hown
          have hRB := HS.out.quiet hG
          go_wp2_with (at_builtin; refine wpList_append_xs pa_rowOk rfl _ _ rfl w.heap.size u6 A rfl hown _ B rfl hRB HN.out hsz ?_; intro v9 w9 hown9 hgrow9)
          go_roundw
          case rel => exact ⟨.inr (.inr ⟨rfl, hown9⟩), hG.other hgrow9 (fun r e => .inl (hob r e))⟩
          case measure => simp [intOf]
        · clear c0 c1
          have hown9 := hown
          go_wp2_with fail
          go_ret
          exact ⟨_, rfl, hown9, hG⟩
end Go.Proofs.YtkpmcakppiinlaaDoor

/- Passages, the reference's: PlateForm, PassageOrder, PassageForm. Written by genpaf.py. -/
namespace Go.Proofs.YtkpmcakppiinlaaDoor
open Go.RowKit

def plS : ByteArray := ⟨#[65, 66, 67, 68, 69, 70, 71, 72, 73, 74, 75, 76, 77, 78, 79, 80, 81, 82, 83, 84, 85, 86, 87, 88, 89, 90, 48, 49, 50, 51, 52, 53, 54, 55, 56, 57]⟩
theorem pl_asc : ASC plS := asc_of (by decide) (by decide)
theorem pl_has (c : UInt8) : plS.data.toList.contains c = plC (c.toNat : Int) := by
  have h : ∀ n : Fin 256, plS.data.toList.contains (UInt8.ofNat n.val) = plC (n.val : Int) := by decide +kernel
  have := h ⟨c.toNat, c.toNat_lt⟩
  simpa using this
set_option maxRecDepth 100000 in
set_option maxHeartbeats 1000000 in
theorem rPlate_c (s : ByteArray) (w : World) (hs : s.size ≤ 9223372036854775807) : Calls Tryd.prog 52 #[.string s] w fun e w' => e = .returned (.bool (plB s)) ∧ G w w' none := by
  have hon := only_c s plS w hs pl_asc
  have hall : (s.data.toList.all (plS.data.toList.contains ·)) = s.data.toList.all fun c => plC c.toNat := by
    congr 1
    funext c
    exact pl_has c
  rw [hall] at hon
  have hP : Hid (plB s = (inB (s.size : Int) 2 10 && s.data.toList.all fun c => plC c.toNat)) := Lib.hid (by
    unfold plB inB
    by_cases h1 : 2 ≤ s.size <;> by_cases h2 : s.size ≤ 10 <;> simp [h1, h2] <;> omega)
  generalize (s.data.toList.all fun c => plC c.toNat) = A at hon hP
  generalize plB s = B at hP ⊢
  cases hin : inB (s.size : Int) 2 10 with
  | false =>
    obtain rfl : B = false := by rw [hP.out, hin]; rfl
    have HI := Lib.hid hin
    clear hin hon hP
    go_enter Tryd.func52, Tryd.ntmps52
    go_wp2_with fail
    refine (in_c _ 2 10 _).mono ?_; rintro e w' ⟨rfl, rfl⟩
    rw [HI.out]
    go_wp2_with fail
    go_ret
    exact ⟨rfl, G.refl _ _⟩
  | true =>
    obtain rfl : B = A := by rw [hP.out, hin]; rfl
    have HI := Lib.hid hin
    clear hin hP
    go_enter Tryd.func52, Tryd.ntmps52
    go_wp2_with fail
    refine (in_c _ 2 10 _).mono ?_; rintro e w' ⟨rfl, rfl⟩
    rw [HI.out]
    go_wp2_with fail
    refine hon.mono ?_; rintro e w' ⟨rfl, hG⟩
    go_wp2_with fail
    go_ret
    exact ⟨rfl, hG⟩
set_option maxRecDepth 100000 in
theorem isNaNS_c (x : ByteArray) (w : World) : Calls Tryd.prog 70 #[.string x] w fun e w' => e = .returned (.bool false) ∧ w = w' := by
  go_enter Tryd.func70, Tryd.ntmps70
  go_wp2_with fail
  go_ret
  exact ⟨ret_bool (by simp), rfl⟩
set_option maxRecDepth 100000 in
theorem cmpStr_c (x y : ByteArray) (w : World) : Calls Tryd.prog 64 #[.string x, .string y] w fun e w' => e = .returned (.int .i64 (cmpI x y)) ∧ w = w' := by
  have h1 : Op.bytesLess x.toList y.toList = decide (cmpI x y < 0) := by rw [ByteArray.toList_eq, ByteArray.toList_eq, less_cL]; rfl
  have h2 : Op.bytesLess y.toList x.toList = decide (0 < cmpI x y) := by
    rw [ByteArray.toList_eq, ByteArray.toList_eq, less_cL]
    have := cmpI_neg x y
    show decide (cmpI y x < 0) = _
    rw [this]
    congr 1
    exact propext (by omega)
  have h3 : (x.toList == y.toList) = decide (cmpI x y = 0) := eqB_cmp x y
  rcases cmpI_range x y with h | h | h
  all_goals
    rw [h] at h1 h2 h3
    simp only [show decide ((-1 : Int) = 0) = false from rfl, show decide ((0 : Int) = 0) = true from rfl, show decide ((1 : Int) = 0) = false from rfl] at h3
    simp only [show decide ((-1 : Int) < 0) = true from rfl, show decide ((0 : Int) < -1) = false from rfl, show decide ((0 : Int) < 0) = false from rfl, show decide ((1 : Int) < 0) = false from rfl, show decide ((0 : Int) < 1) = true from rfl] at h1 h2
    rw [h]
    clear h
    go_enter Tryd.func64, Tryd.ntmps64
    go_wp2_with fail
    refine (isNaNS_c _ _).mono ?_; rintro e w' ⟨rfl, rfl⟩
    go_wp2_with fail
    refine (isNaNS_c _ _).mono ?_; rintro e w' ⟨rfl, rfl⟩
    go_wp2_with fail
    go_ret
    exact ⟨rfl, rfl⟩
set_option maxRecDepth 100000 in
set_option maxHeartbeats 2000000 in
theorem cmpPair_c (a b c d : ByteArray) (g h : Nat) (w : World) (hB : Bk w g 9 #[.string a, .string b]) (hC : Bk w h 9 #[.string c, .string d]) :
    Calls Tryd.prog 48 #[.slice (some ⟨g, 0, none⟩) 2 2, .slice (some ⟨h, 0, none⟩) 2 2] w fun e w' => e = .returned (.int .i64 (orI (cmpI a c) (cmpI b d))) ∧ w = w' := by
  have a0 : w.cell? ⟨g, 0, none⟩ = some (.string a) := hB.cell 0
  have a1 : w.cell? ⟨g, 1, none⟩ = some (.string b) := hB.cell 1
  have b0 : w.cell? ⟨h, 0, none⟩ = some (.string c) := hC.cell 0
  have b1 : w.cell? ⟨h, 1, none⟩ = some (.string d) := hC.cell 1
  clear hB hC
  obtain ⟨R, hR⟩ : ∃ R, orI (cmpI a c) (cmpI b d) = R := ⟨_, rfl⟩
  have HR := Lib.hid hR
  rw [hR]
  clear hR
  by_cases h0 : cmpI a c = 0
  · have HR1 : Hid (R = cmpI b d) := Lib.hid (by rw [← HR.out, orI, if_pos h0])
    have H0 := Lib.hid h0
    clear h0
    by_cases h1 : cmpI b d = 0
    · obtain rfl : R = 0 := HR1.out.trans h1
      have H1 := Lib.hid h1
      clear h1
      go_enter Tryd.func48, Tryd.ntmps48
      go_wp2_with fail
      refine wp_loop_rounds 3 ?_
      rw [rounds_succ]
      go_wp2_with fail
      refine (cmpStr_c _ _ _).mono ?_; rintro e w' ⟨rfl, rfl⟩
      rw [H0.out]
      go_wp2_with fail
      rw [rounds_succ]
      go_wp2_with fail
      refine (cmpStr_c _ _ _).mono ?_; rintro e w' ⟨rfl, rfl⟩
      rw [H1.out]
      go_wp2_with fail
      rw [rounds_succ]
      go_wp2_with fail
      go_ret
      exact ⟨rfl, rfl⟩
    · have h1' : (R != 0) = true := by rw [HR1.out, bne_iff_ne]; exact h1
      clear h1
      go_enter Tryd.func48, Tryd.ntmps48
      go_wp2_with fail
      refine wp_loop_rounds 3 ?_
      rw [rounds_succ]
      go_wp2_with fail
      refine (cmpStr_c _ _ _).mono ?_; rintro e w' ⟨rfl, rfl⟩
      rw [H0.out]
      go_wp2_with fail
      rw [rounds_succ]
      go_wp2_with fail
      refine (cmpStr_c _ _ _).mono ?_; rintro e w' ⟨rfl, rfl⟩
      rw [← HR1.out]
      go_wp2_with fail
      go_ret
      exact ⟨rfl, rfl⟩
  · have HR1 : Hid (R = cmpI a c) := Lib.hid (by rw [← HR.out, orI, if_neg h0])
    have h1' : (R != 0) = true := by rw [HR1.out, bne_iff_ne]; exact h0
    clear h0
    go_enter Tryd.func48, Tryd.ntmps48
    go_wp2_with fail
    refine wp_loop_rounds 3 ?_
    rw [rounds_succ]
    go_wp2_with fail
    refine (cmpStr_c _ _ _).mono ?_; rintro e w' ⟨rfl, rfl⟩
    rw [← HR1.out]
    go_wp2_with fail
    go_ret
    exact ⟨rfl, rfl⟩
theorem sign_c (n : Int) (w : World) : Calls Tryd.prog 47 #[.int .i64 n] w fun e w' => e = .returned (.int .i64 (if n < 0 then -1 else if 0 < n then 1 else 0)) ∧ w = w' := by
  rcases (show n < 0 ∨ 0 < n ∨ n = 0 by omega) with h | h | h
  · rw [if_pos h]
    go_enter Tryd.func47, Tryd.ntmps47
    go_wp2_with fail
    go_ret
    exact ⟨rfl, rfl⟩
  · rw [if_neg (by omega), if_pos h]
    go_enter Tryd.func47, Tryd.ntmps47
    go_wp2_with fail
    go_ret
    exact ⟨rfl, rfl⟩
  · subst h
    go_enter Tryd.func47, Tryd.ntmps47
    go_wp2_with fail
    go_ret
    exact ⟨rfl, rfl⟩
def paB (x : Pa) : Prop := -2000000000000 ≤ x.1 ∧ x.1 ≤ 2000000000000
set_option maxRecDepth 100000 in
set_option maxHeartbeats 4000000 in
theorem passageOrder_c (x y : Pa) (w : World) (hx : paB x) (hy : paB y) :
    Calls Tryd.prog 25 #[.agg (paC x), .agg (paC y)] w fun e w' => e = .returned (.int .i64 (cmpP x y)) ∧ G w w' none := by
  have hBx := (Bk.new w 34 (paC x)).alloc (.cells (paC y) 34)
  have hBy := Bk.newAt (w := w.alloc (.cells (paC x) 34)) (b := w.heap.size + 1) (by simp) 34 (paC y)
  have hG := ((G.refl w none).alloc (.cells (paC x) 34)).alloc (.cells (paC y) 34)
  obtain ⟨R, hR⟩ : ∃ R, cmpP x y = R := ⟨_, rfl⟩
  have HR : Hid (R = orI (cmpS x.1 y.1) (orI (cmpI x.2.1 y.2.1) (cmpI x.2.2.1 y.2.2.1))) := Lib.hid (by rw [← hR]; rfl)
  rw [hR]
  clear hR
  unfold paB at hx hy
  go_enter Tryd.func25, Tryd.ntmps25
  go_upto_region 1 with fail
  generalize ((w.alloc (.cells (paC x) 34)).alloc (.cells (paC y) 34)) = w3 at hBx hBy hG ⊢
  have c0 : w3.cell? ⟨w.heap.size, 0, none⟩ = some (.int .i64 x.1) := hBx.cell 0
  have c1 : w3.cell? ⟨w.heap.size, 1, none⟩ = some (.string x.2.1) := hBx.cell 1
  have c2 : w3.cell? ⟨w.heap.size, 2, none⟩ = some (.string x.2.2.1) := hBx.cell 2
  have d0 : w3.cell? ⟨w.heap.size + 1, 0, none⟩ = some (.int .i64 y.1) := hBy.cell 0
  have d1 : w3.cell? ⟨w.heap.size + 1, 1, none⟩ = some (.string y.2.1) := hBy.cell 1
  have d2 : w3.cell? ⟨w.heap.size + 1, 2, none⟩ = some (.string y.2.2.1) := hBy.cell 2
  by_cases h0 : x.1 = y.1
  · obtain rfl : R = orI (cmpI x.2.1 y.2.1) (cmpI x.2.2.1 y.2.2.1) := by rw [HR.out, h0, cmpS, if_neg (by omega), if_neg (by omega)]; rfl
    clear HR
    have hne : (x.1 != y.1) = false := by rw [h0]; simp
    have hne2 : (y.1 != y.1) = false := by simp
    have hX : Bk (w3.alloc (.cells #[.string x.2.1, .string x.2.2.1] 9)) w3.heap.size 9 #[.string x.2.1, .string x.2.2.1] := Bk.new _ _ _
    have hX2 := hX.alloc (.cells #[.string y.2.1, .string y.2.2.1] 9)
    have hY2 := Bk.newAt (w := w3.alloc (.cells #[.string x.2.1, .string x.2.2.1] 9)) (b := w3.heap.size + 1) (by simp) 9 #[.string y.2.1, .string y.2.2.1]
    have hG2 := (hG.alloc (.cells #[.string x.2.1, .string x.2.2.1] 9)).alloc (.cells #[.string y.2.1, .string y.2.2.1] 9)
    have hx3 : ∀ i, (w3.alloc (.cells #[.string x.2.1, .string x.2.2.1] 9)).cell? ⟨w.heap.size + 1, i, none⟩ = (paC y)[i]? := fun i => (hBy.alloc _).cell i
    have d1b : (w3.alloc (.cells #[.string x.2.1, .string x.2.2.1] 9)).cell? ⟨w.heap.size + 1, 1, none⟩ = some (.string y.2.1) := hx3 1
    have d2b : (w3.alloc (.cells #[.string x.2.1, .string x.2.2.1] 9)).cell? ⟨w.heap.size + 1, 2, none⟩ = some (.string y.2.2.1) := hx3 2
    clear hx3 h0
    go_wp2_with fail
    refine (cmpPair_c _ _ _ _ _ _ _ hX2 hY2).mono ?_; rintro e w' ⟨rfl, rfl⟩
    go_wp2_with fail
    go_ret
    exact ⟨rfl, hG2⟩
  · have hne : (x.1 != y.1) = true := bne_iff_ne.2 h0
    have hw : IntKind.i64.wrap (x.1 - y.1) = x.1 - y.1 := by rw [IntKind.wrap_i64]; omega
    have HR1 : Hid ((if x.1 - y.1 < 0 then (-1 : Int) else if 0 < x.1 - y.1 then 1 else 0) = R) := Lib.hid (by
      rw [HR.out, cmpS]
      rcases (show x.1 < y.1 ∨ y.1 < x.1 by omega) with h | h
      · rw [if_pos (by omega), if_pos h]; rfl
      · rw [if_neg (by omega), if_pos (by omega), if_neg (by omega), if_pos h]; rfl)
    clear h0
    go_wp2_with fail
    refine (sign_c _ _).mono ?_; rintro e w' ⟨rfl, rfl⟩
    rw [HR1.out]
    go_wp2_with fail
    go_ret
    exact ⟨rfl, hG⟩
set_option maxRecDepth 100000 in
set_option maxHeartbeats 8000000 in
theorem passageForm_c (v : Value) (l : List Pa) (w : World) (hr : RdR w 4 paC v l) (hl : PaOk l) (hn : l.length ≤ 1000000) (hbp : ∀ x ∈ l, paB x) :
    Calls Tryd.prog 31 #[v] w fun e w' => e = .returned (.int .i64 (paE l)) ∧ G w w' none := by
  have HR := Lib.hid hr
  obtain ⟨a, cap, rfl, hcap, hm⟩ := RdR.form hr
  clear hr
  obtain ⟨E, hE⟩ : ∃ E, paE l = E := ⟨_, rfl⟩
  have HEE := Lib.hid hE
  rw [hE]
  clear hE
  by_cases h30 : 1000 < l.length
  · obtain rfl : E = 2 := by rw [← HEE.out]; simp [paE, h30]
    go_enter Tryd.func31, Tryd.ntmps31
    go_wp2_with fail
    go_ret
    exact ⟨rfl, G.refl _ _⟩
  · have H := Lib.hid (show E = paErr none l by rw [← HEE.out]; simp [paE, h30])
    go_enter Tryd.func31, Tryd.ntmps31
    go_wp2_with fail
    go_loopw [10] (PaRel w l) (fun i _ => l.length - (intOf i).toNat)
    case atStart => exact ⟨0, by omega, rfl, rfl, G.refl _ _⟩
    case round =>
      obtain ⟨k, hkl, rfl, heq, hG⟩ := hrel
      have HE := Lib.hid heq
      clear heq
      by_cases hk : k < l.length
      · obtain ⟨⟨t, g, y, c⟩, hp⟩ : ∃ p, l[k]? = some p := ⟨_, List.getElem?_eq_getElem hk⟩
        have hdrop : l.drop k = (t, g, y, c) :: l.drop (k + 1) := by rw [List.drop_eq_getElem_cons hk, ← (List.getElem?_eq_some_iff.1 hp).2]
        have hs1 := hl _ (List.mem_of_getElem? hp)
        obtain ⟨hs1, hs2⟩ := hs1
        dsimp only at hs1 hs2
        unfold Small at hs1 hs2
        obtain ⟨bb, bo, rfl, hbb, _⟩ := RdR.elem paC_sz HR.out hG hp
        have HW := Lib.hid (paRow HR.out hG hp)
        have HP := Lib.hid hp
        have HS : Hid (paErr (prevAt l k) (l.drop k) = if momB t = false then 1 else if keyB g = false then 5 else if plB y = false then 3 else if inB c 0 1000000 = false then 1 else if paAfter (prevAt l k) (t, g, y, c) = true then 7 else paErr (some (t, g, y, c)) (l.drop (k + 1))) := Lib.hid (by rw [hdrop]; rfl)
        have hB5 : Bk (wr.alloc (.cells #[.int .i64 t, .string g, .string y, .int .i64 c] 34)) wr.heap.size 34 #[.int .i64 t, .string g, .string y, .int .i64 c] := Bk.new wr 34 _
        have hG5 : G w (wr.alloc (.cells #[.int .i64 t, .string g, .string y, .int .i64 c] 34)) none := hG.alloc (.cells (paC (t, g, y, c)) 34)
        clear hdrop hp hG
        go_upto_region 6 with (refine wpList_load_at rfl 34 _ rfl ⟨bb, bo + k * 4, none⟩ rfl #[.int .i64 t, .string g, .string y, .int .i64 c] _ HW.out Tryd.underlying34 rfl (pa_info (t, g, y, c)) ?_)
        clear HW
        generalize wr.alloc (.cells #[.int .i64 t, .string g, .string y, .int .i64 c] 34) = w5 at hB5 hG5 ⊢
        generalize wr.heap.size = g5 at hB5 ⊢
        have c0 : w5.cell? ⟨g5, 0, none⟩ = some (.int .i64 t) := hB5.cell 0
        have c1 : w5.cell? ⟨g5, 1, none⟩ = some (.string g) := hB5.cell 1
        have c2 : w5.cell? ⟨g5, 2, none⟩ = some (.string y) := hB5.cell 2
        have c3 : w5.cell? ⟨g5, 3, none⟩ = some (.int .i64 c) := hB5.cell 3
        go_wp2_with fail
        refine (rMoment_c t _).mono ?_; rintro e w' ⟨rfl, rfl⟩
        cases k0 : momB t with
        | false =>
          obtain rfl : E = 1 := by rw [H.out, HE.out, HS.out, if_pos k0]
          clear k0
          go_wp2_with fail
          go_ret
          exact ⟨rfl, hG5⟩
        | true =>
          have K0 := Lib.hid k0
          clear k0
          go_wp2_with fail
          refine (rkey_c _ _ hs1).mono ?_; rintro e w6 ⟨rfl, hGk⟩
          have hB6 := hB5.quiet hGk
          have hG6 := hG5.trans hGk
          clear hGk c0 c1 c2 c3 hB5 hG5
          have c0 : w6.cell? ⟨g5, 0, none⟩ = some (.int .i64 t) := hB6.cell 0
          have c1 : w6.cell? ⟨g5, 1, none⟩ = some (.string g) := hB6.cell 1
          have c2 : w6.cell? ⟨g5, 2, none⟩ = some (.string y) := hB6.cell 2
          have c3 : w6.cell? ⟨g5, 3, none⟩ = some (.int .i64 c) := hB6.cell 3
          cases k1 : keyB g with
          | false =>
            obtain rfl : E = 5 := by rw [H.out, HE.out, HS.out, if_neg (by simp [K0.out]), if_pos k1]
            clear k1
            go_wp2_with fail
            go_ret
            exact ⟨rfl, hG6⟩
          | true =>
            have K1 := Lib.hid k1
            clear k1
            go_wp2_with fail
            refine (rPlate_c _ _ hs2).mono ?_; rintro e w7 ⟨rfl, hGk⟩
            have hB7 := hB6.quiet hGk
            have hG7 := hG6.trans hGk
            clear hGk c0 c1 c2 c3 hB6 hG6
            have c0 : w7.cell? ⟨g5, 0, none⟩ = some (.int .i64 t) := hB7.cell 0
            have c1 : w7.cell? ⟨g5, 1, none⟩ = some (.string g) := hB7.cell 1
            have c2 : w7.cell? ⟨g5, 2, none⟩ = some (.string y) := hB7.cell 2
            have c3 : w7.cell? ⟨g5, 3, none⟩ = some (.int .i64 c) := hB7.cell 3
            cases k2 : plB y with
            | false =>
              obtain rfl : E = 3 := by rw [H.out, HE.out, HS.out, if_neg (by simp [K0.out]), if_neg (by simp [K1.out]), if_pos k2]
              clear k2
              go_wp2_with fail
              go_ret
              exact ⟨rfl, hG7⟩
            | true =>
              have K2 := Lib.hid k2
              clear k2
              go_wp2_with fail
              refine (in2_c c 0 1000000 _).mono ?_; rintro e w' ⟨rfl, rfl⟩
              cases k3 : inB c 0 1000000 with
              | false =>
                obtain rfl : E = 1 := by rw [H.out, HE.out, HS.out, if_neg (by simp [K0.out]), if_neg (by simp [K1.out]), if_neg (by simp [K2.out]), if_pos k3]
                clear k3
                go_wp2_with fail
                go_ret
                exact ⟨rfl, hG7⟩
              | true =>
                have K3 := Lib.hid k3
                clear k3
                have hg5 := hB7.lt
                cases k with
                | zero =>
                  have HF : Hid (paErr none l = paErr (prevAt l (0 + 1)) (l.drop (0 + 1))) := Lib.hid (by rw [HE.out, HS.out, if_neg (by simp [K0.out]), if_neg (by simp [K1.out]), if_neg (by simp [K2.out]), if_neg (by simp [K3.out]), if_neg (by simp [prevAt, paAfter]), prevAt_succ l 0 (t, g, y, c) HP.out])
                  go_wp2_with fail
                  go_quiet (fail)
                  have hGq := hG7.drewN nq
                  go_wp2_with fail
                  go_roundw
                  case rel => exact ⟨0 + 1, by omega, by go_num, HF.out, hGq⟩
                  case measure => simp [intOf]; omega
                | succ m =>
                  obtain ⟨⟨t2, g2, y2, c2q⟩, hq2⟩ : ∃ q, l[m]? = some q := ⟨_, List.getElem?_eq_getElem (by omega)⟩
                  have HBP := Lib.hid (hbp _ (List.mem_of_getElem? HP.out))
                  have HBQ := Lib.hid (hbp _ (List.mem_of_getElem? hq2))
                  have HA1 : Hid (paAfter (prevAt l (m + 1)) (t, g, y, c) = decide (0 ≤ cmpP (t2, g2, y2, c2q) (t, g, y, c))) := Lib.hid (by rw [prevAt_succ l m _ hq2]; rfl)
                  have hsub : IntKind.i64.wrap (((m + 1 : Nat) : Int) - 1) = (m : Int) := by rw [show ((m + 1 : Nat) : Int) - 1 = (m : Int) by omega]; rw [IntKind.wrap_i64]; omega
                  have d0 := RdR.cell paC_sz HR.out hG7 hq2 0 (.int .i64 t2) rfl
                  have d1 := RdR.cell paC_sz HR.out hG7 hq2 1 (.string g2) rfl
                  have d2 := RdR.cell paC_sz HR.out hG7 hq2 2 (.string y2) rfl
                  have d3 := RdR.cell paC_sz HR.out hG7 hq2 3 (.int .i64 c2q) rfl
                  have hsub2 : IntKind.i64.wrap (m : Int) = (m : Int) := by rw [IntKind.wrap_i64]; omega
                  have hsub3 : IntKind.i64.wrap ((m : Int) + 1 - 1) = (m : Int) := by rw [IntKind.wrap_i64]; omega
                  have hm0 : (0 : Int) ≤ (m : Int) := Int.natCast_nonneg m
                  have hml : (m : Int) < (l.length : Int) := by omega
                  have hcf : cmpP (t2, g2, y2, c2q) (t, g, y, c) < 0 ∨ 0 ≤ cmpP (t2, g2, y2, c2q) (t, g, y, c) := by omega
                  simp only [Nat.add_zero] at d0
                  clear hq2
                  rcases hcf with hcf | hcf
                  · have HF : Hid (paErr none l = paErr (prevAt l ((m + 1) + 1)) (l.drop ((m + 1) + 1))) := Lib.hid (by rw [HE.out, HS.out, if_neg (by simp [K0.out]), if_neg (by simp [K1.out]), if_neg (by simp [K2.out]), if_neg (by simp [K3.out]), if_neg (by rw [HA1.out, decide_eq_false (by omega)]; simp), prevAt_succ l (m + 1) _ HP.out])
                    go_wp2_with fail
                    go_region_held3 (fun w' => w'.cell? ⟨bb, bo + m * 4, none⟩ = some (.int .i64 t2) ∧ w'.cell? ⟨bb, bo + m * 4 + 1, none⟩ = some (.string g2) ∧ w'.cell? ⟨bb, bo + m * 4 + 2, none⟩ = some (.string y2) ∧ w'.cell? ⟨bb, bo + m * 4 + 3, none⟩ = some (.int .i64 c2q) ∧ w'.cell? ⟨g5, 0, none⟩ = some (.int .i64 t) ∧ w'.cell? ⟨g5, 1, none⟩ = some (.string g) ∧ w'.cell? ⟨g5, 2, none⟩ = some (.string y) ∧ w'.cell? ⟨g5, 3, none⟩ = some (.int .i64 c)) (first | exact ⟨d0, d1, d2, d3, c0, c1, c2, c3⟩ | exact hS8 | go_keep) (first | (go_at_call 25; refine (passageOrder_c (t2, g2, y2, c2q) (t, g, y, c) _ HBQ.out HBP.out).mono ?_; rintro e w8 ⟨rfl, hG8x⟩; have hG08 := hG7.drew.trans hG8x; have hbw := hG7.size; have hS8 : w8.cell? ⟨bb, bo + m * 4, none⟩ = some (.int .i64 t2) ∧ w8.cell? ⟨bb, bo + m * 4 + 1, none⟩ = some (.string g2) ∧ w8.cell? ⟨bb, bo + m * 4 + 2, none⟩ = some (.string y2) ∧ w8.cell? ⟨bb, bo + m * 4 + 3, none⟩ = some (.int .i64 c2q) ∧ w8.cell? ⟨g5, 0, none⟩ = some (.int .i64 t) ∧ w8.cell? ⟨g5, 1, none⟩ = some (.string g) ∧ w8.cell? ⟨g5, 2, none⟩ = some (.string y) ∧ w8.cell? ⟨g5, 3, none⟩ = some (.int .i64 c) := ⟨((gcell hG8x).1 bb _ (Nat.lt_of_lt_of_le hbb hbw)).trans d0, ((gcell hG8x).1 bb _ (Nat.lt_of_lt_of_le hbb hbw)).trans d1, ((gcell hG8x).1 bb _ (Nat.lt_of_lt_of_le hbb hbw)).trans d2, ((gcell hG8x).1 bb _ (Nat.lt_of_lt_of_le hbb hbw)).trans d3, ((gcell hG8x).1 g5 _ hg5).trans c0, ((gcell hG8x).1 g5 _ hg5).trans c1, ((gcell hG8x).1 g5 _ hg5).trans c2, ((gcell hG8x).1 g5 _ hg5).trans c3⟩))
                    go_wp2_with fail
                    go_roundw
                    case rel => exact ⟨(m + 1) + 1, by omega, by go_num, HF.out, hG08⟩
                    case measure => simp [intOf]; omega
                  · obtain rfl : E = 7 := by rw [H.out, HE.out, HS.out, if_neg (by simp [K0.out]), if_neg (by simp [K1.out]), if_neg (by simp [K2.out]), if_neg (by simp [K3.out]), if_pos (by rw [HA1.out]; exact decide_eq_true hcf)]
                    go_wp2_with fail
                    go_region_held3 (fun w' => w'.cell? ⟨bb, bo + m * 4, none⟩ = some (.int .i64 t2) ∧ w'.cell? ⟨bb, bo + m * 4 + 1, none⟩ = some (.string g2) ∧ w'.cell? ⟨bb, bo + m * 4 + 2, none⟩ = some (.string y2) ∧ w'.cell? ⟨bb, bo + m * 4 + 3, none⟩ = some (.int .i64 c2q) ∧ w'.cell? ⟨g5, 0, none⟩ = some (.int .i64 t) ∧ w'.cell? ⟨g5, 1, none⟩ = some (.string g) ∧ w'.cell? ⟨g5, 2, none⟩ = some (.string y) ∧ w'.cell? ⟨g5, 3, none⟩ = some (.int .i64 c)) (first | exact ⟨d0, d1, d2, d3, c0, c1, c2, c3⟩ | exact hS8 | go_keep) (first | (go_at_call 25; refine (passageOrder_c (t2, g2, y2, c2q) (t, g, y, c) _ HBQ.out HBP.out).mono ?_; rintro e w8 ⟨rfl, hG8x⟩; have hG08 := hG7.drew.trans hG8x; have hbw := hG7.size; have hS8 : w8.cell? ⟨bb, bo + m * 4, none⟩ = some (.int .i64 t2) ∧ w8.cell? ⟨bb, bo + m * 4 + 1, none⟩ = some (.string g2) ∧ w8.cell? ⟨bb, bo + m * 4 + 2, none⟩ = some (.string y2) ∧ w8.cell? ⟨bb, bo + m * 4 + 3, none⟩ = some (.int .i64 c2q) ∧ w8.cell? ⟨g5, 0, none⟩ = some (.int .i64 t) ∧ w8.cell? ⟨g5, 1, none⟩ = some (.string g) ∧ w8.cell? ⟨g5, 2, none⟩ = some (.string y) ∧ w8.cell? ⟨g5, 3, none⟩ = some (.int .i64 c) := ⟨((gcell hG8x).1 bb _ (Nat.lt_of_lt_of_le hbb hbw)).trans d0, ((gcell hG8x).1 bb _ (Nat.lt_of_lt_of_le hbb hbw)).trans d1, ((gcell hG8x).1 bb _ (Nat.lt_of_lt_of_le hbb hbw)).trans d2, ((gcell hG8x).1 bb _ (Nat.lt_of_lt_of_le hbb hbw)).trans d3, ((gcell hG8x).1 g5 _ hg5).trans c0, ((gcell hG8x).1 g5 _ hg5).trans c1, ((gcell hG8x).1 g5 _ hg5).trans c2, ((gcell hG8x).1 g5 _ hg5).trans c3⟩))
                    go_wp2_with fail
                    go_ret
                    exact ⟨rfl, hG08⟩
      · obtain rfl : k = l.length := by omega
        obtain rfl : E = 0 := by rw [H.out, HE.out, List.drop_length]; rfl
        go_wp2_with fail
        go_ret
        exact ⟨rfl, hG⟩
end Go.Proofs.YtkpmcakppiinlaaDoor

/- Gates, the reference's: gateOf, TrueOf, PassagesFault. Written by gengaf.py. -/
namespace Go.Proofs.YtkpmcakppiinlaaDoor
open Go.RowKit

theorem gaS_of_mem {l : List Ga} {s : ByteArray} {p : Ga} (h : p ∈ l) (e : p.1 = s) : ∃ u, gaS l s = some u := by
  induction l with
  | nil => cases h
  | cons q r ih =>
    rw [gaS_cons]
    cases hr : gaS r s with
    | some v => exact ⟨v, rfl⟩
    | none =>
      rcases List.mem_cons.1 h with rfl | h
      · exact ⟨p, by simp only [if_pos e.symm]⟩
      · obtain ⟨u, hu⟩ := ih h
        rw [hr] at hu
        cases hu
theorem rise_uniq {l : List Ga} (hr : Rise (l.map (·.1))) {p q : Ga} (hp : p ∈ l) (hq : q ∈ l) (e : p.1 = q.1) : p = q := by
  induction l with
  | nil => cases hp
  | cons a r ih =>
    rw [List.map_cons] at hr
    obtain ⟨h1, h2⟩ := List.pairwise_cons.1 hr
    rcases List.mem_cons.1 hp with rfl | hp'
    · rcases List.mem_cons.1 hq with rfl | hq'
      · rfl
      · have := h1 q.1 (List.mem_map.2 ⟨q, hq', rfl⟩)
        rw [e, cmpI_eq.2 rfl] at this
        omega
    · rcases List.mem_cons.1 hq with rfl | hq'
      · have := h1 p.1 (List.mem_map.2 ⟨p, hp', rfl⟩)
        rw [e, cmpI_eq.2 rfl] at this
        omega
      · exact ih h2 hp' hq'
theorem gaS_hit {l : List Ga} (hr : Rise (l.map (·.1))) {p : Ga} (h : p ∈ l) : gaS l p.1 = some p := by
  obtain ⟨u, hu⟩ := gaS_of_mem h rfl
  have h1 := gaS_mem hu
  rw [hu, rise_uniq hr h1.1 h h1.2]
theorem gaS_miss {l : List Ga} {s : ByteArray} (h : ∀ p ∈ l, p.1 ≠ s) : gaS l s = none := by
  cases hs : gaS l s with
  | none => rfl
  | some u =>
    have h1 := gaS_mem hs
    exact absurd h1.2 (h u h1.1)
def gaD (l : List Ga) (s : ByteArray) : Ga := (gaS l s).getD (⟨#[]⟩, ⟨#[]⟩, 0)
theorem gaD_clk (l : List Ga) (s : ByteArray) : (gaD l s).2.2 = clk l s := by
  unfold gaD clk
  cases gaS l s <;> rfl
theorem ga_one (x : Ga) : (gaC x).all (·.oneCell') = true := by simp [gaC, Value.oneCell']
def GoRel (w : World) (gs : List Ga) (s : ByteArray) (g : Nat) (t : Int) (gk y : ByteArray) (c : Int) (i : Value) (wr : World) : Prop :=
  ∃ k : Nat, k ≤ gs.length ∧ i = .int .i64 k ∧ (∀ p ∈ gs.take k, p.1 ≠ s) ∧ Bk wr g 34 #[.int .i64 t, .string gk, .string y, .int .i64 c] ∧ Bk wr (g + 1) 51 #[.string ⟨#[]⟩, .string ⟨#[]⟩, .int .i64 0] ∧ G w wr none
set_option maxRecDepth 100000 in
set_option maxHeartbeats 4000000 in
theorem gateOf_c (x : Pa) (v : Value) (gs : List Ga) (w : World) (hr : RdR w 3 gaC v gs) (hri : Rise (gs.map (·.1))) (hn : gs.length ≤ 1000000) :
    Calls Tryd.prog 32 #[v, .agg (paC x)] w fun e w' => e = .returned (.tuple #[.agg (gaC (gaD gs x.2.1)), .bool (gaS gs x.2.1).isSome]) ∧ G w w' none := by
  obtain ⟨a, cap, rfl, hcap, hm⟩ := RdR.form hr
  obtain ⟨t, gk, y, c⟩ := x
  dsimp only
  have HRI := Lib.hid hri
  clear hri
  show Calls Tryd.prog 32 #[.slice a gs.length cap, .agg #[.int .i64 t, .string gk, .string y, .int .i64 c]] w _
  have hP := (Bk.new w 34 #[.int .i64 t, .string gk, .string y, .int .i64 c]).alloc (.cells #[.string ⟨#[]⟩, .string ⟨#[]⟩, .int .i64 0] 51)
  have hZ := Bk.newAt (w := w.alloc (.cells #[.int .i64 t, .string gk, .string y, .int .i64 c] 34)) (b := w.heap.size + 1) (by simp) 51 #[.string ⟨#[]⟩, .string ⟨#[]⟩, .int .i64 0]
  have hG := ((G.refl w none).alloc (.cells #[.int .i64 t, .string gk, .string y, .int .i64 c] 34)).alloc (.cells #[.string ⟨#[]⟩, .string ⟨#[]⟩, .int .i64 0] 51)
  go_enter Tryd.func32, Tryd.ntmps32
  go_upto_region 1 with fail
  generalize (w.alloc (.cells #[.int .i64 t, .string gk, .string y, .int .i64 c] 34)).alloc (.cells #[.string ⟨#[]⟩, .string ⟨#[]⟩, .int .i64 0] 51) = w2 at hP hZ hG ⊢
  have HR := Lib.hid hr
  clear hr
  go_wp2_with fail
  go_loopw [10] (GoRel w gs gk w.heap.size t gk y c) (fun i _ => gs.length - (intOf i).toNat)
  case atStart => exact ⟨0, by omega, rfl, fun p hp => (by simp at hp), hP, hZ, hG⟩
  case round =>
    clear hP hZ hG
    obtain ⟨k, hk, rfl, hno, hP, hZ, hG⟩ := hrel
    have HNO := Lib.hid hno
    clear hno
    by_cases hlt : k < gs.length
    · obtain ⟨⟨k1, a1, q1⟩, hp⟩ : ∃ p, gs[k]? = some p := ⟨_, List.getElem?_eq_getElem hlt⟩
      obtain ⟨bb, bo, rfl, hbb, _⟩ := RdR.elem gaC_sz HR.out hG hp
      have HW := Lib.hid (gaRow HR.out hG hp)
      have HM := Lib.hid (List.mem_of_getElem? hp)
      have HT := Lib.hid (take_snk hp)
      have HK := Lib.hid hlt
      have hB5 : Bk (wr.alloc (.cells #[.string k1, .string a1, .int .i64 q1] 51)) wr.heap.size 51 #[.string k1, .string a1, .int .i64 q1] := Bk.new wr 51 _
      have hG5 : G w (wr.alloc (.cells #[.string k1, .string a1, .int .i64 q1] 51)) none := hG.alloc (.cells (gaC (k1, a1, q1)) 51)
      have hP5 := hP.alloc (.cells #[.string k1, .string a1, .int .i64 q1] 51)
      have hZ5 := hZ.alloc (.cells #[.string k1, .string a1, .int .i64 q1] 51)
      clear hp hG hP hZ
      go_upto_region 4 with (refine wpList_load_at rfl 51 _ rfl ⟨bb, bo + k * 3, none⟩ rfl #[.string k1, .string a1, .int .i64 q1] _ HW.out Tryd.underlying51 rfl (ga_info (k1, a1, q1)) ?_)
      clear HW
      generalize wr.alloc (.cells #[.string k1, .string a1, .int .i64 q1] 51) = w5 at hB5 hG5 hP5 hZ5 ⊢
      generalize wr.heap.size = g5 at hB5 ⊢
      have c0 : w5.cell? ⟨g5, 0, none⟩ = some (.string k1) := hB5.cell 0
      have p1 : w5.cell? ⟨w.heap.size, 1, none⟩ = some (.string gk) := hP5.cell 1
      by_cases hkg : k1 = gk
      · subst hkg
        have HS : Hid (gaS gs k1 = some (k1, a1, q1)) := Lib.hid (gaS_hit HRI.out HM.out)
        have HD : Hid (gaD gs k1 = (k1, a1, q1)) := Lib.hid (by unfold gaD; rw [HS.out]; rfl)
        go_wp2_with (first | (refine wpList_load_row rfl 51 _ rfl g5 rfl 51 #[.string k1, .string a1, .int .i64 q1] (0, 0) _ hB5 Tryd.underlying51 rfl (ga_info (k1, a1, q1)) ?_) | (refine wpList_store_row rfl 51 _ _ rfl (w.heap.size + 1) #[.string k1, .string a1, .int .i64 q1] rfl rfl 51 _ hZ5 (ga_info (k1, a1, q1)) rfl (ga_one (k1, a1, q1)) ?_))
        refine bodyPost_ret (results_cell_hi rfl _ _ (w.heap.size + 1) 51 #[.string k1, .string a1, .int .i64 q1] (0, 0) _ rfl (hZ5.setRow _) Tryd.underlying51 rfl (ga_info (k1, a1, q1))) rfl ?_
        exact ⟨by rw [HD.out, HS.out]; rfl, hG5.setRow (.inl (by omega)) _⟩
      · have HN : Hid (∀ p ∈ gs.take (k + 1), p.1 ≠ gk) := Lib.hid (fun p hp => by
          rw [HT.out] at hp
          rcases List.mem_append.1 hp with q | q
          · exact HNO.out p q
          · rw [List.mem_singleton] at q; rw [q]; exact hkg)
        have hts : (k1.toList == gk.toList) = false := by
          cases h : k1.toList == gk.toList with
          | false => rfl
          | true => exact absurd (eqB_iff.1 h) hkg
        go_wp2_with fail
        go_roundw
        case rel => exact ⟨k + 1, (by have := HK.out; omega), by go_num, HN.out, hP5, hZ5, hG5⟩
        case measure => have := HK.out; simp [intOf]; omega
    · obtain rfl : k = gs.length := by omega
      have HS : Hid (gaS gs gk = none) := Lib.hid (gaS_miss (by have := HNO.out; rw [List.take_length] at this; exact this))
      have HD : Hid (gaD gs gk = (⟨#[]⟩, ⟨#[]⟩, 0)) := Lib.hid (by unfold gaD; rw [HS.out]; rfl)
      go_wp2_with (refine wpList_store_row rfl 51 _ _ rfl (w.heap.size + 1) #[.string ⟨#[]⟩, .string ⟨#[]⟩, .int .i64 0] rfl rfl 51 _ hZ (ga_info (⟨#[]⟩, ⟨#[]⟩, 0)) rfl (ga_one (⟨#[]⟩, ⟨#[]⟩, 0)) ?_)
      refine bodyPost_ret (results_cell_hi rfl _ _ (w.heap.size + 1) 51 #[.string ⟨#[]⟩, .string ⟨#[]⟩, .int .i64 0] (0, 0) _ rfl (hZ.setRow _) Tryd.underlying51 rfl (ga_info (⟨#[]⟩, ⟨#[]⟩, 0))) rfl ?_
      exact ⟨by rw [HD.out, HS.out]; rfl, hG.setRow (.inl (by omega)) _⟩
set_option maxRecDepth 100000 in
set_option maxHeartbeats 4000000 in
theorem trueOf_c (x : Pa) (v : Value) (gs : List Ga) (w : World) (hr : RdR w 3 gaC v gs) (hri : Rise (gs.map (·.1))) (hn : gs.length ≤ 1000000) (hx : -1000000000 ≤ x.1 ∧ x.1 ≤ 1000000000) (hl : ∀ p ∈ gs, -1440 ≤ p.2.2 ∧ p.2.2 ≤ 1440) :
    Calls Tryd.prog 19 #[v, .agg (paC x)] w fun e w' => e = .returned (.int .i64 (x.1 - clk gs x.2.1)) ∧ G w w' none := by
  obtain ⟨a, cap, rfl, hcap, hm⟩ := RdR.form hr
  have CG := Lib.hid (fun w' (p : RdR w' 3 gaC (.slice a gs.length cap) gs) => gateOf_c x _ gs w' p hri hn)
  have hcb : -1440 ≤ (gaD gs x.2.1).2.2 ∧ (gaD gs x.2.1).2.2 ≤ 1440 := by
    unfold gaD
    cases hs : gaS gs x.2.1 with
    | none => show (-1440 : Int) ≤ 0 ∧ (0 : Int) ≤ 1440; omega
    | some u => exact hl u (gaS_mem hs).1
  rw [← gaD_clk]
  generalize gaD gs x.2.1 = u at CG hcb ⊢
  generalize (gaS gs x.2.1).isSome = fb at CG
  obtain ⟨t, gk, y, c⟩ := x
  obtain ⟨k1, a1, q1⟩ := u
  dsimp only at hcb hx ⊢
  clear hri hl
  show Calls Tryd.prog 19 #[.slice a gs.length cap, .agg #[.int .i64 t, .string gk, .string y, .int .i64 c]] w _
  have hP := Bk.new w 34 #[.int .i64 t, .string gk, .string y, .int .i64 c]
  have hG := (G.refl w none).alloc (.cells #[.int .i64 t, .string gk, .string y, .int .i64 c] 34)
  go_enter Tryd.func19, Tryd.ntmps19
  go_upto_region 1 with fail
  generalize w.alloc (.cells #[.int .i64 t, .string gk, .string y, .int .i64 c] 34) = w1 at hP hG ⊢
  generalize w.heap.size = g at hP ⊢
  go_wp2_with (refine wpList_load_row rfl 34 _ rfl g rfl 34 #[.int .i64 t, .string gk, .string y, .int .i64 c] (0, 0) _ hP Tryd.underlying34 rfl (pa_info (t, gk, y, c)) ?_)
  refine (CG.out _ (hr.quiet hG)).mono ?_; rintro e w2 ⟨rfl, hh⟩
  rw [show gaC (k1, a1, q1) = #[.string k1, .string a1, .int .i64 q1] from rfl]
  have hP3 := (hP.quiet hh).alloc (.cells #[.string k1, .string a1, .int .i64 q1] 51)
  have hU3 : Bk (w2.alloc (.cells #[.string k1, .string a1, .int .i64 q1] 51)) w2.heap.size 51 #[.string k1, .string a1, .int .i64 q1] := Bk.new _ _ _
  have hG3 := (hG.trans hh).alloc (.cells #[.string k1, .string a1, .int .i64 q1] 51)
  clear hP hG hh hr CG
  go_upto_region 2 with fail
  generalize w2.alloc (.cells #[.string k1, .string a1, .int .i64 q1] 51) = w3 at hP3 hU3 hG3 ⊢
  generalize w2.heap.size = g3 at hU3 ⊢
  have p0 : w3.cell? ⟨g, 0, none⟩ = some (.int .i64 t) := hP3.cell 0
  have u2 : w3.cell? ⟨g3, 2, none⟩ = some (.int .i64 q1) := hU3.cell 2
  have hw : IntKind.i64.wrap (t - q1) = t - q1 := by rw [IntKind.wrap_i64]; omega
  go_wp2_with fail
  go_ret
  exact ⟨rfl, hG3⟩
def PfRel (w : World) (gs : List Ga) (l : List Pa) (i : Value) (wr : World) : Prop :=
  ∃ k : Nat, k ≤ l.length ∧ i = .int .i64 k ∧ tkErr gs l = tkErr gs (l.drop k) ∧ G w wr none
set_option maxRecDepth 100000 in
set_option maxHeartbeats 8000000 in
theorem passagesFault_c (v v2 : Value) (gs : List Ga) (l : List Pa) (w : World) (hr : RdR w 3 gaC v gs) (hr2 : RdR w 4 paC v2 l) (hl : GaOk gs) (hl2 : PaOk l) (hn : gs.length ≤ 1000) (hn2 : l.length ≤ 1000000) (hbp : ∀ x ∈ l, paB x) :
    Calls Tryd.prog 11 #[v, v2] w fun e w' => e = .returned (.int .i64 (tcE gs l)) ∧ G w w' none := by
  obtain ⟨a, cap, rfl, hcap, hm⟩ := RdR.form hr
  obtain ⟨a2, cap2, rfl, hcap2, hm2⟩ := RdR.form hr2
  obtain ⟨E, hE⟩ : ∃ E, tcE gs l = E := ⟨_, rfl⟩
  have HE : Hid (E = if gaE gs = 0 then (if paE l = 0 then tkErr gs l else paE l) else gaE gs) := Lib.hid (by rw [← hE]; rfl)
  rw [hE]
  clear hE
  go_enter Tryd.func11, Tryd.ntmps11
  go_wp2_with fail
  refine (gatesFault_c _ gs _ hr hl (by omega)).mono ?_; rintro e w1 ⟨rfl, hG⟩
  replace hr := hr.quiet hG
  replace hr2 := hr2.quiet hG
  obtain ⟨E1, hE1⟩ : ∃ E1, gaE gs = E1 := ⟨_, rfl⟩
  have HG := Lib.hid hE1
  rw [hE1] at HE ⊢
  clear hE1
  by_cases e1 : E1 = 0
  · subst e1
    have HE2 : Hid (E = if paE l = 0 then tkErr gs l else paE l) := Lib.hid (by rw [HE.out, if_pos rfl])
    clear HE
    go_wp2_with fail
    refine (passageForm_c _ l _ hr2 hl2 hn2 hbp).mono ?_; rintro e w2 ⟨rfl, hh⟩
    replace hr := hr.quiet hh
    replace hr2 := hr2.quiet hh
    replace hG := hG.trans hh
    clear hh
    obtain ⟨E2, hE2⟩ : ∃ E2, paE l = E2 := ⟨_, rfl⟩
    have HP := Lib.hid hE2
    rw [hE2] at HE2 ⊢
    clear hE2
    by_cases e2 : E2 = 0
    · subst e2
      have HE3 : Hid (E = tkErr gs l) := Lib.hid (by rw [HE2.out, if_pos rfl])
      have HPB := Lib.hid (paE_ok HP.out).1
      have HRI := Lib.hid (gaE_ok HG.out).1
      have HGB := Lib.hid (gaE_ok HG.out).2.1
      have HR2 := Lib.hid hr2
      have HR := Lib.hid hr
      clear HE2 hr hr2
      go_wp2_with fail
      go_loopw [23] (PfRel w2 gs l) (fun i _ => l.length - (intOf i).toNat)
      case atStart => exact ⟨0, by omega, rfl, rfl, G.refl _ _⟩
      case round =>
        obtain ⟨k, hkl, rfl, heq, hGr⟩ := hrel
        have HQ := Lib.hid heq
        clear heq
        by_cases hk : k < l.length
        · obtain ⟨⟨t, gk, y, c⟩, hp⟩ : ∃ p, l[k]? = some p := ⟨_, List.getElem?_eq_getElem hk⟩
          have hdrop : l.drop k = (t, gk, y, c) :: l.drop (k + 1) := by rw [List.drop_eq_getElem_cons hk, ← (List.getElem?_eq_some_iff.1 hp).2]
          have hpm := List.mem_of_getElem? hp
          have HT := Lib.hid (HPB.out _ hpm)
          dsimp only at HT
          obtain ⟨bb, bo, rfl, hbb, _⟩ := RdR.elem paC_sz HR2.out hGr hp
          have HW := Lib.hid (paRow HR2.out hGr hp)
          have HS : Hid (tkErr gs (l.drop k) = if (gaS gs gk).isSome = false then 8 else if momB (t - clk gs gk) = false then 16 else tkErr gs (l.drop (k + 1))) := Lib.hid (by rw [hdrop]; rfl)
          have HK := Lib.hid hk
          have hB5 : Bk (wr.alloc (.cells #[.int .i64 t, .string gk, .string y, .int .i64 c] 34)) wr.heap.size 34 #[.int .i64 t, .string gk, .string y, .int .i64 c] := Bk.new wr 34 _
          have hG5 : G w2 (wr.alloc (.cells #[.int .i64 t, .string gk, .string y, .int .i64 c] 34)) none := hGr.alloc (.cells (paC (t, gk, y, c)) 34)
          clear hdrop hp hGr hpm
          go_upto_region 10 with (refine wpList_load_at rfl 34 _ rfl ⟨bb, bo + k * 4, none⟩ rfl #[.int .i64 t, .string gk, .string y, .int .i64 c] _ HW.out Tryd.underlying34 rfl (pa_info (t, gk, y, c)) ?_)
          clear HW
          generalize wr.alloc (.cells #[.int .i64 t, .string gk, .string y, .int .i64 c] 34) = w5 at hB5 hG5 ⊢
          generalize wr.heap.size = g5 at hB5 ⊢
          go_wp2_with (refine wpList_load_row rfl 34 _ rfl g5 rfl 34 #[.int .i64 t, .string gk, .string y, .int .i64 c] (0, 0) _ hB5 Tryd.underlying34 rfl (pa_info (t, gk, y, c)) ?_)
          refine (gateOf_c (t, gk, y, c) _ gs _ (HR.out.quiet hG5) HRI.out (by omega)).mono ?_; rintro e w6 ⟨rfl, hh⟩
          dsimp only
          have hB6 := hB5.quiet hh
          have hG6 := hG5.trans hh
          clear hB5 hG5 hh
          generalize (gaS gs gk).isSome = fb at HS ⊢
          obtain ⟨u, hu⟩ : ∃ u, gaD gs gk = u := ⟨_, rfl⟩
          rw [hu]
          clear hu
          obtain ⟨k1, a1, q1⟩ := u
          rw [show gaC (k1, a1, q1) = #[.string k1, .string a1, .int .i64 q1] from rfl]
          have hB7 := hB6.alloc (.cells #[.string k1, .string a1, .int .i64 q1] 51)
          have hG7 := hG6.alloc (.cells #[.string k1, .string a1, .int .i64 q1] 51)
          clear hB6 hG6
          go_upto_region 11 with fail
          generalize w6.alloc (.cells #[.string k1, .string a1, .int .i64 q1] 51) = w7 at hB7 hG7 ⊢
          cases fb with
          | false =>
            obtain rfl : E = 8 := by rw [HE3.out, HQ.out, HS.out]; rfl
            go_wp2_with fail
            go_ret
            exact ⟨rfl, hG.trans hG7⟩
          | true =>
            have HS2 : Hid (tkErr gs (l.drop k) = if momB (t - clk gs gk) = false then 16 else tkErr gs (l.drop (k + 1))) := Lib.hid (by rw [HS.out]; rfl)
            go_wp2_with (refine wpList_load_row rfl 34 _ rfl g5 rfl 34 #[.int .i64 t, .string gk, .string y, .int .i64 c] (0, 0) _ hB7 Tryd.underlying34 rfl (pa_info (t, gk, y, c)) ?_)
            refine (trueOf_c (t, gk, y, c) _ gs _ (HR.out.quiet hG7) HRI.out (by omega) (by have := HT.out; dsimp only; omega) HGB.out).mono ?_; rintro e w8 ⟨rfl, hh⟩
            dsimp only
            have hG8 := hG7.trans hh
            clear hG7 hB7 hh
            generalize t - clk gs gk = tt at HS2 ⊢
            go_wp2_with fail
            refine (rMoment_c tt _).mono ?_; rintro e w' ⟨rfl, rfl⟩
            cases hmb : momB tt with
            | false =>
              obtain rfl : E = 16 := by rw [HE3.out, HQ.out, HS2.out, if_pos hmb]
              clear hmb
              go_wp2_with fail
              go_ret
              exact ⟨rfl, hG.trans hG8⟩
            | true =>
              have HN : Hid (tkErr gs l = tkErr gs (l.drop (k + 1))) := Lib.hid (by rw [HQ.out, HS2.out, if_neg (by simp [hmb])])
              clear hmb
              go_wp2_with fail
              go_roundw
              case rel => exact ⟨k + 1, (by have := HK.out; omega), by go_num, HN.out, hG8⟩
              case measure => have := HK.out; simp [intOf]; omega
        · obtain rfl : k = l.length := by omega
          obtain rfl : E = 0 := by rw [HE3.out, HQ.out, List.drop_length]; rfl
          go_wp2_with fail
          go_ret
          exact ⟨rfl, hG.trans hGr⟩
    · obtain rfl : E = E2 := by rw [HE2.out, if_neg e2]
      have hb : (E != 0) = true := bne_iff_ne.2 e2
      clear HE2 HP e2
      go_wp2_with fail
      go_ret
      exact ⟨rfl, hG⟩
  · obtain rfl : E = E1 := by rw [HE.out, if_neg e1]
    have hb : (E != 0) = true := bne_iff_ne.2 e1
    clear HE HG e1
    go_wp2_with fail
    go_ret
    exact ⟨rfl, hG⟩
end Go.Proofs.YtkpmcakppiinlaaDoor

/- Generators: Gates, Passages. Written by gengps.py. -/
namespace Go.Proofs.YtkpmcakppiinlaaDoor
open Go.RowKit

theorem GS.toOwn {v : Value} {w w' : World} (h : GS (S1 v) w w') : G w w' v.ownBlock := ⟨h.os, h.tape, h.output, h.size, fun k hk hne => h.block k hk (fun hS => hne hS.symm)⟩
theorem GaOk.set {l : List Ga} (h : GaOk l) {r : Ga} (hr : Small r.1 ∧ Small r.2.1) (k : Nat) : GaOk (l.set k r) := fun p hp => by
  rcases List.mem_or_eq_of_mem_set hp with hp | rfl
  · exact h p hp
  · exact hr
abbrev OwnGa (w : World) (base : Nat) (v : Value) (l : List Ga) : Prop := OwnX 51 3 gaC w base v l
def GatesPost (s K : Nat) (w : World) (e : Ending) (w' : World) : Prop :=
  ∃ (v : Value) (l : List Ga), e = .returned v ∧ OwnGa w' w.heap.size v l ∧ GaOk l ∧ l.length = 3 ∧ SB w' s (K + 10) ∧ G w w' (some s)
set_option maxRecDepth 100000 in
set_option maxHeartbeats 4000000 in
theorem gatesG_c (w : World) (s : Nat) (K : Nat) (hs : SB w s K) (hk : K ≤ 600000000000) :
    Calls Tryd.prog 4 #[.pointer (some ⟨s, 0, none⟩)] w (GatesPost s K w) := by
  have hsw := hs.lt
  go_enter Tryd.func4, Tryd.ntmps4
  go_wp2_with fail
  refine (pick_c _ _ _ [0, 5, -5] _ _ K (hs.alloc _) (by omega) (by decide) (by decide) (Rd.newAt _ rfl rfl (by decide)) (hs.newAt _ _ _ (Nat.le_refl _))).mono ?_; rintro e w1 ⟨p1, rfl, hp, hSB1, hg⟩
  have hG1 := ((G.refl w (some s)).alloc (.cells _ 3)).trans hg
  clear hs hg hp
  go_wp2_with fail
  refine (pick_c _ _ _ [0, 60, -1440] _ _ _ (hSB1.alloc _) (by omega) (by decide) (by decide) (Rd.newAt _ rfl rfl (by decide)) (hSB1.newAt _ _ _ (Nat.le_refl _))).mono ?_; rintro e w2 ⟨p2, rfl, hp, hSB2, hg⟩
  have hG2 := (hG1.alloc (.cells _ 3)).trans hg
  clear hSB1 hG1 hg hp
  have hok : GaOk [(⟨#[103, 49]⟩, ⟨#[99, 105, 116, 121]⟩, p1), (⟨#[103, 50]⟩, ⟨#[99, 105, 116, 121]⟩, 0), (⟨#[103, 51]⟩, ⟨#[114, 105, 110, 103]⟩, p2)] := fun x hx => by
    simp only [List.mem_cons, List.mem_nil_iff, or_false] at hx
    rcases hx with rfl | rfl | rfl
    · exact ⟨small_of (s := ⟨#[103, 49]⟩) (by decide), small_of (s := ⟨#[99, 105, 116, 121]⟩) (by decide)⟩
    · exact ⟨small_of (s := ⟨#[103, 50]⟩) (by decide), small_of (s := ⟨#[99, 105, 116, 121]⟩) (by decide)⟩
    · exact ⟨small_of (s := ⟨#[103, 51]⟩) (by decide), small_of (s := ⟨#[114, 105, 110, 103]⟩) (by decide)⟩
  have HOK := Lib.hid hok
  clear hok
  have hown0 : OwnGa (w2.alloc (.cells #[.string ⟨#[103, 49]⟩, .string ⟨#[99, 105, 116, 121]⟩, .int .i64 p1, .string ⟨#[103, 50]⟩, .string ⟨#[99, 105, 116, 121]⟩, .int .i64 0, .string ⟨#[103, 51]⟩, .string ⟨#[114, 105, 110, 103]⟩, .int .i64 p2] 51)) w.heap.size (.slice (some ⟨w2.heap.size, 0, none⟩) 3 3) [(⟨#[103, 49]⟩, ⟨#[99, 105, 116, 121]⟩, p1), (⟨#[103, 50]⟩, ⟨#[99, 105, 116, 121]⟩, 0), (⟨#[103, 51]⟩, ⟨#[114, 105, 110, 103]⟩, p2)] := World.ownsRow_lit (base := w.heap.size) (size := 3) w2 #[.string ⟨#[103, 49]⟩, .string ⟨#[99, 105, 116, 121]⟩, .int .i64 p1, .string ⟨#[103, 50]⟩, .string ⟨#[99, 105, 116, 121]⟩, .int .i64 0, .string ⟨#[103, 51]⟩, .string ⟨#[114, 105, 110, 103]⟩, .int .i64 p2] 3 hG2.size (by show 3 ≤ maxLen; decide) rfl
  have hSB3 := hSB2.alloc (.cells #[.string ⟨#[103, 49]⟩, .string ⟨#[99, 105, 116, 121]⟩, .int .i64 p1, .string ⟨#[103, 50]⟩, .string ⟨#[99, 105, 116, 121]⟩, .int .i64 0, .string ⟨#[103, 51]⟩, .string ⟨#[114, 105, 110, 103]⟩, .int .i64 p2] 51)
  have hG3 := hG2.alloc (.cells #[.string ⟨#[103, 49]⟩, .string ⟨#[99, 105, 116, 121]⟩, .int .i64 p1, .string ⟨#[103, 50]⟩, .string ⟨#[99, 105, 116, 121]⟩, .int .i64 0, .string ⟨#[103, 51]⟩, .string ⟨#[114, 105, 110, 103]⟩, .int .i64 p2] 51)
  have hgw := hG2.size
  clear hSB2 hG2
  go_upto_region 2 with fail
  generalize w2.alloc (.cells #[.string ⟨#[103, 49]⟩, .string ⟨#[99, 105, 116, 121]⟩, .int .i64 p1, .string ⟨#[103, 50]⟩, .string ⟨#[99, 105, 116, 121]⟩, .int .i64 0, .string ⟨#[103, 51]⟩, .string ⟨#[114, 105, 110, 103]⟩, .int .i64 p2] 51) = w3 at hown0 hSB3 hG3 ⊢
  generalize w2.heap.size = g at hown0 hgw ⊢
  obtain ⟨l, hl⟩ : ∃ l : List Ga, [(⟨#[103, 49]⟩, ⟨#[99, 105, 116, 121]⟩, p1), (⟨#[103, 50]⟩, ⟨#[99, 105, 116, 121]⟩, 0), (⟨#[103, 51]⟩, ⟨#[114, 105, 110, 103]⟩, p2)] = l := ⟨_, rfl⟩
  have hl3 : l.length = 3 := by rw [← hl]; rfl
  have HL3 := Lib.hid hl3
  rw [hl] at hown0 HOK
  clear hl hl3
  go_wp2_with fail
  refine (flip_c _ _ _ _ hSB3 (by omega) (by omega)).mono ?_; rintro e w4 ⟨q, rfl, hSB4, hg⟩
  have hown4 := OwnX.kept hown0 hg hsw
  have hG4 := hG3.trans hg
  clear hown0 hG3 hSB3 hg
  cases q with
  | false =>
    go_wp2_with fail
    go_ret
    exact ⟨_, l, rfl, hown4, HOK.out, HL3.out, hSB4.le (by omega), hG4⟩
  | true =>
    go_wp2_with fail
    refine (next_c _ _ _ _ hSB4 (by omega) (by omega)).mono ?_; rintro e w5 ⟨j, rfl, hj, hSB5, hg⟩
    obtain ⟨j0, j1⟩ := hj
    obtain ⟨j, rfl⟩ := Int.eq_ofNat_of_zero_le j0
    have jli : (j : Int) < 3 := by omega
    have jl : j < 3 := by omega
    clear j1
    have hown5 := OwnX.kept hown4 hg hsw
    have hG5 := hG4.trans hg
    clear hown4 hG4 hg hSB4
    go_wp2_with fail
    refine (some_c _ _ _ [⟨#[103, 49]⟩, ⟨#[]⟩, ⟨#[103, 50]⟩] _ _ _ (hSB5.alloc _) (by omega) (by decide) (by decide) (Rd.newAt _ rfl rfl (by decide)) (hSB5.newAt _ _ _ (Nat.le_refl _))).mono ?_; rintro e w6 ⟨r1, rfl, hp, hSB6, hg⟩
    have HR1 := Lib.hid (small_pick hp (by decide))
    have hown6 := OwnX.kept (OwnX.alloc hown5 (.cells _ 9)) hg hsw
    have hG6 := (hG5.alloc (.cells _ 9)).trans hg
    clear hown5 hG5 hg hSB5 hp
    go_wp2_with fail
    refine (some_c _ _ _ [⟨#[99, 105, 116, 121]⟩, ⟨#[]⟩] _ _ _ (hSB6.alloc _) (by omega) (by decide) (by decide) (Rd.newAt _ rfl rfl (by decide)) (hSB6.newAt _ _ _ (Nat.le_refl _))).mono ?_; rintro e w7 ⟨r2, rfl, hp, hSB7, hg⟩
    have HR2 := Lib.hid (small_pick hp (by decide))
    have hown7 := OwnX.kept (OwnX.alloc hown6 (.cells _ 9)) hg hsw
    have hG7 := (hG6.alloc (.cells _ 9)).trans hg
    clear hown6 hG6 hg hSB6 hp
    go_wp2_with fail
    refine (odd_c _ _ _ _ _ hSB7 (by omega) (by omega) (by omega) (by omega) (by omega)).mono ?_; rintro e w8 ⟨y1, rfl, y10, y11, hSB8, hg⟩
    have hown8 := OwnX.kept hown7 hg hsw
    have hG8 := hG7.trans hg
    clear hown7 hG7 hg hSB7 y10 y11
    obtain ⟨⟨z1, z2, z3⟩, hp⟩ : ∃ p, l[j]? = some p := ⟨_, List.getElem?_eq_getElem (by rw [HL3.out]; exact jl)⟩
    have hown9 : OwnGa w8 w.heap.size (.slice (some ⟨g, 0, none⟩) l.length 3) l := by rw [HL3.out]; exact hown8
    have c0 := RdR.cell gaC_sz (Rd.of_owns hown8) (G.refl _ none) hp 0 (.string z1) rfl
    have c1 := RdR.cell gaC_sz (Rd.of_owns hown8) (G.refl _ none) hp 1 (.string z2) rfl
    have c2 := RdR.cell gaC_sz (Rd.of_owns hown8) (G.refl _ none) hp 2 (.int .i64 z3) rfl
    have f0 := ownsRow_free hown9 (j * 3 + 0)
    have f1 := ownsRow_free hown9 (j * 3 + 1)
    have f2 := ownsRow_free hown9 (j * 3 + 2)
    have jll : j < l.length := by rw [HL3.out]; exact jl
    have o1 := OwnX.set gaC_sz hown9 hp (q := (r1, z2, z3)) 0 (.string r1) (by omega) rfl
    have o2 := OwnX.set gaC_sz o1 (show (l.set j (r1, z2, z3))[j]? = some (r1, z2, z3) by rw [List.getElem?_set_self jll]) (q := (r1, r2, z3)) 1 (.string r2) (by omega) rfl
    rw [List.set_set] at o2
    have o3 := OwnX.set gaC_sz o2 (show (l.set j (r1, r2, z3))[j]? = some (r1, r2, z3) by rw [List.getElem?_set_self jll]) (q := (r1, r2, y1)) 2 (.int .i64 y1) (by omega) rfl
    rw [List.set_set, HL3.out] at o3
    simp only [Nat.zero_add, Nat.add_zero] at c0 c1 c2 f0 o3
    have hgs : s < g := by omega
    clear o1 o2 hown8 hown9 hp jll
    go_wp2_with fail
    go_ret
    exact ⟨_, l.set j (r1, r2, y1), rfl, by unfold OwnGa OwnX; rw [List.length_set, HL3.out]; exact o3, HOK.out.set (r := (r1, r2, y1)) ⟨HR1.out, HR2.out⟩ j, by rw [List.length_set]; exact HL3.out, (((hSB8.setCell (p := ⟨g, j * 3, none⟩) hgs _).setCell (p := ⟨g, j * 3 + 1, none⟩) hgs _).setCell (p := ⟨g, j * 3 + 2, none⟩) hgs _).le (by omega), ((hG8.setCell (p := ⟨g, j * 3, none⟩) (.inl hgw) _).setCell (p := ⟨g, j * 3 + 1, none⟩) (.inl hgw) _).setCell (p := ⟨g, j * 3 + 2, none⟩) (.inl hgw) _⟩
/-! ### Passages -/
theorem cf_order : ∀ (args : Array Value) (w : World), (callFunc 25 args).run Tryd.prog w = .ok (.enter 25 args) w := fun args w => by kernel_rfl
theorem cf_same : ∀ (args : Array Value) (w : World), (callFunc 27 args).run Tryd.prog w = .ok (.enter 27 args) w := fun args w => by kernel_rfl
set_option maxRecDepth 100000 in
set_option maxHeartbeats 2000000 in
theorem paSame_c (x y : Pa) (w : World) (hx : paB x) (hy : paB y) : Calls Tryd.prog 27 #[.agg (paC x), .agg (paC y)] w fun e w' => e = .returned (.bool (cmpP x y == 0)) ∧ G w w' none := by
  have CO := Lib.hid (fun w' => passageOrder_c x y w' hx hy)
  generalize cmpP x y = R at CO ⊢
  obtain ⟨x1, x2, x3, x4⟩ := x
  obtain ⟨y1, y2, y3, y4⟩ := y
  clear hx hy
  have hBx : Bk ((w.alloc (.cells #[.int .i64 x1, .string x2, .string x3, .int .i64 x4] 34)).alloc (.cells #[.int .i64 y1, .string y2, .string y3, .int .i64 y4] 34)) w.heap.size 34 #[.int .i64 x1, .string x2, .string x3, .int .i64 x4] := (Bk.new w 34 _).alloc _
  have hBy := Bk.newAt (w := w.alloc (.cells #[.int .i64 x1, .string x2, .string x3, .int .i64 x4] 34)) (b := w.heap.size + 1) (by simp) 34 #[.int .i64 y1, .string y2, .string y3, .int .i64 y4]
  have hG := ((G.refl w none).alloc (.cells #[.int .i64 x1, .string x2, .string x3, .int .i64 x4] 34)).alloc (.cells #[.int .i64 y1, .string y2, .string y3, .int .i64 y4] 34)
  show Calls Tryd.prog 27 #[.agg #[.int .i64 x1, .string x2, .string x3, .int .i64 x4], .agg #[.int .i64 y1, .string y2, .string y3, .int .i64 y4]] w _
  go_enter Tryd.func27, Tryd.ntmps27
  go_upto_region 1 with fail
  generalize (w.alloc (.cells #[.int .i64 x1, .string x2, .string x3, .int .i64 x4] 34)).alloc (.cells #[.int .i64 y1, .string y2, .string y3, .int .i64 y4] 34) = w2 at hBx hBy hG ⊢
  go_wp2_with (first | (refine wpList_load_row rfl 34 _ rfl w.heap.size rfl 34 #[.int .i64 x1, .string x2, .string x3, .int .i64 x4] (0, 0) _ hBx Tryd.underlying34 rfl (pa_info (x1, x2, x3, x4)) ?_) | (refine wpList_load_row rfl 34 _ rfl (w.heap.size + 1) rfl 34 #[.int .i64 y1, .string y2, .string y3, .int .i64 y4] (0, 0) _ hBy Tryd.underlying34 rfl (pa_info (y1, y2, y3, y4)) ?_))
  refine (CO.out _).mono ?_; rintro e w3 ⟨rfl, hh⟩
  go_wp2_with fail
  go_ret
  exact ⟨rfl, hG.trans hh⟩
def PaG (l : List Pa) : Prop := PaOk l ∧ ∀ x ∈ l, paB x
theorem PaG.snoc {l : List Pa} {r : Pa} (h : PaG l) (hr : (Small r.2.1 ∧ Small r.2.2.1) ∧ paB r) : PaG (l ++ [r]) :=
  ⟨fun p hp => by
    rcases List.mem_append.1 hp with hp | hp
    · exact h.1 p hp
    · obtain rfl := List.mem_singleton.1 hp; exact hr.1,
   fun p hp => by
    rcases List.mem_append.1 hp with hp | hp
    · exact h.2 p hp
    · obtain rfl := List.mem_singleton.1 hp; exact hr.2⟩
theorem PaG.sub {l l' : List Pa} (h : PaG l) (hs : ∀ z ∈ l', z ∈ l) : PaG l' := ⟨fun p hp => h.1 p (hs p hp), fun p hp => h.2 p (hs p hp)⟩
theorem PaG.set {l : List Pa} {r : Pa} (h : PaG l) (hr : (Small r.2.1 ∧ Small r.2.2.1) ∧ paB r) (k : Nat) : PaG (l.set k r) :=
  ⟨fun p hp => by
    rcases List.mem_or_eq_of_mem_set hp with hp | rfl
    · exact h.1 p hp
    · exact hr.1,
   fun p hp => by
    rcases List.mem_or_eq_of_mem_set hp with hp | rfl
    · exact h.2 p hp
    · exact hr.2⟩
def PsPost (s K n : Nat) (w : World) (e : Ending) (w' : World) : Prop :=
  ∃ (v : Value) (l : List Pa), e = .returned v ∧ OwnPa w' w.heap.size v l ∧ PaG l ∧ l.length ≤ n ∧ SB w' s (K + 100) ∧ G w w' (some s)
theorem ps_fin {w w' : World} {s K K' n : Nat} {v : Value} {l : List Pa} (hown : OwnPa w' w.heap.size v l) (hl : PaG l) (hn : l.length ≤ n) (hSB : SB w' s K') (hK : K' ≤ K + 100) (hG : G w w' (some s)) : PsPost s K n w (.returned v) w' :=
  ⟨v, l, rfl, hown, hl, hn, hSB.le hK, hG⟩
def PsRel (w : World) (s K n : Nat) (s5 s8 : Value) (wr : World) : Prop :=
  ∃ (k : Nat) (l : List Pa), k ≤ n ∧ l.length = k ∧ s8 = .int .i64 k ∧ OwnPa wr w.heap.size s5 l ∧ PaG l ∧ SB wr s (K + 4 * k) ∧ G w wr (some s)
set_option maxRecDepth 100000 in
set_option maxHeartbeats 8000000 in
theorem passagesG_c (n : Nat) (hn : n ≤ 12) (w : World) (s : Nat) (K : Nat) (hs : SB w s K) (hk : K ≤ 600000000000) :
    Calls Tryd.prog 5 #[.pointer (some ⟨s, 0, none⟩), .int .i64 n] w (PsPost s K n w) := by
  have hsw := hs.lt
  go_enter Tryd.func5, Tryd.ntmps5
  go_wp2_with fail
  go_loopw [5, 8] (PsRel w s K n) (fun _ i _ => n - (intOf i).toNat)
  case atStart => exact ⟨0, [], by omega, rfl, rfl, World.ownsRow_nil _ _ _ _, ⟨fun x hx => (by cases hx), fun x hx => (by cases hx)⟩, hs, G.refl _ _⟩
  case round =>
    clear hs
    obtain ⟨k, l, hkn, hlk, rfl, hown, hok, hSB, hG⟩ := hrel
    by_cases hlt : k < n
    · have HOK := Lib.hid hok
      have HLK := Lib.hid hlk
      have HKN := Lib.hid hlt
      clear hok hlk
      go_wp2_with fail
      refine (pick_c _ _ _ [5, 10, 60, 62, 66, 72, 100, 105, 150, 300, 1440, 1500, 1501] _ _ _ (hSB.alloc _) (by omega) (by decide) (by decide) (Rd.newAt _ rfl rfl (by decide)) (hSB.newAt _ _ _ (Nat.le_refl _))).mono ?_; rintro e w3 ⟨t, rfl, hp, hSB3, hg⟩
      have HT : Hid (0 ≤ t ∧ t ≤ 1501) := Lib.hid (by simp only [List.mem_cons, List.mem_nil_iff, or_false] at hp; omega)
      have hh := ((G.refl wr (some s)).alloc (.cells _ 3)).trans hg
      have hown3 := OwnX.kept hown hh hsw
      have hG3 := hG.trans hh
      clear hown hG hSB hg hh hp
      go_wp2_with fail
      refine (some_c _ _ _ [⟨#[103, 49]⟩, ⟨#[103, 49]⟩, ⟨#[103, 50]⟩, ⟨#[103, 51]⟩] _ _ _ (hSB3.alloc _) (by omega) (by decide) (by decide) (Rd.newAt _ rfl rfl (by decide)) (hSB3.newAt _ _ _ (Nat.le_refl _))).mono ?_; rintro e w4 ⟨gk, rfl, hp, hSB4, hg⟩
      have HGK := Lib.hid (small_pick hp (by decide))
      have hh := ((G.refl w3 (some s)).alloc (.cells _ 9)).trans hg
      have hown4 := OwnX.kept hown3 hh hsw
      have hG4 := hG3.trans hh
      clear hown3 hG3 hSB3 hg hh hp
      go_wp2_with fail
      refine (some_c _ _ _ [⟨#[65, 66, 49]⟩, ⟨#[65, 66, 49]⟩, ⟨#[65, 66, 50]⟩, ⟨#[90, 90, 57]⟩] _ _ _ (hSB4.alloc _) (by omega) (by decide) (by decide) (Rd.newAt _ rfl rfl (by decide)) (hSB4.newAt _ _ _ (Nat.le_refl _))).mono ?_; rintro e w5 ⟨y, rfl, hp, hSB5, hg⟩
      have HY := Lib.hid (small_pick hp (by decide))
      have hh := ((G.refl w4 (some s)).alloc (.cells _ 9)).trans hg
      have hown5 := OwnX.kept hown4 hh hsw
      have hG5 := hG4.trans hh
      clear hown4 hG4 hSB4 hg hh hp
      go_wp2_with fail
      refine (pick_c _ _ _ [0, 30, 30, 80, 500] _ _ _ (hSB5.alloc _) (by omega) (by decide) (by decide) (Rd.newAt _ rfl rfl (by decide)) (hSB5.newAt _ _ _ (Nat.le_refl _))).mono ?_; rintro e w6 ⟨c, rfl, hp, hSB6, hg⟩
      have hh := ((G.refl w5 (some s)).alloc (.cells _ 3)).trans hg
      have hown6 := OwnX.kept hown5 hh hsw
      have hG6 := hG5.trans hh
      have hob := OwnX.low hown6
      have hsz := hG6.size
      have hownA := OwnX.alloc hown6 (.cells #[.int .i64 t, .string gk, .string y, .int .i64 c] 34)
      clear hown5 hG5 hSB5 hg hh hp
      go_wp2_with (at_builtin; refine wpList_plain rfl fun K' hK' => wp_append_x pa_rowOk _ _ rfl w.heap.size u5 l rfl hownA w6.heap.size (t, gk, y, c) rfl (Bk.new w6 _ _) (by have := HLK.out; omega) (by simp; omega) ?_; intro v8 w8 hown8 hgrow; refine hK' _ _ ?_)
      go_roundw
      case rel => exact ⟨k + 1, l ++ [(t, gk, y, c)], (by have := HKN.out; omega), (by have := HLK.out; simp; omega), by go_num, hown8, HOK.out.snoc ⟨⟨HGK.out, HY.out⟩, by have := HT.out; unfold paB; dsimp only; omega⟩, ((hSB6.alloc _).own hgrow (fun r e => Nat.lt_of_lt_of_le hsw (hob r e))).le (by omega), (hG6.alloc _).other hgrow (fun r e => .inl (hob r e))⟩
      case measure => have := HKN.out; simp [intOf]; omega
    · obtain rfl : k = n := by omega
      have hl12 : l.length < 20 := by omega
      have hl13 : l.length ≤ k := by omega
      have hob := OwnX.low hown
      have CST := Lib.hid (sortStableP_c 25 #[] cmpP u5 l w.heap.size wr cf_order (fun x y w' hx hy _ => passageOrder_c x y w' (hok.2 x hx) (hok.2 y hy)) hown hl12)
      have HOK := Lib.hid hok
      have HL13 := Lib.hid hl13
      clear hok hlk hl12 hl13
      go_wp2_with fail
      refine CST.out.mono ?_; rintro e w2 ⟨rfl, hown2, hgs⟩
      have hg2 := GS.toOwn hgs
      have hSB2 := hSB.own hg2 (fun r e => Nat.lt_of_lt_of_le hsw (hob r e))
      have hG2 := hG.other hg2 (fun r e => .inl (hob r e))
      obtain ⟨L, hL⟩ : ∃ L, isrt (fun x y => decide (cmpP x y < 0)) l = L := ⟨_, rfl⟩
      have HLO : Hid (PaG L ∧ L.length ≤ k) := Lib.hid ⟨HOK.out.sub (fun z hz => isrtP_mem _ _ _ (by rw [hL]; exact hz)), by rw [← hL, isrtP_len]; exact HL13.out⟩
      rw [hL] at hown2
      clear hL CST hown hSB hG hgs hg2 HOK HL13
      have CCF := Lib.hid (compact_c 27 #[] (fun x y => cmpP x y == 0) u5 L w.heap.size w2 cf_same (fun x y w' hx hy _ => paSame_c x y w' (HLO.out.1.2 x hx) (HLO.out.1.2 y hy)) hown2 (by have := HLO.out.2; omega))
      go_wp2_with fail
      refine CCF.out.mono ?_; rintro e w3 ⟨v3, l3, rfl, hown3, hl3, hsub, hgs⟩
      have hg3 := GS.toOwn hgs
      have hSB3 := hSB2.own hg3 (fun r e => Nat.lt_of_lt_of_le hsw (hob r e))
      have hG3 := hG2.other hg3 (fun r e => .inl (hob r e))
      have HLO3 : Hid (PaG l3 ∧ l3.length ≤ k) := Lib.hid ⟨HLO.out.1.sub hsub, by have := HLO.out.2; omega⟩
      clear hgs hg3 hsub hl3 HLO CCF hown2 hSB2 hG2 hob
      have hl12 := HLO3.out.2
      rcases Nat.eq_zero_or_pos l3.length with h0 | h0
      · obtain rfl : l3 = [] := List.eq_nil_of_length_eq_zero h0
        obtain ⟨aa, cc, hv, -, -⟩ := RdR.form (c := paC) (Rd.of_owns hown3)
        have hv' : v3 = .slice aa 0 cc := hv
        clear hv h0
        subst hv'
        go_wp2_with fail
        go_ret
        exact ps_fin hown3 HLO3.out.1 (by simp) hSB3 (by omega) hG3
      · obtain ⟨g, cap, cur, e, -⟩ := OwnX.form0 hown3 h0
        subst e
        have hgs := OwnX.low hown3 g rfl
        have h0i : ((0 : Int) < (l3.length : Int)) := by omega
        clear h0
        go_wp2_with fail
        refine (flip_c _ _ _ _ hSB3 (by omega) (by omega)).mono ?_; rintro e w4 ⟨q, rfl, hSB4, hg⟩
        have hown4 := OwnX.kept hown3 hg hsw
        have hG4 := hG3.trans hg
        clear hown3 hG3 hSB3 hg
        cases q with
        | false =>
          go_wp2_with fail
          go_ret
          exact ps_fin hown4 HLO3.out.1 hl12 hSB4 (by omega) hG4
        | true =>
          go_wp2_with fail
          refine (next_c _ _ _ _ hSB4 (by omega) (by omega)).mono ?_; rintro e w5 ⟨j, rfl, hj, hSB5, hg⟩
          obtain ⟨j0, j1⟩ := hj
          obtain ⟨j, rfl⟩ := Int.eq_ofNat_of_zero_le j0
          have jl : j < l3.length := by omega
          have jli : (j : Int) < (l3.length : Int) := by omega
          clear j1
          have hown5 := OwnX.kept hown4 hg hsw
          have hG5 := hG4.trans hg
          clear hown4 hG4 hg hSB4
          obtain ⟨⟨z1, z2, z3, z4⟩, hpj⟩ : ∃ p, l3[j]? = some p := ⟨_, List.getElem?_eq_getElem jl⟩
          have HPJ := Lib.hid hpj
          have HPG : Hid ((Small z2 ∧ Small z3) ∧ paB (z1, z2, z3, z4)) := Lib.hid ⟨HLO3.out.1.1 _ (List.mem_of_getElem? hpj), HLO3.out.1.2 _ (List.mem_of_getElem? hpj)⟩
          clear hpj
          have hgsg : s < g := Nat.lt_of_lt_of_le hsw hgs
          go_wp2_with fail
          refine (next_c _ _ _ _ hSB5 (by omega) (by omega)).mono ?_; rintro e w6 ⟨b, rfl, hb, hSB6, hg⟩
          obtain ⟨b0, b1⟩ := hb
          have hown6 := OwnX.kept hown5 hg hsw
          have hG6 := hG5.trans hg
          clear hown5 hG5 hg hSB5
          rcases (show b = 0 ∨ b = 1 ∨ b = 2 ∨ b = 3 by omega) with rfl | rfl | rfl | rfl
          · go_wp2_with fail
            refine (odd_c _ _ _ _ _ hSB6 (by omega) (by omega) (by omega) (by omega) (by omega)).mono ?_; rintro e w7 ⟨n7, rfl, y10, y11, hSB7, hg⟩
            have HN7 := Lib.hid (And.intro y10 y11)
            have hown7 := OwnX.kept hown6 hg hsw
            have hG7 := hG6.trans hg
            clear y10 y11
            have c0 := RdR.cell paC_sz (Rd.of_owns hown7) (G.refl _ none) HPJ.out 0 (.int .i64 z1) rfl
            have f0 := ownsRow_free hown7 (j * 4 + 0)
            have o1 := OwnX.set paC_sz hown7 HPJ.out (q := (n7, z2, z3, z4)) 0 (.int .i64 n7) (by omega) rfl
            simp only [Nat.zero_add, Nat.add_zero] at c0 f0 o1
            clear hown6 hG6 hSB6 hg hown7
            go_wp2_with fail
            go_ret
            exact ps_fin (l := l3.set j (n7, z2, z3, z4)) (by unfold OwnPa OwnX; rw [List.length_set]; exact o1) (HLO3.out.1.set (r := (n7, z2, z3, z4)) ⟨HPG.out.1, by have := HN7.out; unfold paB; dsimp only; omega⟩ j) (by rw [List.length_set]; exact hl12) (hSB7.setCell (p := ⟨g, j * 4, none⟩) hgsg _) (by omega) (hG7.setCell (p := ⟨g, j * 4, none⟩) (.inl hgs) _)
          · go_wp2_with fail
            refine (some_c _ _ _ [⟨#[110, 111, 110, 101]⟩, ⟨#[]⟩, ⟨#[65]⟩] _ _ _ (hSB6.alloc _) (by omega) (by decide) (by decide) (Rd.newAt _ rfl rfl (by decide)) (hSB6.newAt _ _ _ (Nat.le_refl _))).mono ?_; rintro e w7 ⟨n7, rfl, hp, hSB7, hg⟩
            have HN7 := Lib.hid (small_pick hp (by decide))
            have hown7 := OwnX.kept (OwnX.alloc hown6 (.cells _ 9)) hg hsw
            have hG7 := (hG6.alloc (.cells _ 9)).trans hg
            clear hp
            have c0 := RdR.cell paC_sz (Rd.of_owns hown7) (G.refl _ none) HPJ.out 1 (.string z2) rfl
            have f0 := ownsRow_free hown7 (j * 4 + 1)
            have o1 := OwnX.set paC_sz hown7 HPJ.out (q := (z1, n7, z3, z4)) 1 (.string n7) (by omega) rfl
            simp only [Nat.zero_add, Nat.add_zero] at c0 f0 o1
            clear hown6 hG6 hSB6 hg hown7
            go_wp2_with fail
            go_ret
            exact ps_fin (l := l3.set j (z1, n7, z3, z4)) (by unfold OwnPa OwnX; rw [List.length_set]; exact o1) (HLO3.out.1.set (r := (z1, n7, z3, z4)) ⟨⟨HN7.out, HPG.out.1.2⟩, HPG.out.2⟩ j) (by rw [List.length_set]; exact hl12) (hSB7.setCell (p := ⟨g, j * 4 + 1, none⟩) hgsg _) (by omega) (hG7.setCell (p := ⟨g, j * 4 + 1, none⟩) (.inl hgs) _)
          · go_wp2_with fail
            refine (some_c _ _ _ [⟨#[97]⟩, ⟨#[]⟩, ⟨#[97, 98, 49]⟩] _ _ _ (hSB6.alloc _) (by omega) (by decide) (by decide) (Rd.newAt _ rfl rfl (by decide)) (hSB6.newAt _ _ _ (Nat.le_refl _))).mono ?_; rintro e w7 ⟨n7, rfl, hp, hSB7, hg⟩
            have HN7 := Lib.hid (small_pick hp (by decide))
            have hown7 := OwnX.kept (OwnX.alloc hown6 (.cells _ 9)) hg hsw
            have hG7 := (hG6.alloc (.cells _ 9)).trans hg
            clear hp
            have c0 := RdR.cell paC_sz (Rd.of_owns hown7) (G.refl _ none) HPJ.out 2 (.string z3) rfl
            have f0 := ownsRow_free hown7 (j * 4 + 2)
            have o1 := OwnX.set paC_sz hown7 HPJ.out (q := (z1, z2, n7, z4)) 2 (.string n7) (by omega) rfl
            simp only [Nat.zero_add, Nat.add_zero] at c0 f0 o1
            clear hown6 hG6 hSB6 hg hown7
            go_wp2_with fail
            go_ret
            exact ps_fin (l := l3.set j (z1, z2, n7, z4)) (by unfold OwnPa OwnX; rw [List.length_set]; exact o1) (HLO3.out.1.set (r := (z1, z2, n7, z4)) ⟨⟨HPG.out.1.1, HN7.out⟩, HPG.out.2⟩ j) (by rw [List.length_set]; exact hl12) (hSB7.setCell (p := ⟨g, j * 4 + 2, none⟩) hgsg _) (by omega) (hG7.setCell (p := ⟨g, j * 4 + 2, none⟩) (.inl hgs) _)
          · go_wp2_with fail
            refine (odd_c _ _ _ _ _ hSB6 (by omega) (by omega) (by omega) (by omega) (by omega)).mono ?_; rintro e w7 ⟨n7, rfl, y10, y11, hSB7, hg⟩
            have HN7 := Lib.hid (And.intro y10 y11)
            have hown7 := OwnX.kept hown6 hg hsw
            have hG7 := hG6.trans hg
            clear y10 y11
            have c0 := RdR.cell paC_sz (Rd.of_owns hown7) (G.refl _ none) HPJ.out 3 (.int .i64 z4) rfl
            have f0 := ownsRow_free hown7 (j * 4 + 3)
            have o1 := OwnX.set paC_sz hown7 HPJ.out (q := (z1, z2, z3, n7)) 3 (.int .i64 n7) (by omega) rfl
            simp only [Nat.zero_add, Nat.add_zero] at c0 f0 o1
            clear hown6 hG6 hSB6 hg hown7
            go_wp2_with fail
            go_ret
            exact ps_fin (l := l3.set j (z1, z2, z3, n7)) (by unfold OwnPa OwnX; rw [List.length_set]; exact o1) (HLO3.out.1.set (r := (z1, z2, z3, n7)) ⟨HPG.out.1, HPG.out.2⟩ j) (by rw [List.length_set]; exact hl12) (hSB7.setCell (p := ⟨g, j * 4 + 3, none⟩) hgsg _) (by omega) (hG7.setCell (p := ⟨g, j * 4 + 3, none⟩) (.inl hgs) _)
end Go.Proofs.YtkpmcakppiinlaaDoor
