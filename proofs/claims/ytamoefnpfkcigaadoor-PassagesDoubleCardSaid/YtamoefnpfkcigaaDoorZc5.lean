/- Tck, Paf, Gaf, Gps, Mpk, Prk, Dbl, Dob. -/
import Derived.Test.YtamoefnpfkcigaaDoorZc3
import Derived.Test.YtamoefnpfkcigaaDoorZc4
import Derived.Test.YtamoefnpfkcigaaDoorZc2
import Derived.Test.YtamoefnpfkcigaaDoorZc1
import Derived.DeepKeys4
import Derived.Test.YtamoefnpfkcigaaDoorProg
/- Passages at gates: toll.Check, toll.checkRuled. Written by gentck.py. -/
namespace Go.Proofs.YtamoefnpfkcigaaDoor
open Go.RowKit

def tkErr (g : List Ga) : List Pa → Int
  | [] => 0
  | p :: r => if (gaS g p.2.1).isSome = false then 8 else if momB (p.1 - clk g p.2.1) = false then 16 else tkErr g r
def tcE (g : List Ga) (l : List Pa) : Int := if gaE g = 0 then (if paE l = 0 then tkErr g l else paE l) else gaE g
def rdE (x : Tr) (g : List Ga) (l : List Pa) : Int := if trE x = 0 then tcE g l else trE x
theorem pa_bnd (b : Option Pa) (l : List Pa) (h : paErr b l = 0) : ∀ p ∈ l, 0 ≤ p.1 ∧ p.1 < 5761440 := by
  induction l generalizing b with
  | nil => exact fun p hp => by cases hp
  | cons p r ih =>
    unfold paErr at h
    split at h
    · omega
    · rename_i hm
      split at h
      · omega
      · split at h
        · omega
        · split at h
          · omega
          · split at h
            · omega
            · have i3 := ih _ h
              intro q hq
              rcases List.mem_cons.1 hq with rfl | hq
              · unfold momB at hm
                simp at hm
                omega
              · exact i3 q hq
theorem paE_ok {l : List Pa} (h : paE l = 0) : (∀ p ∈ l, 0 ≤ p.1 ∧ p.1 < 5761440) ∧ l.length ≤ 1000 := by
  unfold paE at h
  split at h
  · omega
  · exact ⟨pa_bnd _ _ h, by omega⟩
def TcRel (w : World) (gs : List Ga) (l : List Pa) (b c : Nat) (f : Fn) (i : Value) (wr : World) : Prop :=
  ∃ k : Nat, k ≤ l.length ∧ i = .int .i64 k ∧ tkErr gs l = tkErr gs (l.drop k) ∧ MapG wr b c f ∧ G w wr none
set_option maxRecDepth 100000 in
set_option maxHeartbeats 8000000 in
theorem tollCheck_c (v v2 : Value) (gs : List Ga) (l : List Pa) (w : World) (hr : RdR w 3 gaC v gs) (hr2 : RdR w 4 paC v2 l) (hl : GaOk gs) (hl2 : PaOk l) (hn : gs.length ≤ 1000) (hn2 : l.length ≤ 1000000) :
    Calls Tryd.prog 73 #[v, v2] w fun e w' => e = .returned (.int .i64 (tcE gs l)) ∧ G w w' none := by
  obtain ⟨a, cap, rfl, hcap, hm⟩ := RdR.form hr
  obtain ⟨a2, cap2, rfl, hcap2, hm2⟩ := RdR.form hr2
  obtain ⟨E, hE⟩ : ∃ E, tcE gs l = E := ⟨_, rfl⟩
  have HE : Hid (E = if gaE gs = 0 then (if paE l = 0 then tkErr gs l else paE l) else gaE gs) := Lib.hid (by rw [← hE]; rfl)
  rw [hE]
  clear hE
  go_enter Tryd.func73, Tryd.ntmps73
  go_wp2_with fail
  refine (checkGates_c _ gs _ hr hl (by omega)).mono ?_; rintro e w1 ⟨rfl, hG⟩
  replace hr := hr.quiet hG
  replace hr2 := hr2.quiet hG
  obtain ⟨E1, hE1⟩ : ∃ E1, gaE gs = E1 := ⟨_, rfl⟩
  have HG := Lib.hid hE1
  rw [hE1] at HE ⊢
  clear hE1
  by_cases e1 : E1 = 0
  · subst e1
    have HE2 : Hid (E = if paE l = 0 then tkErr gs l else paE l) := Lib.hid (by rw [HE.out, if_pos rfl])
    clear HE
    go_wp2_with fail
    refine (paForm_c _ l _ hr2 hl2 hn2).mono ?_; rintro e w2 ⟨rfl, hh⟩
    replace hr := hr.quiet hh
    replace hr2 := hr2.quiet hh
    replace hG := hG.trans hh
    clear hh
    obtain ⟨E2, hE2⟩ : ∃ E2, paE l = E2 := ⟨_, rfl⟩
    have HP := Lib.hid hE2
    rw [hE2] at HE2 ⊢
    clear hE2
    by_cases e2 : E2 = 0
    · subst e2
      have HE3 : Hid (E = tkErr gs l) := Lib.hid (by rw [HE2.out, if_pos rfl])
      have HPB := Lib.hid (paE_ok HP.out).1
      have HGB := Lib.hid (gaE_ok HG.out).2.1
      clear HE2
      go_wp2_with fail
      refine (gatesOf_c _ gs _ hr hl hn).mono ?_; rintro e w3 ⟨b, rfl, hbb0, hM, hh⟩
      have HR2 := Lib.hid (hr2.quiet hh)
      replace hG := hG.trans hh
      clear hr hr2 hh
      obtain ⟨F, hF⟩ : ∃ F, gaF eF gs = F := ⟨_, rfl⟩
      have HF := Lib.hid hF
      generalize gaN 0 eF gs = cn at hM
      rw [hF] at hM
      clear hF
      go_wp2_with fail
      go_loopw [26] (TcRel w3 gs l b cn F) (fun i _ => l.length - (intOf i).toNat)
      case atStart => exact ⟨0, by omega, rfl, rfl, hM, G.refl _ _⟩
      case round =>
        clear hM
        obtain ⟨k, hkl, rfl, heq, hM, hGr⟩ := hrel
        have HQ := Lib.hid heq
        clear heq
        by_cases hk : k < l.length
        · obtain ⟨⟨t, gk, y, c⟩, hp⟩ : ∃ p, l[k]? = some p := ⟨_, List.getElem?_eq_getElem hk⟩
          have hdrop : l.drop k = (t, gk, y, c) :: l.drop (k + 1) := by rw [List.drop_eq_getElem_cons hk, ← (List.getElem?_eq_some_iff.1 hp).2]
          have hpm := List.mem_of_getElem? hp
          have HT := Lib.hid (HPB.out _ hpm)
          have hs1 := (hl2 _ hpm).1
          have HSm := Lib.hid hs1
          dsimp only at hs1 HT HSm
          unfold Small at hs1
          obtain ⟨bb, bo, rfl, hbb, _⟩ := RdR.elem paC_sz HR2.out hGr hp
          have HW := Lib.hid (paRow HR2.out hGr hp)
          have HS : Hid (tkErr gs (l.drop k) = if (gaS gs gk).isSome = false then 8 else if momB (t - clk gs gk) = false then 16 else tkErr gs (l.drop (k + 1))) := Lib.hid (by rw [hdrop]; rfl)
          have hfa : Hid (F gk = (gaS gs gk).map (fun u => .agg (gaC u))) := Lib.hid (by rw [← HF.out, gaF_at])
          have HK := Lib.hid hk
          have hB5 : Bk (wr.alloc (.cells #[.int .i64 t, .string gk, .string y, .int .i64 c] 90)) wr.heap.size 90 #[.int .i64 t, .string gk, .string y, .int .i64 c] := Bk.new wr 90 _
          have hG5 : G w3 (wr.alloc (.cells #[.int .i64 t, .string gk, .string y, .int .i64 c] 90)) none := hGr.alloc (.cells (paC (t, gk, y, c)) 90)
          have hM5 := hM.alloc (.cells #[.int .i64 t, .string gk, .string y, .int .i64 c] 90)
          clear hdrop hp hGr hM hpm
          go_upto_region 11 with (refine wpList_load_at rfl 90 _ rfl ⟨bb, bo + k * 4, none⟩ rfl #[.int .i64 t, .string gk, .string y, .int .i64 c] _ HW.out Tryd.underlying90 rfl (pa_info (t, gk, y, c)) ?_)
          clear HW
          generalize wr.alloc (.cells #[.int .i64 t, .string gk, .string y, .int .i64 c] 90) = w5 at hB5 hG5 hM5 ⊢
          generalize wr.heap.size = g5 at hB5 ⊢
          have c1 : w5.cell? ⟨g5, 1, none⟩ = some (.string gk) := hB5.cell 1
          cases hg : gaS gs gk with
          | none =>
            have hfs : F gk = none := by rw [hfa.out, hg]; rfl
            obtain rfl : E = 8 := by rw [HE3.out, HQ.out, HS.out, hg]; rfl
            have hG6 := hG5.alloc (.cells #[.string ⟨#[]⟩, .string ⟨#[]⟩, .int .i64 0] 88)
            clear hg
            go_wp2_with (at_lookup; refine wpM_look_ok rfl _ _ 124 rfl 9 88 Tryd.underlying9 Tryd.underlying124 (.agg #[.string ⟨#[]⟩, .string ⟨#[]⟩, .int .i64 0]) (zg_run _) b cn F rfl hM5 gk rfl hs1 ?_; rw [hfs])
            go_ret
            exact ⟨rfl, hG.trans hG6⟩
          | some u =>
            obtain ⟨k1, a1, q1⟩ := u
            have hfs : F gk = some (.agg #[.string k1, .string a1, .int .i64 q1]) := by rw [hfa.out, hg]; rfl
            have HS2 : Hid (tkErr gs (l.drop k) = if momB (t - clk gs gk) = false then 16 else tkErr gs (l.drop (k + 1))) := Lib.hid (by rw [HS.out, hg]; rfl)
            have hG6 := hG5.alloc (.cells #[.string k1, .string a1, .int .i64 q1] 88)
            have hM6 := hM5.alloc (.cells #[.string k1, .string a1, .int .i64 q1] 88)
            have hB6 := hB5.alloc (.cells #[.string k1, .string a1, .int .i64 q1] 88)
            clear hg
            go_upto_region 12 with (at_lookup; refine wpM_look_ok rfl _ _ 124 rfl 9 88 Tryd.underlying9 Tryd.underlying124 (.agg #[.string ⟨#[]⟩, .string ⟨#[]⟩, .int .i64 0]) (zg_run _) b cn F rfl hM5 gk rfl hs1 ?_; rw [hfs])
            generalize w5.alloc (.cells #[.string k1, .string a1, .int .i64 q1] 88) = w6 at hG6 hM6 hB6 ⊢
            clear hB5 hG5 hM5 c1
            go_wp2_with (refine wpList_load_row rfl 90 _ rfl g5 rfl 90 #[.int .i64 t, .string gk, .string y, .int .i64 c] (0, 0) _ hB6 Tryd.underlying90 rfl (pa_info (t, gk, y, c)) ?_)
            refine (trueTime_c b cn gs (t, gk, y, c) _ (by rw [HF.out]; exact hM6) HSm.out (by have := HT.out; dsimp only; omega) HGB.out).mono ?_; rintro e w7 ⟨rfl, hh⟩
            have hG7 := hG6.trans hh
            have hM7 := hM6.quiet hh
            clear hG6 hM6 hB6 hh
            dsimp only
            generalize t - clk gs gk = tt at HS2 ⊢
            go_wp2_with fail
            refine (isMoment_c tt _).mono ?_; rintro e w' ⟨rfl, rfl⟩
            cases hmb : momB tt with
            | false =>
              obtain rfl : E = 16 := by rw [HE3.out, HQ.out, HS2.out, if_pos hmb]
              clear hmb
              go_wp2_with fail
              go_ret
              exact ⟨rfl, hG.trans hG7⟩
            | true =>
              have HN : Hid (tkErr gs l = tkErr gs (l.drop (k + 1))) := Lib.hid (by rw [HQ.out, HS2.out, if_neg (by simp [hmb])])
              clear hmb
              go_wp2_with fail
              go_roundw
              case rel => exact ⟨k + 1, (by have := HK.out; omega), by go_num, HN.out, hM7, hG7⟩
              case measure => have := HK.out; simp [intOf]; omega
        · obtain rfl : k = l.length := by omega
          obtain rfl : E = 0 := by rw [HE3.out, HQ.out, List.drop_length]; rfl
          go_wp2_with fail
          go_ret
          exact ⟨rfl, hG.trans hGr⟩
    · obtain rfl : E = E2 := by rw [HE2.out, if_neg e2]
      have hb : (E != 0) = true := bne_iff_ne.2 e2
      clear HE2 HP e2
      go_wp2_with fail
      go_ret
      exact ⟨rfl, hG⟩
  · obtain rfl : E = E1 := by rw [HE.out, if_neg e1]
    have hb : (E != 0) = true := bne_iff_ne.2 e1
    clear HE HG e1
    go_wp2_with fail
    go_ret
    exact ⟨rfl, hG⟩
set_option maxRecDepth 100000 in
set_option maxHeartbeats 4000000 in
theorem checkRuled_c (x : Tr) (v v2 : Value) (gs : List Ga) (l : List Pa) (w : World) (hr : RdR w 3 gaC v gs) (hr2 : RdR w 4 paC v2 l) (hl : GaOk gs) (hl2 : PaOk l) (hn : gs.length ≤ 1000) (hn2 : l.length ≤ 1000000) :
    Calls Tryd.prog 53 #[v, .agg (trC x), v2] w fun e w' => e = .returned (.int .i64 (rdE x gs l)) ∧ G w w' none := by
  obtain ⟨E, hE⟩ : ∃ E, rdE x gs l = E := ⟨_, rfl⟩
  have HE : Hid (E = if trE x = 0 then tcE gs l else trE x) := Lib.hid (by rw [← hE]; rfl)
  rw [hE]
  clear hE
  have CT := Lib.hid (fun w => tollRules_c x w)
  obtain ⟨d, q, f⟩ := x
  show Calls Tryd.prog 53 #[v, .agg #[.int .i64 d, .int .i64 q, .int .i64 f], v2] w _
  have hB : Bk (w.alloc (.cells #[.int .i64 d, .int .i64 q, .int .i64 f] 51)) w.heap.size 51 #[.int .i64 d, .int .i64 q, .int .i64 f] := Bk.new _ _ _
  have hG := (G.refl w none).alloc (.cells #[.int .i64 d, .int .i64 q, .int .i64 f] 51)
  go_enter Tryd.func53, Tryd.ntmps53
  go_upto_region 1 with fail
  generalize w.alloc (.cells #[.int .i64 d, .int .i64 q, .int .i64 f] 51) = w1 at hB hG ⊢
  generalize w.heap.size = g at hB ⊢
  go_wp2_with (refine wpList_load_row rfl 51 _ rfl g rfl 51 #[.int .i64 d, .int .i64 q, .int .i64 f] (0, 0) _ hB Tryd.underlying51 rfl (tr_info (d, q, f)) ?_)
  refine (CT.out _).mono ?_; rintro e w2 ⟨rfl, hh⟩
  replace hr := (hr.quiet hG).quiet hh
  replace hr2 := (hr2.quiet hG).quiet hh
  replace hG := hG.trans hh
  clear hh hB
  generalize trE (d, q, f) = E1 at HE ⊢
  by_cases e1 : E1 = 0
  · subst e1
    obtain rfl : E = tcE gs l := by rw [HE.out, if_pos rfl]
    clear HE
    go_wp2_with fail
    refine (tollCheck_c _ _ gs l _ hr hr2 hl hl2 hn hn2).mono ?_; rintro e w3 ⟨rfl, hh⟩
    go_wp2_with fail
    go_ret
    exact ⟨rfl, hG.trans hh⟩
  · obtain rfl : E = E1 := by rw [HE.out, if_neg e1]
    have hb : (E != 0) = true := bne_iff_ne.2 e1
    clear HE e1
    go_wp2_with fail
    go_ret
    exact ⟨rfl, hG⟩
end Go.Proofs.YtamoefnpfkcigaaDoor

/- Passages, the reference's: PlateForm, PassageOrder, PassageForm. Written by genpaf.py. -/
namespace Go.Proofs.YtamoefnpfkcigaaDoor
open Go.RowKit

def plS : ByteArray := ⟨#[65, 66, 67, 68, 69, 70, 71, 72, 73, 74, 75, 76, 77, 78, 79, 80, 81, 82, 83, 84, 85, 86, 87, 88, 89, 90, 48, 49, 50, 51, 52, 53, 54, 55, 56, 57]⟩
theorem pl_asc : ASC plS := asc_of (by decide) (by decide)
theorem pl_has (c : UInt8) : plS.data.toList.contains c = plC (c.toNat : Int) := by
  have h : ∀ n : Fin 256, plS.data.toList.contains (UInt8.ofNat n.val) = plC (n.val : Int) := by decide +kernel
  have := h ⟨c.toNat, c.toNat_lt⟩
  simpa using this
set_option maxRecDepth 100000 in
set_option maxHeartbeats 1000000 in
theorem rPlate_c (s : ByteArray) (w : World) (hs : s.size ≤ 9223372036854775807) : Calls Tryd.prog 74 #[.string s] w fun e w' => e = .returned (.bool (plB s)) ∧ G w w' none := by
  have hon := only_c s plS w hs pl_asc
  have hall : (s.data.toList.all (plS.data.toList.contains ·)) = s.data.toList.all fun c => plC c.toNat := by
    congr 1
    funext c
    exact pl_has c
  rw [hall] at hon
  have hP : Hid (plB s = (inB (s.size : Int) 2 10 && s.data.toList.all fun c => plC c.toNat)) := Lib.hid (by
    unfold plB inB
    by_cases h1 : 2 ≤ s.size <;> by_cases h2 : s.size ≤ 10 <;> simp [h1, h2] <;> omega)
  generalize (s.data.toList.all fun c => plC c.toNat) = A at hon hP
  generalize plB s = B at hP ⊢
  cases hin : inB (s.size : Int) 2 10 with
  | false =>
    obtain rfl : B = false := by rw [hP.out, hin]; rfl
    have HI := Lib.hid hin
    clear hin hon hP
    go_enter Tryd.func74, Tryd.ntmps74
    go_wp2_with fail
    refine (in_c _ 2 10 _).mono ?_; rintro e w' ⟨rfl, rfl⟩
    rw [HI.out]
    go_wp2_with fail
    go_ret
    exact ⟨rfl, G.refl _ _⟩
  | true =>
    obtain rfl : B = A := by rw [hP.out, hin]; rfl
    have HI := Lib.hid hin
    clear hin hP
    go_enter Tryd.func74, Tryd.ntmps74
    go_wp2_with fail
    refine (in_c _ 2 10 _).mono ?_; rintro e w' ⟨rfl, rfl⟩
    rw [HI.out]
    go_wp2_with fail
    refine hon.mono ?_; rintro e w' ⟨rfl, hG⟩
    go_wp2_with fail
    go_ret
    exact ⟨rfl, hG⟩
set_option maxRecDepth 100000 in
theorem isNaNS_c (x : ByteArray) (w : World) : Calls Tryd.prog 98 #[.string x] w fun e w' => e = .returned (.bool false) ∧ w = w' := by
  go_enter Tryd.func98, Tryd.ntmps98
  go_wp2_with fail
  go_ret
  exact ⟨ret_bool (by simp), rfl⟩
set_option maxRecDepth 100000 in
theorem cmpStr_c (x y : ByteArray) (w : World) : Calls Tryd.prog 83 #[.string x, .string y] w fun e w' => e = .returned (.int .i64 (cmpI x y)) ∧ w = w' := by
  have h1 : Op.bytesLess x.toList y.toList = decide (cmpI x y < 0) := by rw [ByteArray.toList_eq, ByteArray.toList_eq, less_cL]; rfl
  have h2 : Op.bytesLess y.toList x.toList = decide (0 < cmpI x y) := by
    rw [ByteArray.toList_eq, ByteArray.toList_eq, less_cL]
    have := cmpI_neg x y
    show decide (cmpI y x < 0) = _
    rw [this]
    congr 1
    exact propext (by omega)
  have h3 : (x.toList == y.toList) = decide (cmpI x y = 0) := eqB_cmp x y
  rcases cmpI_range x y with h | h | h
  all_goals
    rw [h] at h1 h2 h3
    simp only [show decide ((-1 : Int) = 0) = false from rfl, show decide ((0 : Int) = 0) = true from rfl, show decide ((1 : Int) = 0) = false from rfl] at h3
    simp only [show decide ((-1 : Int) < 0) = true from rfl, show decide ((0 : Int) < -1) = false from rfl, show decide ((0 : Int) < 0) = false from rfl, show decide ((1 : Int) < 0) = false from rfl, show decide ((0 : Int) < 1) = true from rfl] at h1 h2
    rw [h]
    clear h
    go_enter Tryd.func83, Tryd.ntmps83
    go_wp2_with fail
    refine (isNaNS_c _ _).mono ?_; rintro e w' ⟨rfl, rfl⟩
    go_wp2_with fail
    refine (isNaNS_c _ _).mono ?_; rintro e w' ⟨rfl, rfl⟩
    go_wp2_with fail
    go_ret
    exact ⟨rfl, rfl⟩
set_option maxRecDepth 100000 in
set_option maxHeartbeats 2000000 in
theorem cmpPair_c (a b c d : ByteArray) (g h : Nat) (w : World) (hB : Bk w g 9 #[.string a, .string b]) (hC : Bk w h 9 #[.string c, .string d]) :
    Calls Tryd.prog 72 #[.slice (some ⟨g, 0, none⟩) 2 2, .slice (some ⟨h, 0, none⟩) 2 2] w fun e w' => e = .returned (.int .i64 (orI (cmpI a c) (cmpI b d))) ∧ w = w' := by
  have a0 : w.cell? ⟨g, 0, none⟩ = some (.string a) := hB.cell 0
  have a1 : w.cell? ⟨g, 1, none⟩ = some (.string b) := hB.cell 1
  have b0 : w.cell? ⟨h, 0, none⟩ = some (.string c) := hC.cell 0
  have b1 : w.cell? ⟨h, 1, none⟩ = some (.string d) := hC.cell 1
  clear hB hC
  obtain ⟨R, hR⟩ : ∃ R, orI (cmpI a c) (cmpI b d) = R := ⟨_, rfl⟩
  have HR := Lib.hid hR
  rw [hR]
  clear hR
  by_cases h0 : cmpI a c = 0
  · have HR1 : Hid (R = cmpI b d) := Lib.hid (by rw [← HR.out, orI, if_pos h0])
    have H0 := Lib.hid h0
    clear h0
    by_cases h1 : cmpI b d = 0
    · obtain rfl : R = 0 := HR1.out.trans h1
      have H1 := Lib.hid h1
      clear h1
      go_enter Tryd.func72, Tryd.ntmps72
      go_wp2_with fail
      refine wp_loop_rounds 3 ?_
      rw [rounds_succ]
      go_wp2_with fail
      refine (cmpStr_c _ _ _).mono ?_; rintro e w' ⟨rfl, rfl⟩
      rw [H0.out]
      go_wp2_with fail
      rw [rounds_succ]
      go_wp2_with fail
      refine (cmpStr_c _ _ _).mono ?_; rintro e w' ⟨rfl, rfl⟩
      rw [H1.out]
      go_wp2_with fail
      rw [rounds_succ]
      go_wp2_with fail
      go_ret
      exact ⟨rfl, rfl⟩
    · have h1' : (R != 0) = true := by rw [HR1.out, bne_iff_ne]; exact h1
      clear h1
      go_enter Tryd.func72, Tryd.ntmps72
      go_wp2_with fail
      refine wp_loop_rounds 3 ?_
      rw [rounds_succ]
      go_wp2_with fail
      refine (cmpStr_c _ _ _).mono ?_; rintro e w' ⟨rfl, rfl⟩
      rw [H0.out]
      go_wp2_with fail
      rw [rounds_succ]
      go_wp2_with fail
      refine (cmpStr_c _ _ _).mono ?_; rintro e w' ⟨rfl, rfl⟩
      rw [← HR1.out]
      go_wp2_with fail
      go_ret
      exact ⟨rfl, rfl⟩
  · have HR1 : Hid (R = cmpI a c) := Lib.hid (by rw [← HR.out, orI, if_neg h0])
    have h1' : (R != 0) = true := by rw [HR1.out, bne_iff_ne]; exact h0
    clear h0
    go_enter Tryd.func72, Tryd.ntmps72
    go_wp2_with fail
    refine wp_loop_rounds 3 ?_
    rw [rounds_succ]
    go_wp2_with fail
    refine (cmpStr_c _ _ _).mono ?_; rintro e w' ⟨rfl, rfl⟩
    rw [← HR1.out]
    go_wp2_with fail
    go_ret
    exact ⟨rfl, rfl⟩
theorem sign_c (n : Int) (w : World) : Calls Tryd.prog 71 #[.int .i64 n] w fun e w' => e = .returned (.int .i64 (if n < 0 then -1 else if 0 < n then 1 else 0)) ∧ w = w' := by
  rcases (show n < 0 ∨ 0 < n ∨ n = 0 by omega) with h | h | h
  · rw [if_pos h]
    go_enter Tryd.func71, Tryd.ntmps71
    go_wp2_with fail
    go_ret
    exact ⟨rfl, rfl⟩
  · rw [if_neg (by omega), if_pos h]
    go_enter Tryd.func71, Tryd.ntmps71
    go_wp2_with fail
    go_ret
    exact ⟨rfl, rfl⟩
  · subst h
    go_enter Tryd.func71, Tryd.ntmps71
    go_wp2_with fail
    go_ret
    exact ⟨rfl, rfl⟩
def paB (x : Pa) : Prop := -2000000000000 ≤ x.1 ∧ x.1 ≤ 2000000000000
set_option maxRecDepth 100000 in
set_option maxHeartbeats 4000000 in
theorem passageOrder_c (x y : Pa) (w : World) (hx : paB x) (hy : paB y) :
    Calls Tryd.prog 50 #[.agg (paC x), .agg (paC y)] w fun e w' => e = .returned (.int .i64 (cmpP x y)) ∧ G w w' none := by
  have hBx := (Bk.new w 90 (paC x)).alloc (.cells (paC y) 90)
  have hBy := Bk.newAt (w := w.alloc (.cells (paC x) 90)) (b := w.heap.size + 1) (by simp) 90 (paC y)
  have hG := ((G.refl w none).alloc (.cells (paC x) 90)).alloc (.cells (paC y) 90)
  obtain ⟨R, hR⟩ : ∃ R, cmpP x y = R := ⟨_, rfl⟩
  have HR : Hid (R = orI (cmpS x.1 y.1) (orI (cmpI x.2.1 y.2.1) (cmpI x.2.2.1 y.2.2.1))) := Lib.hid (by rw [← hR]; rfl)
  rw [hR]
  clear hR
  unfold paB at hx hy
  go_enter Tryd.func50, Tryd.ntmps50
  go_upto_region 1 with fail
  generalize ((w.alloc (.cells (paC x) 90)).alloc (.cells (paC y) 90)) = w3 at hBx hBy hG ⊢
  have c0 : w3.cell? ⟨w.heap.size, 0, none⟩ = some (.int .i64 x.1) := hBx.cell 0
  have c1 : w3.cell? ⟨w.heap.size, 1, none⟩ = some (.string x.2.1) := hBx.cell 1
  have c2 : w3.cell? ⟨w.heap.size, 2, none⟩ = some (.string x.2.2.1) := hBx.cell 2
  have d0 : w3.cell? ⟨w.heap.size + 1, 0, none⟩ = some (.int .i64 y.1) := hBy.cell 0
  have d1 : w3.cell? ⟨w.heap.size + 1, 1, none⟩ = some (.string y.2.1) := hBy.cell 1
  have d2 : w3.cell? ⟨w.heap.size + 1, 2, none⟩ = some (.string y.2.2.1) := hBy.cell 2
  by_cases h0 : x.1 = y.1
  · obtain rfl : R = orI (cmpI x.2.1 y.2.1) (cmpI x.2.2.1 y.2.2.1) := by rw [HR.out, h0, cmpS, if_neg (by omega), if_neg (by omega)]; rfl
    clear HR
    have hne : (x.1 != y.1) = false := by rw [h0]; simp
    have hne2 : (y.1 != y.1) = false := by simp
    have hX : Bk (w3.alloc (.cells #[.string x.2.1, .string x.2.2.1] 9)) w3.heap.size 9 #[.string x.2.1, .string x.2.2.1] := Bk.new _ _ _
    have hX2 := hX.alloc (.cells #[.string y.2.1, .string y.2.2.1] 9)
    have hY2 := Bk.newAt (w := w3.alloc (.cells #[.string x.2.1, .string x.2.2.1] 9)) (b := w3.heap.size + 1) (by simp) 9 #[.string y.2.1, .string y.2.2.1]
    have hG2 := (hG.alloc (.cells #[.string x.2.1, .string x.2.2.1] 9)).alloc (.cells #[.string y.2.1, .string y.2.2.1] 9)
    have hx3 : ∀ i, (w3.alloc (.cells #[.string x.2.1, .string x.2.2.1] 9)).cell? ⟨w.heap.size + 1, i, none⟩ = (paC y)[i]? := fun i => (hBy.alloc _).cell i
    have d1b : (w3.alloc (.cells #[.string x.2.1, .string x.2.2.1] 9)).cell? ⟨w.heap.size + 1, 1, none⟩ = some (.string y.2.1) := hx3 1
    have d2b : (w3.alloc (.cells #[.string x.2.1, .string x.2.2.1] 9)).cell? ⟨w.heap.size + 1, 2, none⟩ = some (.string y.2.2.1) := hx3 2
    clear hx3 h0
    go_wp2_with fail
    refine (cmpPair_c _ _ _ _ _ _ _ hX2 hY2).mono ?_; rintro e w' ⟨rfl, rfl⟩
    go_wp2_with fail
    go_ret
    exact ⟨rfl, hG2⟩
  · have hne : (x.1 != y.1) = true := bne_iff_ne.2 h0
    have hw : IntKind.i64.wrap (x.1 - y.1) = x.1 - y.1 := by rw [IntKind.wrap_i64]; omega
    have HR1 : Hid ((if x.1 - y.1 < 0 then (-1 : Int) else if 0 < x.1 - y.1 then 1 else 0) = R) := Lib.hid (by
      rw [HR.out, cmpS]
      rcases (show x.1 < y.1 ∨ y.1 < x.1 by omega) with h | h
      · rw [if_pos (by omega), if_pos h]; rfl
      · rw [if_neg (by omega), if_pos (by omega), if_neg (by omega), if_pos h]; rfl)
    clear h0
    go_wp2_with fail
    refine (sign_c _ _).mono ?_; rintro e w' ⟨rfl, rfl⟩
    rw [HR1.out]
    go_wp2_with fail
    go_ret
    exact ⟨rfl, hG⟩
set_option maxRecDepth 100000 in
set_option maxHeartbeats 8000000 in
theorem passageForm_c (v : Value) (l : List Pa) (w : World) (hr : RdR w 4 paC v l) (hl : PaOk l) (hn : l.length ≤ 1000000) (hbp : ∀ x ∈ l, paB x) :
    Calls Tryd.prog 58 #[v] w fun e w' => e = .returned (.int .i64 (paE l)) ∧ G w w' none := by
  have HR := Lib.hid hr
  obtain ⟨a, cap, rfl, hcap, hm⟩ := RdR.form hr
  clear hr
  obtain ⟨E, hE⟩ : ∃ E, paE l = E := ⟨_, rfl⟩
  have HEE := Lib.hid hE
  rw [hE]
  clear hE
  by_cases h30 : 1000 < l.length
  · obtain rfl : E = 2 := by rw [← HEE.out]; simp [paE, h30]
    go_enter Tryd.func58, Tryd.ntmps58
    go_wp2_with fail
    go_ret
    exact ⟨rfl, G.refl _ _⟩
  · have H := Lib.hid (show E = paErr none l by rw [← HEE.out]; simp [paE, h30])
    go_enter Tryd.func58, Tryd.ntmps58
    go_wp2_with fail
    go_loopw [10] (PaRel w l) (fun i _ => l.length - (intOf i).toNat)
    case atStart => exact ⟨0, by omega, rfl, rfl, G.refl _ _⟩
    case round =>
      obtain ⟨k, hkl, rfl, heq, hG⟩ := hrel
      have HE := Lib.hid heq
      clear heq
      by_cases hk : k < l.length
      · obtain ⟨⟨t, g, y, c⟩, hp⟩ : ∃ p, l[k]? = some p := ⟨_, List.getElem?_eq_getElem hk⟩
        have hdrop : l.drop k = (t, g, y, c) :: l.drop (k + 1) := by rw [List.drop_eq_getElem_cons hk, ← (List.getElem?_eq_some_iff.1 hp).2]
        have hs1 := hl _ (List.mem_of_getElem? hp)
        obtain ⟨hs1, hs2⟩ := hs1
        dsimp only at hs1 hs2
        unfold Small at hs1 hs2
        obtain ⟨bb, bo, rfl, hbb, _⟩ := RdR.elem paC_sz HR.out hG hp
        have HW := Lib.hid (paRow HR.out hG hp)
        have HP := Lib.hid hp
        have HS : Hid (paErr (prevAt l k) (l.drop k) = if momB t = false then 1 else if keyB g = false then 5 else if plB y = false then 3 else if inB c 0 1000000 = false then 1 else if paAfter (prevAt l k) (t, g, y, c) = true then 7 else paErr (some (t, g, y, c)) (l.drop (k + 1))) := Lib.hid (by rw [hdrop]; rfl)
        have hB5 : Bk (wr.alloc (.cells #[.int .i64 t, .string g, .string y, .int .i64 c] 90)) wr.heap.size 90 #[.int .i64 t, .string g, .string y, .int .i64 c] := Bk.new wr 90 _
        have hG5 : G w (wr.alloc (.cells #[.int .i64 t, .string g, .string y, .int .i64 c] 90)) none := hG.alloc (.cells (paC (t, g, y, c)) 90)
        clear hdrop hp hG
        go_upto_region 6 with (refine wpList_load_at rfl 90 _ rfl ⟨bb, bo + k * 4, none⟩ rfl #[.int .i64 t, .string g, .string y, .int .i64 c] _ HW.out Tryd.underlying90 rfl (pa_info (t, g, y, c)) ?_)
        clear HW
        generalize wr.alloc (.cells #[.int .i64 t, .string g, .string y, .int .i64 c] 90) = w5 at hB5 hG5 ⊢
        generalize wr.heap.size = g5 at hB5 ⊢
        have c0 : w5.cell? ⟨g5, 0, none⟩ = some (.int .i64 t) := hB5.cell 0
        have c1 : w5.cell? ⟨g5, 1, none⟩ = some (.string g) := hB5.cell 1
        have c2 : w5.cell? ⟨g5, 2, none⟩ = some (.string y) := hB5.cell 2
        have c3 : w5.cell? ⟨g5, 3, none⟩ = some (.int .i64 c) := hB5.cell 3
        go_wp2_with fail
        refine (rMoment_c t _).mono ?_; rintro e w' ⟨rfl, rfl⟩
        cases k0 : momB t with
        | false =>
          obtain rfl : E = 1 := by rw [H.out, HE.out, HS.out, if_pos k0]
          clear k0
          go_wp2_with fail
          go_ret
          exact ⟨rfl, hG5⟩
        | true =>
          have K0 := Lib.hid k0
          clear k0
          go_wp2_with fail
          refine (rkey_c _ _ hs1).mono ?_; rintro e w6 ⟨rfl, hGk⟩
          have hB6 := hB5.quiet hGk
          have hG6 := hG5.trans hGk
          clear hGk c0 c1 c2 c3 hB5 hG5
          have c0 : w6.cell? ⟨g5, 0, none⟩ = some (.int .i64 t) := hB6.cell 0
          have c1 : w6.cell? ⟨g5, 1, none⟩ = some (.string g) := hB6.cell 1
          have c2 : w6.cell? ⟨g5, 2, none⟩ = some (.string y) := hB6.cell 2
          have c3 : w6.cell? ⟨g5, 3, none⟩ = some (.int .i64 c) := hB6.cell 3
          cases k1 : keyB g with
          | false =>
            obtain rfl : E = 5 := by rw [H.out, HE.out, HS.out, if_neg (by simp [K0.out]), if_pos k1]
            clear k1
            go_wp2_with fail
            go_ret
            exact ⟨rfl, hG6⟩
          | true =>
            have K1 := Lib.hid k1
            clear k1
            go_wp2_with fail
            refine (rPlate_c _ _ hs2).mono ?_; rintro e w7 ⟨rfl, hGk⟩
            have hB7 := hB6.quiet hGk
            have hG7 := hG6.trans hGk
            clear hGk c0 c1 c2 c3 hB6 hG6
            have c0 : w7.cell? ⟨g5, 0, none⟩ = some (.int .i64 t) := hB7.cell 0
            have c1 : w7.cell? ⟨g5, 1, none⟩ = some (.string g) := hB7.cell 1
            have c2 : w7.cell? ⟨g5, 2, none⟩ = some (.string y) := hB7.cell 2
            have c3 : w7.cell? ⟨g5, 3, none⟩ = some (.int .i64 c) := hB7.cell 3
            cases k2 : plB y with
            | false =>
              obtain rfl : E = 3 := by rw [H.out, HE.out, HS.out, if_neg (by simp [K0.out]), if_neg (by simp [K1.out]), if_pos k2]
              clear k2
              go_wp2_with fail
              go_ret
              exact ⟨rfl, hG7⟩
            | true =>
              have K2 := Lib.hid k2
              clear k2
              go_wp2_with fail
              refine (in2_c c 0 1000000 _).mono ?_; rintro e w' ⟨rfl, rfl⟩
              cases k3 : inB c 0 1000000 with
              | false =>
                obtain rfl : E = 1 := by rw [H.out, HE.out, HS.out, if_neg (by simp [K0.out]), if_neg (by simp [K1.out]), if_neg (by simp [K2.out]), if_pos k3]
                clear k3
                go_wp2_with fail
                go_ret
                exact ⟨rfl, hG7⟩
              | true =>
                have K3 := Lib.hid k3
                clear k3
                have hg5 := hB7.lt
                cases k with
                | zero =>
                  have HF : Hid (paErr none l = paErr (prevAt l (0 + 1)) (l.drop (0 + 1))) := Lib.hid (by rw [HE.out, HS.out, if_neg (by simp [K0.out]), if_neg (by simp [K1.out]), if_neg (by simp [K2.out]), if_neg (by simp [K3.out]), if_neg (by simp [prevAt, paAfter]), prevAt_succ l 0 (t, g, y, c) HP.out])
                  go_wp2_with fail
                  go_quiet (fail)
                  have hGq := hG7.drewN nq
                  go_wp2_with fail
                  go_roundw
                  case rel => exact ⟨0 + 1, by omega, by go_num, HF.out, hGq⟩
                  case measure => simp [intOf]; omega
                | succ m =>
                  obtain ⟨⟨t2, g2, y2, c2q⟩, hq2⟩ : ∃ q, l[m]? = some q := ⟨_, List.getElem?_eq_getElem (by omega)⟩
                  have HBP := Lib.hid (hbp _ (List.mem_of_getElem? HP.out))
                  have HBQ := Lib.hid (hbp _ (List.mem_of_getElem? hq2))
                  have HA1 : Hid (paAfter (prevAt l (m + 1)) (t, g, y, c) = decide (0 ≤ cmpP (t2, g2, y2, c2q) (t, g, y, c))) := Lib.hid (by rw [prevAt_succ l m _ hq2]; rfl)
                  have hsub : IntKind.i64.wrap (((m + 1 : Nat) : Int) - 1) = (m : Int) := by rw [show ((m + 1 : Nat) : Int) - 1 = (m : Int) by omega]; rw [IntKind.wrap_i64]; omega
                  have d0 := RdR.cell paC_sz HR.out hG7 hq2 0 (.int .i64 t2) rfl
                  have d1 := RdR.cell paC_sz HR.out hG7 hq2 1 (.string g2) rfl
                  have d2 := RdR.cell paC_sz HR.out hG7 hq2 2 (.string y2) rfl
                  have d3 := RdR.cell paC_sz HR.out hG7 hq2 3 (.int .i64 c2q) rfl
                  have hsub2 : IntKind.i64.wrap (m : Int) = (m : Int) := by rw [IntKind.wrap_i64]; omega
                  have hsub3 : IntKind.i64.wrap ((m : Int) + 1 - 1) = (m : Int) := by rw [IntKind.wrap_i64]; omega
                  have hm0 : (0 : Int) ≤ (m : Int) := Int.natCast_nonneg m
                  have hml : (m : Int) < (l.length : Int) := by omega
                  have hcf : cmpP (t2, g2, y2, c2q) (t, g, y, c) < 0 ∨ 0 ≤ cmpP (t2, g2, y2, c2q) (t, g, y, c) := by omega
                  simp only [Nat.add_zero] at d0
                  clear hq2
                  rcases hcf with hcf | hcf
                  · have HF : Hid (paErr none l = paErr (prevAt l ((m + 1) + 1)) (l.drop ((m + 1) + 1))) := Lib.hid (by rw [HE.out, HS.out, if_neg (by simp [K0.out]), if_neg (by simp [K1.out]), if_neg (by simp [K2.out]), if_neg (by simp [K3.out]), if_neg (by rw [HA1.out, decide_eq_false (by omega)]; simp), prevAt_succ l (m + 1) _ HP.out])
                    go_wp2_with fail
                    go_region_held3 (fun w' => w'.cell? ⟨bb, bo + m * 4, none⟩ = some (.int .i64 t2) ∧ w'.cell? ⟨bb, bo + m * 4 + 1, none⟩ = some (.string g2) ∧ w'.cell? ⟨bb, bo + m * 4 + 2, none⟩ = some (.string y2) ∧ w'.cell? ⟨bb, bo + m * 4 + 3, none⟩ = some (.int .i64 c2q) ∧ w'.cell? ⟨g5, 0, none⟩ = some (.int .i64 t) ∧ w'.cell? ⟨g5, 1, none⟩ = some (.string g) ∧ w'.cell? ⟨g5, 2, none⟩ = some (.string y) ∧ w'.cell? ⟨g5, 3, none⟩ = some (.int .i64 c)) (first | exact ⟨d0, d1, d2, d3, c0, c1, c2, c3⟩ | exact hS8 | go_keep) (first | (go_at_call 50; refine (passageOrder_c (t2, g2, y2, c2q) (t, g, y, c) _ HBQ.out HBP.out).mono ?_; rintro e w8 ⟨rfl, hG8x⟩; have hG08 := hG7.drew.trans hG8x; have hbw := hG7.size; have hS8 : w8.cell? ⟨bb, bo + m * 4, none⟩ = some (.int .i64 t2) ∧ w8.cell? ⟨bb, bo + m * 4 + 1, none⟩ = some (.string g2) ∧ w8.cell? ⟨bb, bo + m * 4 + 2, none⟩ = some (.string y2) ∧ w8.cell? ⟨bb, bo + m * 4 + 3, none⟩ = some (.int .i64 c2q) ∧ w8.cell? ⟨g5, 0, none⟩ = some (.int .i64 t) ∧ w8.cell? ⟨g5, 1, none⟩ = some (.string g) ∧ w8.cell? ⟨g5, 2, none⟩ = some (.string y) ∧ w8.cell? ⟨g5, 3, none⟩ = some (.int .i64 c) := ⟨((gcell hG8x).1 bb _ (Nat.lt_of_lt_of_le hbb hbw)).trans d0, ((gcell hG8x).1 bb _ (Nat.lt_of_lt_of_le hbb hbw)).trans d1, ((gcell hG8x).1 bb _ (Nat.lt_of_lt_of_le hbb hbw)).trans d2, ((gcell hG8x).1 bb _ (Nat.lt_of_lt_of_le hbb hbw)).trans d3, ((gcell hG8x).1 g5 _ hg5).trans c0, ((gcell hG8x).1 g5 _ hg5).trans c1, ((gcell hG8x).1 g5 _ hg5).trans c2, ((gcell hG8x).1 g5 _ hg5).trans c3⟩))
                    go_wp2_with fail
                    go_roundw
                    case rel => exact ⟨(m + 1) + 1, by omega, by go_num, HF.out, hG08⟩
                    case measure => simp [intOf]; omega
                  · obtain rfl : E = 7 := by rw [H.out, HE.out, HS.out, if_neg (by simp [K0.out]), if_neg (by simp [K1.out]), if_neg (by simp [K2.out]), if_neg (by simp [K3.out]), if_pos (by rw [HA1.out]; exact decide_eq_true hcf)]
                    go_wp2_with fail
                    go_region_held3 (fun w' => w'.cell? ⟨bb, bo + m * 4, none⟩ = some (.int .i64 t2) ∧ w'.cell? ⟨bb, bo + m * 4 + 1, none⟩ = some (.string g2) ∧ w'.cell? ⟨bb, bo + m * 4 + 2, none⟩ = some (.string y2) ∧ w'.cell? ⟨bb, bo + m * 4 + 3, none⟩ = some (.int .i64 c2q) ∧ w'.cell? ⟨g5, 0, none⟩ = some (.int .i64 t) ∧ w'.cell? ⟨g5, 1, none⟩ = some (.string g) ∧ w'.cell? ⟨g5, 2, none⟩ = some (.string y) ∧ w'.cell? ⟨g5, 3, none⟩ = some (.int .i64 c)) (first | exact ⟨d0, d1, d2, d3, c0, c1, c2, c3⟩ | exact hS8 | go_keep) (first | (go_at_call 50; refine (passageOrder_c (t2, g2, y2, c2q) (t, g, y, c) _ HBQ.out HBP.out).mono ?_; rintro e w8 ⟨rfl, hG8x⟩; have hG08 := hG7.drew.trans hG8x; have hbw := hG7.size; have hS8 : w8.cell? ⟨bb, bo + m * 4, none⟩ = some (.int .i64 t2) ∧ w8.cell? ⟨bb, bo + m * 4 + 1, none⟩ = some (.string g2) ∧ w8.cell? ⟨bb, bo + m * 4 + 2, none⟩ = some (.string y2) ∧ w8.cell? ⟨bb, bo + m * 4 + 3, none⟩ = some (.int .i64 c2q) ∧ w8.cell? ⟨g5, 0, none⟩ = some (.int .i64 t) ∧ w8.cell? ⟨g5, 1, none⟩ = some (.string g) ∧ w8.cell? ⟨g5, 2, none⟩ = some (.string y) ∧ w8.cell? ⟨g5, 3, none⟩ = some (.int .i64 c) := ⟨((gcell hG8x).1 bb _ (Nat.lt_of_lt_of_le hbb hbw)).trans d0, ((gcell hG8x).1 bb _ (Nat.lt_of_lt_of_le hbb hbw)).trans d1, ((gcell hG8x).1 bb _ (Nat.lt_of_lt_of_le hbb hbw)).trans d2, ((gcell hG8x).1 bb _ (Nat.lt_of_lt_of_le hbb hbw)).trans d3, ((gcell hG8x).1 g5 _ hg5).trans c0, ((gcell hG8x).1 g5 _ hg5).trans c1, ((gcell hG8x).1 g5 _ hg5).trans c2, ((gcell hG8x).1 g5 _ hg5).trans c3⟩))
                    go_wp2_with fail
                    go_ret
                    exact ⟨rfl, hG08⟩
      · obtain rfl : k = l.length := by omega
        obtain rfl : E = 0 := by rw [H.out, HE.out, List.drop_length]; rfl
        go_wp2_with fail
        go_ret
        exact ⟨rfl, hG⟩
end Go.Proofs.YtamoefnpfkcigaaDoor

/- Gates, the reference's: gateOf, TrueOf, PassagesFault. Written by gengaf.py. -/
namespace Go.Proofs.YtamoefnpfkcigaaDoor
open Go.RowKit

theorem gaS_of_mem {l : List Ga} {s : ByteArray} {p : Ga} (h : p ∈ l) (e : p.1 = s) : ∃ u, gaS l s = some u := by
  induction l with
  | nil => cases h
  | cons q r ih =>
    rw [gaS_cons]
    cases hr : gaS r s with
    | some v => exact ⟨v, rfl⟩
    | none =>
      rcases List.mem_cons.1 h with rfl | h
      · exact ⟨p, by simp only [if_pos e.symm]⟩
      · obtain ⟨u, hu⟩ := ih h
        rw [hr] at hu
        cases hu
theorem rise_uniq {l : List Ga} (hr : Rise (l.map (·.1))) {p q : Ga} (hp : p ∈ l) (hq : q ∈ l) (e : p.1 = q.1) : p = q := by
  induction l with
  | nil => cases hp
  | cons a r ih =>
    rw [List.map_cons] at hr
    obtain ⟨h1, h2⟩ := List.pairwise_cons.1 hr
    rcases List.mem_cons.1 hp with rfl | hp'
    · rcases List.mem_cons.1 hq with rfl | hq'
      · rfl
      · have := h1 q.1 (List.mem_map.2 ⟨q, hq', rfl⟩)
        rw [e, cmpI_eq.2 rfl] at this
        omega
    · rcases List.mem_cons.1 hq with rfl | hq'
      · have := h1 p.1 (List.mem_map.2 ⟨p, hp', rfl⟩)
        rw [e, cmpI_eq.2 rfl] at this
        omega
      · exact ih h2 hp' hq'
theorem gaS_hit {l : List Ga} (hr : Rise (l.map (·.1))) {p : Ga} (h : p ∈ l) : gaS l p.1 = some p := by
  obtain ⟨u, hu⟩ := gaS_of_mem h rfl
  have h1 := gaS_mem hu
  rw [hu, rise_uniq hr h1.1 h h1.2]
theorem gaS_miss {l : List Ga} {s : ByteArray} (h : ∀ p ∈ l, p.1 ≠ s) : gaS l s = none := by
  cases hs : gaS l s with
  | none => rfl
  | some u =>
    have h1 := gaS_mem hs
    exact absurd h1.2 (h u h1.1)
def gaD (l : List Ga) (s : ByteArray) : Ga := (gaS l s).getD (⟨#[]⟩, ⟨#[]⟩, 0)
theorem gaD_clk (l : List Ga) (s : ByteArray) : (gaD l s).2.2 = clk l s := by
  unfold gaD clk
  cases gaS l s <;> rfl
theorem ga_one (x : Ga) : (gaC x).all (·.oneCell') = true := by simp [gaC, Value.oneCell']
def GoRel (w : World) (gs : List Ga) (s : ByteArray) (g : Nat) (t : Int) (gk y : ByteArray) (c : Int) (i : Value) (wr : World) : Prop :=
  ∃ k : Nat, k ≤ gs.length ∧ i = .int .i64 k ∧ (∀ p ∈ gs.take k, p.1 ≠ s) ∧ Bk wr g 90 #[.int .i64 t, .string gk, .string y, .int .i64 c] ∧ Bk wr (g + 1) 88 #[.string ⟨#[]⟩, .string ⟨#[]⟩, .int .i64 0] ∧ G w wr none
set_option maxRecDepth 100000 in
set_option maxHeartbeats 4000000 in
theorem gateOf_c (x : Pa) (v : Value) (gs : List Ga) (w : World) (hr : RdR w 3 gaC v gs) (hri : Rise (gs.map (·.1))) (hn : gs.length ≤ 1000000) :
    Calls Tryd.prog 59 #[v, .agg (paC x)] w fun e w' => e = .returned (.tuple #[.agg (gaC (gaD gs x.2.1)), .bool (gaS gs x.2.1).isSome]) ∧ G w w' none := by
  obtain ⟨a, cap, rfl, hcap, hm⟩ := RdR.form hr
  obtain ⟨t, gk, y, c⟩ := x
  dsimp only
  have HRI := Lib.hid hri
  clear hri
  show Calls Tryd.prog 59 #[.slice a gs.length cap, .agg #[.int .i64 t, .string gk, .string y, .int .i64 c]] w _
  have hP := (Bk.new w 90 #[.int .i64 t, .string gk, .string y, .int .i64 c]).alloc (.cells #[.string ⟨#[]⟩, .string ⟨#[]⟩, .int .i64 0] 88)
  have hZ := Bk.newAt (w := w.alloc (.cells #[.int .i64 t, .string gk, .string y, .int .i64 c] 90)) (b := w.heap.size + 1) (by simp) 88 #[.string ⟨#[]⟩, .string ⟨#[]⟩, .int .i64 0]
  have hG := ((G.refl w none).alloc (.cells #[.int .i64 t, .string gk, .string y, .int .i64 c] 90)).alloc (.cells #[.string ⟨#[]⟩, .string ⟨#[]⟩, .int .i64 0] 88)
  go_enter Tryd.func59, Tryd.ntmps59
  go_upto_region 1 with fail
  generalize (w.alloc (.cells #[.int .i64 t, .string gk, .string y, .int .i64 c] 90)).alloc (.cells #[.string ⟨#[]⟩, .string ⟨#[]⟩, .int .i64 0] 88) = w2 at hP hZ hG ⊢
  have HR := Lib.hid hr
  clear hr
  go_wp2_with fail
  go_loopw [10] (GoRel w gs gk w.heap.size t gk y c) (fun i _ => gs.length - (intOf i).toNat)
  case atStart => exact ⟨0, by omega, rfl, fun p hp => (by simp at hp), hP, hZ, hG⟩
  case round =>
    clear hP hZ hG
    obtain ⟨k, hk, rfl, hno, hP, hZ, hG⟩ := hrel
    have HNO := Lib.hid hno
    clear hno
    by_cases hlt : k < gs.length
    · obtain ⟨⟨k1, a1, q1⟩, hp⟩ : ∃ p, gs[k]? = some p := ⟨_, List.getElem?_eq_getElem hlt⟩
      obtain ⟨bb, bo, rfl, hbb, _⟩ := RdR.elem gaC_sz HR.out hG hp
      have HW := Lib.hid (gaRow HR.out hG hp)
      have HM := Lib.hid (List.mem_of_getElem? hp)
      have HT := Lib.hid (take_snk hp)
      have HK := Lib.hid hlt
      have hB5 : Bk (wr.alloc (.cells #[.string k1, .string a1, .int .i64 q1] 88)) wr.heap.size 88 #[.string k1, .string a1, .int .i64 q1] := Bk.new wr 88 _
      have hG5 : G w (wr.alloc (.cells #[.string k1, .string a1, .int .i64 q1] 88)) none := hG.alloc (.cells (gaC (k1, a1, q1)) 88)
      have hP5 := hP.alloc (.cells #[.string k1, .string a1, .int .i64 q1] 88)
      have hZ5 := hZ.alloc (.cells #[.string k1, .string a1, .int .i64 q1] 88)
      clear hp hG hP hZ
      go_upto_region 4 with (refine wpList_load_at rfl 88 _ rfl ⟨bb, bo + k * 3, none⟩ rfl #[.string k1, .string a1, .int .i64 q1] _ HW.out Tryd.underlying88 rfl (ga_info (k1, a1, q1)) ?_)
      clear HW
      generalize wr.alloc (.cells #[.string k1, .string a1, .int .i64 q1] 88) = w5 at hB5 hG5 hP5 hZ5 ⊢
      generalize wr.heap.size = g5 at hB5 ⊢
      have c0 : w5.cell? ⟨g5, 0, none⟩ = some (.string k1) := hB5.cell 0
      have p1 : w5.cell? ⟨w.heap.size, 1, none⟩ = some (.string gk) := hP5.cell 1
      by_cases hkg : k1 = gk
      · subst hkg
        have HS : Hid (gaS gs k1 = some (k1, a1, q1)) := Lib.hid (gaS_hit HRI.out HM.out)
        have HD : Hid (gaD gs k1 = (k1, a1, q1)) := Lib.hid (by unfold gaD; rw [HS.out]; rfl)
        go_wp2_with (first | (refine wpList_load_row rfl 88 _ rfl g5 rfl 88 #[.string k1, .string a1, .int .i64 q1] (0, 0) _ hB5 Tryd.underlying88 rfl (ga_info (k1, a1, q1)) ?_) | (refine wpList_store_row rfl 88 _ _ rfl (w.heap.size + 1) #[.string k1, .string a1, .int .i64 q1] rfl rfl 88 _ hZ5 (ga_info (k1, a1, q1)) rfl (ga_one (k1, a1, q1)) ?_))
        refine bodyPost_ret (results_cell_hi rfl _ _ (w.heap.size + 1) 88 #[.string k1, .string a1, .int .i64 q1] (0, 0) _ rfl (hZ5.setRow _) Tryd.underlying88 rfl (ga_info (k1, a1, q1))) rfl ?_
        exact ⟨by rw [HD.out, HS.out]; rfl, hG5.setRow (.inl (by omega)) _⟩
      · have HN : Hid (∀ p ∈ gs.take (k + 1), p.1 ≠ gk) := Lib.hid (fun p hp => by
          rw [HT.out] at hp
          rcases List.mem_append.1 hp with q | q
          · exact HNO.out p q
          · rw [List.mem_singleton] at q; rw [q]; exact hkg)
        have hts : (k1.toList == gk.toList) = false := by
          cases h : k1.toList == gk.toList with
          | false => rfl
          | true => exact absurd (eqB_iff.1 h) hkg
        go_wp2_with fail
        go_roundw
        case rel => exact ⟨k + 1, (by have := HK.out; omega), by go_num, HN.out, hP5, hZ5, hG5⟩
        case measure => have := HK.out; simp [intOf]; omega
    · obtain rfl : k = gs.length := by omega
      have HS : Hid (gaS gs gk = none) := Lib.hid (gaS_miss (by have := HNO.out; rw [List.take_length] at this; exact this))
      have HD : Hid (gaD gs gk = (⟨#[]⟩, ⟨#[]⟩, 0)) := Lib.hid (by unfold gaD; rw [HS.out]; rfl)
      go_wp2_with (refine wpList_store_row rfl 88 _ _ rfl (w.heap.size + 1) #[.string ⟨#[]⟩, .string ⟨#[]⟩, .int .i64 0] rfl rfl 88 _ hZ (ga_info (⟨#[]⟩, ⟨#[]⟩, 0)) rfl (ga_one (⟨#[]⟩, ⟨#[]⟩, 0)) ?_)
      refine bodyPost_ret (results_cell_hi rfl _ _ (w.heap.size + 1) 88 #[.string ⟨#[]⟩, .string ⟨#[]⟩, .int .i64 0] (0, 0) _ rfl (hZ.setRow _) Tryd.underlying88 rfl (ga_info (⟨#[]⟩, ⟨#[]⟩, 0))) rfl ?_
      exact ⟨by rw [HD.out, HS.out]; rfl, hG.setRow (.inl (by omega)) _⟩
set_option maxRecDepth 100000 in
set_option maxHeartbeats 4000000 in
theorem trueOf_c (x : Pa) (v : Value) (gs : List Ga) (w : World) (hr : RdR w 3 gaC v gs) (hri : Rise (gs.map (·.1))) (hn : gs.length ≤ 1000000) (hx : -1000000000 ≤ x.1 ∧ x.1 ≤ 1000000000) (hl : ∀ p ∈ gs, -1440 ≤ p.2.2 ∧ p.2.2 ≤ 1440) :
    Calls Tryd.prog 61 #[v, .agg (paC x)] w fun e w' => e = .returned (.int .i64 (x.1 - clk gs x.2.1)) ∧ G w w' none := by
  obtain ⟨a, cap, rfl, hcap, hm⟩ := RdR.form hr
  have CG := Lib.hid (fun w' (p : RdR w' 3 gaC (.slice a gs.length cap) gs) => gateOf_c x _ gs w' p hri hn)
  have hcb : -1440 ≤ (gaD gs x.2.1).2.2 ∧ (gaD gs x.2.1).2.2 ≤ 1440 := by
    unfold gaD
    cases hs : gaS gs x.2.1 with
    | none => show (-1440 : Int) ≤ 0 ∧ (0 : Int) ≤ 1440; omega
    | some u => exact hl u (gaS_mem hs).1
  rw [← gaD_clk]
  generalize gaD gs x.2.1 = u at CG hcb ⊢
  generalize (gaS gs x.2.1).isSome = fb at CG
  obtain ⟨t, gk, y, c⟩ := x
  obtain ⟨k1, a1, q1⟩ := u
  dsimp only at hcb hx ⊢
  clear hri hl
  show Calls Tryd.prog 61 #[.slice a gs.length cap, .agg #[.int .i64 t, .string gk, .string y, .int .i64 c]] w _
  have hP := Bk.new w 90 #[.int .i64 t, .string gk, .string y, .int .i64 c]
  have hG := (G.refl w none).alloc (.cells #[.int .i64 t, .string gk, .string y, .int .i64 c] 90)
  go_enter Tryd.func61, Tryd.ntmps61
  go_upto_region 1 with fail
  generalize w.alloc (.cells #[.int .i64 t, .string gk, .string y, .int .i64 c] 90) = w1 at hP hG ⊢
  generalize w.heap.size = g at hP ⊢
  go_wp2_with (refine wpList_load_row rfl 90 _ rfl g rfl 90 #[.int .i64 t, .string gk, .string y, .int .i64 c] (0, 0) _ hP Tryd.underlying90 rfl (pa_info (t, gk, y, c)) ?_)
  refine (CG.out _ (hr.quiet hG)).mono ?_; rintro e w2 ⟨rfl, hh⟩
  rw [show gaC (k1, a1, q1) = #[.string k1, .string a1, .int .i64 q1] from rfl]
  have hP3 := (hP.quiet hh).alloc (.cells #[.string k1, .string a1, .int .i64 q1] 88)
  have hU3 : Bk (w2.alloc (.cells #[.string k1, .string a1, .int .i64 q1] 88)) w2.heap.size 88 #[.string k1, .string a1, .int .i64 q1] := Bk.new _ _ _
  have hG3 := (hG.trans hh).alloc (.cells #[.string k1, .string a1, .int .i64 q1] 88)
  clear hP hG hh hr CG
  go_upto_region 2 with fail
  generalize w2.alloc (.cells #[.string k1, .string a1, .int .i64 q1] 88) = w3 at hP3 hU3 hG3 ⊢
  generalize w2.heap.size = g3 at hU3 ⊢
  have p0 : w3.cell? ⟨g, 0, none⟩ = some (.int .i64 t) := hP3.cell 0
  have u2 : w3.cell? ⟨g3, 2, none⟩ = some (.int .i64 q1) := hU3.cell 2
  have hw : IntKind.i64.wrap (t - q1) = t - q1 := by rw [IntKind.wrap_i64]; omega
  go_wp2_with fail
  go_ret
  exact ⟨rfl, hG3⟩
def PfRel (w : World) (gs : List Ga) (l : List Pa) (i : Value) (wr : World) : Prop :=
  ∃ k : Nat, k ≤ l.length ∧ i = .int .i64 k ∧ tkErr gs l = tkErr gs (l.drop k) ∧ G w wr none
set_option maxRecDepth 100000 in
set_option maxHeartbeats 8000000 in
theorem passagesFault_c (v v2 : Value) (gs : List Ga) (l : List Pa) (w : World) (hr : RdR w 3 gaC v gs) (hr2 : RdR w 4 paC v2 l) (hl : GaOk gs) (hl2 : PaOk l) (hn : gs.length ≤ 1000) (hn2 : l.length ≤ 1000000) (hbp : ∀ x ∈ l, paB x) :
    Calls Tryd.prog 26 #[v, v2] w fun e w' => e = .returned (.int .i64 (tcE gs l)) ∧ G w w' none := by
  obtain ⟨a, cap, rfl, hcap, hm⟩ := RdR.form hr
  obtain ⟨a2, cap2, rfl, hcap2, hm2⟩ := RdR.form hr2
  obtain ⟨E, hE⟩ : ∃ E, tcE gs l = E := ⟨_, rfl⟩
  have HE : Hid (E = if gaE gs = 0 then (if paE l = 0 then tkErr gs l else paE l) else gaE gs) := Lib.hid (by rw [← hE]; rfl)
  rw [hE]
  clear hE
  go_enter Tryd.func26, Tryd.ntmps26
  go_wp2_with fail
  refine (gatesFault_c _ gs _ hr hl (by omega)).mono ?_; rintro e w1 ⟨rfl, hG⟩
  replace hr := hr.quiet hG
  replace hr2 := hr2.quiet hG
  obtain ⟨E1, hE1⟩ : ∃ E1, gaE gs = E1 := ⟨_, rfl⟩
  have HG := Lib.hid hE1
  rw [hE1] at HE ⊢
  clear hE1
  by_cases e1 : E1 = 0
  · subst e1
    have HE2 : Hid (E = if paE l = 0 then tkErr gs l else paE l) := Lib.hid (by rw [HE.out, if_pos rfl])
    clear HE
    go_wp2_with fail
    refine (passageForm_c _ l _ hr2 hl2 hn2 hbp).mono ?_; rintro e w2 ⟨rfl, hh⟩
    replace hr := hr.quiet hh
    replace hr2 := hr2.quiet hh
    replace hG := hG.trans hh
    clear hh
    obtain ⟨E2, hE2⟩ : ∃ E2, paE l = E2 := ⟨_, rfl⟩
    have HP := Lib.hid hE2
    rw [hE2] at HE2 ⊢
    clear hE2
    by_cases e2 : E2 = 0
    · subst e2
      have HE3 : Hid (E = tkErr gs l) := Lib.hid (by rw [HE2.out, if_pos rfl])
      have HPB := Lib.hid (paE_ok HP.out).1
      have HRI := Lib.hid (gaE_ok HG.out).1
      have HGB := Lib.hid (gaE_ok HG.out).2.1
      have HR2 := Lib.hid hr2
      have HR := Lib.hid hr
      clear HE2 hr hr2
      go_wp2_with fail
      go_loopw [23] (PfRel w2 gs l) (fun i _ => l.length - (intOf i).toNat)
      case atStart => exact ⟨0, by omega, rfl, rfl, G.refl _ _⟩
      case round =>
        obtain ⟨k, hkl, rfl, heq, hGr⟩ := hrel
        have HQ := Lib.hid heq
        clear heq
        by_cases hk : k < l.length
        · obtain ⟨⟨t, gk, y, c⟩, hp⟩ : ∃ p, l[k]? = some p := ⟨_, List.getElem?_eq_getElem hk⟩
          have hdrop : l.drop k = (t, gk, y, c) :: l.drop (k + 1) := by rw [List.drop_eq_getElem_cons hk, ← (List.getElem?_eq_some_iff.1 hp).2]
          have hpm := List.mem_of_getElem? hp
          have HT := Lib.hid (HPB.out _ hpm)
          dsimp only at HT
          obtain ⟨bb, bo, rfl, hbb, _⟩ := RdR.elem paC_sz HR2.out hGr hp
          have HW := Lib.hid (paRow HR2.out hGr hp)
          have HS : Hid (tkErr gs (l.drop k) = if (gaS gs gk).isSome = false then 8 else if momB (t - clk gs gk) = false then 16 else tkErr gs (l.drop (k + 1))) := Lib.hid (by rw [hdrop]; rfl)
          have HK := Lib.hid hk
          have hB5 : Bk (wr.alloc (.cells #[.int .i64 t, .string gk, .string y, .int .i64 c] 90)) wr.heap.size 90 #[.int .i64 t, .string gk, .string y, .int .i64 c] := Bk.new wr 90 _
          have hG5 : G w2 (wr.alloc (.cells #[.int .i64 t, .string gk, .string y, .int .i64 c] 90)) none := hGr.alloc (.cells (paC (t, gk, y, c)) 90)
          clear hdrop hp hGr hpm
          go_upto_region 10 with (refine wpList_load_at rfl 90 _ rfl ⟨bb, bo + k * 4, none⟩ rfl #[.int .i64 t, .string gk, .string y, .int .i64 c] _ HW.out Tryd.underlying90 rfl (pa_info (t, gk, y, c)) ?_)
          clear HW
          generalize wr.alloc (.cells #[.int .i64 t, .string gk, .string y, .int .i64 c] 90) = w5 at hB5 hG5 ⊢
          generalize wr.heap.size = g5 at hB5 ⊢
          go_wp2_with (refine wpList_load_row rfl 90 _ rfl g5 rfl 90 #[.int .i64 t, .string gk, .string y, .int .i64 c] (0, 0) _ hB5 Tryd.underlying90 rfl (pa_info (t, gk, y, c)) ?_)
          refine (gateOf_c (t, gk, y, c) _ gs _ (HR.out.quiet hG5) HRI.out (by omega)).mono ?_; rintro e w6 ⟨rfl, hh⟩
          dsimp only
          have hB6 := hB5.quiet hh
          have hG6 := hG5.trans hh
          clear hB5 hG5 hh
          generalize (gaS gs gk).isSome = fb at HS ⊢
          obtain ⟨u, hu⟩ : ∃ u, gaD gs gk = u := ⟨_, rfl⟩
          rw [hu]
          clear hu
          obtain ⟨k1, a1, q1⟩ := u
          rw [show gaC (k1, a1, q1) = #[.string k1, .string a1, .int .i64 q1] from rfl]
          have hB7 := hB6.alloc (.cells #[.string k1, .string a1, .int .i64 q1] 88)
          have hG7 := hG6.alloc (.cells #[.string k1, .string a1, .int .i64 q1] 88)
          clear hB6 hG6
          go_upto_region 11 with fail
          generalize w6.alloc (.cells #[.string k1, .string a1, .int .i64 q1] 88) = w7 at hB7 hG7 ⊢
          cases fb with
          | false =>
            obtain rfl : E = 8 := by rw [HE3.out, HQ.out, HS.out]; rfl
            go_wp2_with fail
            go_ret
            exact ⟨rfl, hG.trans hG7⟩
          | true =>
            have HS2 : Hid (tkErr gs (l.drop k) = if momB (t - clk gs gk) = false then 16 else tkErr gs (l.drop (k + 1))) := Lib.hid (by rw [HS.out]; rfl)
            go_wp2_with (refine wpList_load_row rfl 90 _ rfl g5 rfl 90 #[.int .i64 t, .string gk, .string y, .int .i64 c] (0, 0) _ hB7 Tryd.underlying90 rfl (pa_info (t, gk, y, c)) ?_)
            refine (trueOf_c (t, gk, y, c) _ gs _ (HR.out.quiet hG7) HRI.out (by omega) (by have := HT.out; dsimp only; omega) HGB.out).mono ?_; rintro e w8 ⟨rfl, hh⟩
            dsimp only
            have hG8 := hG7.trans hh
            clear hG7 hB7 hh
            generalize t - clk gs gk = tt at HS2 ⊢
            go_wp2_with fail
            refine (rMoment_c tt _).mono ?_; rintro e w' ⟨rfl, rfl⟩
            cases hmb : momB tt with
            | false =>
              obtain rfl : E = 16 := by rw [HE3.out, HQ.out, HS2.out, if_pos hmb]
              clear hmb
              go_wp2_with fail
              go_ret
              exact ⟨rfl, hG.trans hG8⟩
            | true =>
              have HN : Hid (tkErr gs l = tkErr gs (l.drop (k + 1))) := Lib.hid (by rw [HQ.out, HS2.out, if_neg (by simp [hmb])])
              clear hmb
              go_wp2_with fail
              go_roundw
              case rel => exact ⟨k + 1, (by have := HK.out; omega), by go_num, HN.out, hG8⟩
              case measure => have := HK.out; simp [intOf]; omega
        · obtain rfl : k = l.length := by omega
          obtain rfl : E = 0 := by rw [HE3.out, HQ.out, List.drop_length]; rfl
          go_wp2_with fail
          go_ret
          exact ⟨rfl, hG.trans hGr⟩
    · obtain rfl : E = E2 := by rw [HE2.out, if_neg e2]
      have hb : (E != 0) = true := bne_iff_ne.2 e2
      clear HE2 HP e2
      go_wp2_with fail
      go_ret
      exact ⟨rfl, hG⟩
  · obtain rfl : E = E1 := by rw [HE.out, if_neg e1]
    have hb : (E != 0) = true := bne_iff_ne.2 e1
    clear HE HG e1
    go_wp2_with fail
    go_ret
    exact ⟨rfl, hG⟩
end Go.Proofs.YtamoefnpfkcigaaDoor

/- Generators: Gates, Passages. Written by gengps.py. -/
namespace Go.Proofs.YtamoefnpfkcigaaDoor
open Go.RowKit

theorem GS.toOwn {v : Value} {w w' : World} (h : GS (S1 v) w w') : G w w' v.ownBlock := ⟨h.os, h.tape, h.output, h.size, fun k hk hne => h.block k hk (fun hS => hne hS.symm)⟩
theorem GaOk.set {l : List Ga} (h : GaOk l) {r : Ga} (hr : Small r.1 ∧ Small r.2.1) (k : Nat) : GaOk (l.set k r) := fun p hp => by
  rcases List.mem_or_eq_of_mem_set hp with hp | rfl
  · exact h p hp
  · exact hr
abbrev OwnGa (w : World) (base : Nat) (v : Value) (l : List Ga) : Prop := OwnX 88 3 gaC w base v l
def GatesPost (s K : Nat) (w : World) (e : Ending) (w' : World) : Prop :=
  ∃ (v : Value) (l : List Ga), e = .returned v ∧ OwnGa w' w.heap.size v l ∧ GaOk l ∧ l.length = 3 ∧ SB w' s (K + 10) ∧ G w w' (some s)
set_option maxRecDepth 100000 in
set_option maxHeartbeats 4000000 in
theorem gatesG_c (w : World) (s : Nat) (K : Nat) (hs : SB w s K) (hk : K ≤ 600000000000) :
    Calls Tryd.prog 18 #[.pointer (some ⟨s, 0, none⟩)] w (GatesPost s K w) := by
  have hsw := hs.lt
  go_enter Tryd.func18, Tryd.ntmps18
  go_wp2_with fail
  refine (pick_c _ _ _ [0, 5, -5] _ _ K (hs.alloc _) (by omega) (by decide) (by decide) (Rd.newAt _ rfl rfl (by decide)) (hs.newAt _ _ _ (Nat.le_refl _))).mono ?_; rintro e w1 ⟨p1, rfl, hp, hSB1, hg⟩
  have hG1 := ((G.refl w (some s)).alloc (.cells _ 3)).trans hg
  clear hs hg hp
  go_wp2_with fail
  refine (pick_c _ _ _ [0, 60, -1440] _ _ _ (hSB1.alloc _) (by omega) (by decide) (by decide) (Rd.newAt _ rfl rfl (by decide)) (hSB1.newAt _ _ _ (Nat.le_refl _))).mono ?_; rintro e w2 ⟨p2, rfl, hp, hSB2, hg⟩
  have hG2 := (hG1.alloc (.cells _ 3)).trans hg
  clear hSB1 hG1 hg hp
  have hok : GaOk [(⟨#[103, 49]⟩, ⟨#[99, 105, 116, 121]⟩, p1), (⟨#[103, 50]⟩, ⟨#[99, 105, 116, 121]⟩, 0), (⟨#[103, 51]⟩, ⟨#[114, 105, 110, 103]⟩, p2)] := fun x hx => by
    simp only [List.mem_cons, List.mem_nil_iff, or_false] at hx
    rcases hx with rfl | rfl | rfl
    · exact ⟨small_of (s := ⟨#[103, 49]⟩) (by decide), small_of (s := ⟨#[99, 105, 116, 121]⟩) (by decide)⟩
    · exact ⟨small_of (s := ⟨#[103, 50]⟩) (by decide), small_of (s := ⟨#[99, 105, 116, 121]⟩) (by decide)⟩
    · exact ⟨small_of (s := ⟨#[103, 51]⟩) (by decide), small_of (s := ⟨#[114, 105, 110, 103]⟩) (by decide)⟩
  have HOK := Lib.hid hok
  clear hok
  have hown0 : OwnGa (w2.alloc (.cells #[.string ⟨#[103, 49]⟩, .string ⟨#[99, 105, 116, 121]⟩, .int .i64 p1, .string ⟨#[103, 50]⟩, .string ⟨#[99, 105, 116, 121]⟩, .int .i64 0, .string ⟨#[103, 51]⟩, .string ⟨#[114, 105, 110, 103]⟩, .int .i64 p2] 88)) w.heap.size (.slice (some ⟨w2.heap.size, 0, none⟩) 3 3) [(⟨#[103, 49]⟩, ⟨#[99, 105, 116, 121]⟩, p1), (⟨#[103, 50]⟩, ⟨#[99, 105, 116, 121]⟩, 0), (⟨#[103, 51]⟩, ⟨#[114, 105, 110, 103]⟩, p2)] := World.ownsRow_lit (base := w.heap.size) (size := 3) w2 #[.string ⟨#[103, 49]⟩, .string ⟨#[99, 105, 116, 121]⟩, .int .i64 p1, .string ⟨#[103, 50]⟩, .string ⟨#[99, 105, 116, 121]⟩, .int .i64 0, .string ⟨#[103, 51]⟩, .string ⟨#[114, 105, 110, 103]⟩, .int .i64 p2] 3 hG2.size (by show 3 ≤ maxLen; decide) rfl
  have hSB3 := hSB2.alloc (.cells #[.string ⟨#[103, 49]⟩, .string ⟨#[99, 105, 116, 121]⟩, .int .i64 p1, .string ⟨#[103, 50]⟩, .string ⟨#[99, 105, 116, 121]⟩, .int .i64 0, .string ⟨#[103, 51]⟩, .string ⟨#[114, 105, 110, 103]⟩, .int .i64 p2] 88)
  have hG3 := hG2.alloc (.cells #[.string ⟨#[103, 49]⟩, .string ⟨#[99, 105, 116, 121]⟩, .int .i64 p1, .string ⟨#[103, 50]⟩, .string ⟨#[99, 105, 116, 121]⟩, .int .i64 0, .string ⟨#[103, 51]⟩, .string ⟨#[114, 105, 110, 103]⟩, .int .i64 p2] 88)
  have hgw := hG2.size
  clear hSB2 hG2
  go_upto_region 2 with fail
  generalize w2.alloc (.cells #[.string ⟨#[103, 49]⟩, .string ⟨#[99, 105, 116, 121]⟩, .int .i64 p1, .string ⟨#[103, 50]⟩, .string ⟨#[99, 105, 116, 121]⟩, .int .i64 0, .string ⟨#[103, 51]⟩, .string ⟨#[114, 105, 110, 103]⟩, .int .i64 p2] 88) = w3 at hown0 hSB3 hG3 ⊢
  generalize w2.heap.size = g at hown0 hgw ⊢
  obtain ⟨l, hl⟩ : ∃ l : List Ga, [(⟨#[103, 49]⟩, ⟨#[99, 105, 116, 121]⟩, p1), (⟨#[103, 50]⟩, ⟨#[99, 105, 116, 121]⟩, 0), (⟨#[103, 51]⟩, ⟨#[114, 105, 110, 103]⟩, p2)] = l := ⟨_, rfl⟩
  have hl3 : l.length = 3 := by rw [← hl]; rfl
  have HL3 := Lib.hid hl3
  rw [hl] at hown0 HOK
  clear hl hl3
  go_wp2_with fail
  refine (flip_c _ _ _ _ hSB3 (by omega) (by omega)).mono ?_; rintro e w4 ⟨q, rfl, hSB4, hg⟩
  have hown4 := OwnX.kept hown0 hg hsw
  have hG4 := hG3.trans hg
  clear hown0 hG3 hSB3 hg
  cases q with
  | false =>
    go_wp2_with fail
    go_ret
    exact ⟨_, l, rfl, hown4, HOK.out, HL3.out, hSB4.le (by omega), hG4⟩
  | true =>
    go_wp2_with fail
    refine (next_c _ _ _ _ hSB4 (by omega) (by omega)).mono ?_; rintro e w5 ⟨j, rfl, hj, hSB5, hg⟩
    obtain ⟨j0, j1⟩ := hj
    obtain ⟨j, rfl⟩ := Int.eq_ofNat_of_zero_le j0
    have jli : (j : Int) < 3 := by omega
    have jl : j < 3 := by omega
    clear j1
    have hown5 := OwnX.kept hown4 hg hsw
    have hG5 := hG4.trans hg
    clear hown4 hG4 hg hSB4
    go_wp2_with fail
    refine (some_c _ _ _ [⟨#[103, 49]⟩, ⟨#[]⟩, ⟨#[103, 50]⟩] _ _ _ (hSB5.alloc _) (by omega) (by decide) (by decide) (Rd.newAt _ rfl rfl (by decide)) (hSB5.newAt _ _ _ (Nat.le_refl _))).mono ?_; rintro e w6 ⟨r1, rfl, hp, hSB6, hg⟩
    have HR1 := Lib.hid (small_pick hp (by decide))
    have hown6 := OwnX.kept (OwnX.alloc hown5 (.cells _ 9)) hg hsw
    have hG6 := (hG5.alloc (.cells _ 9)).trans hg
    clear hown5 hG5 hg hSB5 hp
    go_wp2_with fail
    refine (some_c _ _ _ [⟨#[99, 105, 116, 121]⟩, ⟨#[]⟩] _ _ _ (hSB6.alloc _) (by omega) (by decide) (by decide) (Rd.newAt _ rfl rfl (by decide)) (hSB6.newAt _ _ _ (Nat.le_refl _))).mono ?_; rintro e w7 ⟨r2, rfl, hp, hSB7, hg⟩
    have HR2 := Lib.hid (small_pick hp (by decide))
    have hown7 := OwnX.kept (OwnX.alloc hown6 (.cells _ 9)) hg hsw
    have hG7 := (hG6.alloc (.cells _ 9)).trans hg
    clear hown6 hG6 hg hSB6 hp
    go_wp2_with fail
    refine (odd_c _ _ _ _ _ hSB7 (by omega) (by omega) (by omega) (by omega) (by omega)).mono ?_; rintro e w8 ⟨y1, rfl, y10, y11, hSB8, hg⟩
    have hown8 := OwnX.kept hown7 hg hsw
    have hG8 := hG7.trans hg
    clear hown7 hG7 hg hSB7 y10 y11
    obtain ⟨⟨z1, z2, z3⟩, hp⟩ : ∃ p, l[j]? = some p := ⟨_, List.getElem?_eq_getElem (by rw [HL3.out]; exact jl)⟩
    have hown9 : OwnGa w8 w.heap.size (.slice (some ⟨g, 0, none⟩) l.length 3) l := by rw [HL3.out]; exact hown8
    have c0 := RdR.cell gaC_sz (Rd.of_owns hown8) (G.refl _ none) hp 0 (.string z1) rfl
    have c1 := RdR.cell gaC_sz (Rd.of_owns hown8) (G.refl _ none) hp 1 (.string z2) rfl
    have c2 := RdR.cell gaC_sz (Rd.of_owns hown8) (G.refl _ none) hp 2 (.int .i64 z3) rfl
    have f0 := ownsRow_free hown9 (j * 3 + 0)
    have f1 := ownsRow_free hown9 (j * 3 + 1)
    have f2 := ownsRow_free hown9 (j * 3 + 2)
    have jll : j < l.length := by rw [HL3.out]; exact jl
    have o1 := OwnX.set gaC_sz hown9 hp (q := (r1, z2, z3)) 0 (.string r1) (by omega) rfl
    have o2 := OwnX.set gaC_sz o1 (show (l.set j (r1, z2, z3))[j]? = some (r1, z2, z3) by rw [List.getElem?_set_self jll]) (q := (r1, r2, z3)) 1 (.string r2) (by omega) rfl
    rw [List.set_set] at o2
    have o3 := OwnX.set gaC_sz o2 (show (l.set j (r1, r2, z3))[j]? = some (r1, r2, z3) by rw [List.getElem?_set_self jll]) (q := (r1, r2, y1)) 2 (.int .i64 y1) (by omega) rfl
    rw [List.set_set, HL3.out] at o3
    simp only [Nat.zero_add, Nat.add_zero] at c0 c1 c2 f0 o3
    have hgs : s < g := by omega
    clear o1 o2 hown8 hown9 hp jll
    go_wp2_with fail
    go_ret
    exact ⟨_, l.set j (r1, r2, y1), rfl, by unfold OwnGa OwnX; rw [List.length_set, HL3.out]; exact o3, HOK.out.set (r := (r1, r2, y1)) ⟨HR1.out, HR2.out⟩ j, by rw [List.length_set]; exact HL3.out, (((hSB8.setCell (p := ⟨g, j * 3, none⟩) hgs _).setCell (p := ⟨g, j * 3 + 1, none⟩) hgs _).setCell (p := ⟨g, j * 3 + 2, none⟩) hgs _).le (by omega), ((hG8.setCell (p := ⟨g, j * 3, none⟩) (.inl hgw) _).setCell (p := ⟨g, j * 3 + 1, none⟩) (.inl hgw) _).setCell (p := ⟨g, j * 3 + 2, none⟩) (.inl hgw) _⟩
/-! ### Passages -/
theorem cf_order : ∀ (args : Array Value) (w : World), (callFunc 50 args).run Tryd.prog w = .ok (.enter 50 args) w := fun args w => by kernel_rfl
theorem cf_same : ∀ (args : Array Value) (w : World), (callFunc 52 args).run Tryd.prog w = .ok (.enter 52 args) w := fun args w => by kernel_rfl
set_option maxRecDepth 100000 in
set_option maxHeartbeats 2000000 in
theorem paSame_c (x y : Pa) (w : World) (hx : paB x) (hy : paB y) : Calls Tryd.prog 52 #[.agg (paC x), .agg (paC y)] w fun e w' => e = .returned (.bool (cmpP x y == 0)) ∧ G w w' none := by
  have CO := Lib.hid (fun w' => passageOrder_c x y w' hx hy)
  generalize cmpP x y = R at CO ⊢
  obtain ⟨x1, x2, x3, x4⟩ := x
  obtain ⟨y1, y2, y3, y4⟩ := y
  clear hx hy
  have hBx : Bk ((w.alloc (.cells #[.int .i64 x1, .string x2, .string x3, .int .i64 x4] 90)).alloc (.cells #[.int .i64 y1, .string y2, .string y3, .int .i64 y4] 90)) w.heap.size 90 #[.int .i64 x1, .string x2, .string x3, .int .i64 x4] := (Bk.new w 90 _).alloc _
  have hBy := Bk.newAt (w := w.alloc (.cells #[.int .i64 x1, .string x2, .string x3, .int .i64 x4] 90)) (b := w.heap.size + 1) (by simp) 90 #[.int .i64 y1, .string y2, .string y3, .int .i64 y4]
  have hG := ((G.refl w none).alloc (.cells #[.int .i64 x1, .string x2, .string x3, .int .i64 x4] 90)).alloc (.cells #[.int .i64 y1, .string y2, .string y3, .int .i64 y4] 90)
  show Calls Tryd.prog 52 #[.agg #[.int .i64 x1, .string x2, .string x3, .int .i64 x4], .agg #[.int .i64 y1, .string y2, .string y3, .int .i64 y4]] w _
  go_enter Tryd.func52, Tryd.ntmps52
  go_upto_region 1 with fail
  generalize (w.alloc (.cells #[.int .i64 x1, .string x2, .string x3, .int .i64 x4] 90)).alloc (.cells #[.int .i64 y1, .string y2, .string y3, .int .i64 y4] 90) = w2 at hBx hBy hG ⊢
  go_wp2_with (first | (refine wpList_load_row rfl 90 _ rfl w.heap.size rfl 90 #[.int .i64 x1, .string x2, .string x3, .int .i64 x4] (0, 0) _ hBx Tryd.underlying90 rfl (pa_info (x1, x2, x3, x4)) ?_) | (refine wpList_load_row rfl 90 _ rfl (w.heap.size + 1) rfl 90 #[.int .i64 y1, .string y2, .string y3, .int .i64 y4] (0, 0) _ hBy Tryd.underlying90 rfl (pa_info (y1, y2, y3, y4)) ?_))
  refine (CO.out _).mono ?_; rintro e w3 ⟨rfl, hh⟩
  go_wp2_with fail
  go_ret
  exact ⟨rfl, hG.trans hh⟩
def PaG (l : List Pa) : Prop := PaOk l ∧ ∀ x ∈ l, paB x
theorem PaG.snoc {l : List Pa} {r : Pa} (h : PaG l) (hr : (Small r.2.1 ∧ Small r.2.2.1) ∧ paB r) : PaG (l ++ [r]) :=
  ⟨fun p hp => by
    rcases List.mem_append.1 hp with hp | hp
    · exact h.1 p hp
    · obtain rfl := List.mem_singleton.1 hp; exact hr.1,
   fun p hp => by
    rcases List.mem_append.1 hp with hp | hp
    · exact h.2 p hp
    · obtain rfl := List.mem_singleton.1 hp; exact hr.2⟩
theorem PaG.sub {l l' : List Pa} (h : PaG l) (hs : ∀ z ∈ l', z ∈ l) : PaG l' := ⟨fun p hp => h.1 p (hs p hp), fun p hp => h.2 p (hs p hp)⟩
theorem PaG.set {l : List Pa} {r : Pa} (h : PaG l) (hr : (Small r.2.1 ∧ Small r.2.2.1) ∧ paB r) (k : Nat) : PaG (l.set k r) :=
  ⟨fun p hp => by
    rcases List.mem_or_eq_of_mem_set hp with hp | rfl
    · exact h.1 p hp
    · exact hr.1,
   fun p hp => by
    rcases List.mem_or_eq_of_mem_set hp with hp | rfl
    · exact h.2 p hp
    · exact hr.2⟩
def PsPost (s K : Nat) (w : World) (e : Ending) (w' : World) : Prop :=
  ∃ (v : Value) (l : List Pa), e = .returned v ∧ OwnPa w' w.heap.size v l ∧ PaG l ∧ l.length ≤ 12 ∧ SB w' s (K + 100) ∧ G w w' (some s)
theorem ps_fin {w w' : World} {s K K' : Nat} {v : Value} {l : List Pa} (hown : OwnPa w' w.heap.size v l) (hl : PaG l) (hn : l.length ≤ 12) (hSB : SB w' s K') (hK : K' ≤ K + 100) (hG : G w w' (some s)) : PsPost s K w (.returned v) w' :=
  ⟨v, l, rfl, hown, hl, hn, hSB.le hK, hG⟩
def PsRel (w : World) (s K n : Nat) (s5 s8 : Value) (wr : World) : Prop :=
  ∃ (k : Nat) (l : List Pa), k ≤ n ∧ l.length = k ∧ s8 = .int .i64 k ∧ OwnPa wr w.heap.size s5 l ∧ PaG l ∧ SB wr s (K + 4 * k) ∧ G w wr (some s)
set_option maxRecDepth 100000 in
set_option maxHeartbeats 8000000 in
theorem passagesG_c (n : Nat) (hn : n ≤ 12) (w : World) (s : Nat) (K : Nat) (hs : SB w s K) (hk : K ≤ 600000000000) :
    Calls Tryd.prog 20 #[.pointer (some ⟨s, 0, none⟩), .int .i64 n] w (PsPost s K w) := by
  have hsw := hs.lt
  go_enter Tryd.func20, Tryd.ntmps20
  go_wp2_with fail
  go_loopw [5, 8] (PsRel w s K n) (fun _ i _ => n - (intOf i).toNat)
  case atStart => exact ⟨0, [], by omega, rfl, rfl, World.ownsRow_nil _ _ _ _, ⟨fun x hx => (by cases hx), fun x hx => (by cases hx)⟩, hs, G.refl _ _⟩
  case round =>
    clear hs
    obtain ⟨k, l, hkn, hlk, rfl, hown, hok, hSB, hG⟩ := hrel
    by_cases hlt : k < n
    · have HOK := Lib.hid hok
      have HLK := Lib.hid hlk
      have HKN := Lib.hid hlt
      clear hok hlk
      go_wp2_with fail
      refine (pick_c _ _ _ [5, 10, 60, 62, 66, 72, 100, 105, 150, 300, 1440, 1500, 1501] _ _ _ (hSB.alloc _) (by omega) (by decide) (by decide) (Rd.newAt _ rfl rfl (by decide)) (hSB.newAt _ _ _ (Nat.le_refl _))).mono ?_; rintro e w3 ⟨t, rfl, hp, hSB3, hg⟩
      have HT : Hid (0 ≤ t ∧ t ≤ 1501) := Lib.hid (by simp only [List.mem_cons, List.mem_nil_iff, or_false] at hp; omega)
      have hh := ((G.refl wr (some s)).alloc (.cells _ 3)).trans hg
      have hown3 := OwnX.kept hown hh hsw
      have hG3 := hG.trans hh
      clear hown hG hSB hg hh hp
      go_wp2_with fail
      refine (some_c _ _ _ [⟨#[103, 49]⟩, ⟨#[103, 49]⟩, ⟨#[103, 50]⟩, ⟨#[103, 51]⟩] _ _ _ (hSB3.alloc _) (by omega) (by decide) (by decide) (Rd.newAt _ rfl rfl (by decide)) (hSB3.newAt _ _ _ (Nat.le_refl _))).mono ?_; rintro e w4 ⟨gk, rfl, hp, hSB4, hg⟩
      have HGK := Lib.hid (small_pick hp (by decide))
      have hh := ((G.refl w3 (some s)).alloc (.cells _ 9)).trans hg
      have hown4 := OwnX.kept hown3 hh hsw
      have hG4 := hG3.trans hh
      clear hown3 hG3 hSB3 hg hh hp
      go_wp2_with fail
      refine (some_c _ _ _ [⟨#[65, 66, 49]⟩, ⟨#[65, 66, 49]⟩, ⟨#[65, 66, 50]⟩, ⟨#[90, 90, 57]⟩] _ _ _ (hSB4.alloc _) (by omega) (by decide) (by decide) (Rd.newAt _ rfl rfl (by decide)) (hSB4.newAt _ _ _ (Nat.le_refl _))).mono ?_; rintro e w5 ⟨y, rfl, hp, hSB5, hg⟩
      have HY := Lib.hid (small_pick hp (by decide))
      have hh := ((G.refl w4 (some s)).alloc (.cells _ 9)).trans hg
      have hown5 := OwnX.kept hown4 hh hsw
      have hG5 := hG4.trans hh
      clear hown4 hG4 hSB4 hg hh hp
      go_wp2_with fail
      refine (pick_c _ _ _ [0, 30, 30, 80, 500] _ _ _ (hSB5.alloc _) (by omega) (by decide) (by decide) (Rd.newAt _ rfl rfl (by decide)) (hSB5.newAt _ _ _ (Nat.le_refl _))).mono ?_; rintro e w6 ⟨c, rfl, hp, hSB6, hg⟩
      have hh := ((G.refl w5 (some s)).alloc (.cells _ 3)).trans hg
      have hown6 := OwnX.kept hown5 hh hsw
      have hG6 := hG5.trans hh
      have hob := OwnX.low hown6
      have hsz := hG6.size
      have hownA := OwnX.alloc hown6 (.cells #[.int .i64 t, .string gk, .string y, .int .i64 c] 90)
      clear hown5 hG5 hSB5 hg hh hp
      go_wp2_with (at_builtin; refine wpList_plain rfl fun K' hK' => wp_append_x pa_rowOk _ _ rfl w.heap.size u5 l rfl hownA w6.heap.size (t, gk, y, c) rfl (Bk.new w6 _ _) (by have := HLK.out; omega) (by simp; omega) ?_; intro v8 w8 hown8 hgrow; refine hK' _ _ ?_)
      go_roundw
      case rel => exact ⟨k + 1, l ++ [(t, gk, y, c)], (by have := HKN.out; omega), (by have := HLK.out; simp; omega), by go_num, hown8, HOK.out.snoc ⟨⟨HGK.out, HY.out⟩, by have := HT.out; unfold paB; dsimp only; omega⟩, ((hSB6.alloc _).own hgrow (fun r e => Nat.lt_of_lt_of_le hsw (hob r e))).le (by omega), (hG6.alloc _).other hgrow (fun r e => .inl (hob r e))⟩
      case measure => have := HKN.out; simp [intOf]; omega
    · obtain rfl : k = n := by omega
      have hl12 : l.length < 20 := by omega
      have hl13 : l.length ≤ 12 := by omega
      have hob := OwnX.low hown
      have CST := Lib.hid (sortStableP_c 50 #[] cmpP u5 l w.heap.size wr cf_order (fun x y w' hx hy _ => passageOrder_c x y w' (hok.2 x hx) (hok.2 y hy)) hown hl12)
      have HOK := Lib.hid hok
      have HL13 := Lib.hid hl13
      clear hok hlk hl12 hl13
      go_wp2_with fail
      refine CST.out.mono ?_; rintro e w2 ⟨rfl, hown2, hgs⟩
      have hg2 := GS.toOwn hgs
      have hSB2 := hSB.own hg2 (fun r e => Nat.lt_of_lt_of_le hsw (hob r e))
      have hG2 := hG.other hg2 (fun r e => .inl (hob r e))
      obtain ⟨L, hL⟩ : ∃ L, isrt (fun x y => decide (cmpP x y < 0)) l = L := ⟨_, rfl⟩
      have HLO : Hid (PaG L ∧ L.length ≤ 12) := Lib.hid ⟨HOK.out.sub (fun z hz => isrtP_mem _ _ _ (by rw [hL]; exact hz)), by rw [← hL, isrtP_len]; exact HL13.out⟩
      rw [hL] at hown2
      clear hL CST hown hSB hG hgs hg2 HOK HL13
      have CCF := Lib.hid (compact_c 52 #[] (fun x y => cmpP x y == 0) u5 L w.heap.size w2 cf_same (fun x y w' hx hy _ => paSame_c x y w' (HLO.out.1.2 x hx) (HLO.out.1.2 y hy)) hown2 (by have := HLO.out.2; omega))
      go_wp2_with fail
      refine CCF.out.mono ?_; rintro e w3 ⟨v3, l3, rfl, hown3, hl3, hsub, hgs⟩
      have hg3 := GS.toOwn hgs
      have hSB3 := hSB2.own hg3 (fun r e => Nat.lt_of_lt_of_le hsw (hob r e))
      have hG3 := hG2.other hg3 (fun r e => .inl (hob r e))
      have HLO3 : Hid (PaG l3 ∧ l3.length ≤ 12) := Lib.hid ⟨HLO.out.1.sub hsub, by have := HLO.out.2; omega⟩
      clear hgs hg3 hsub hl3 HLO CCF hown2 hSB2 hG2 hob
      have hl12 := HLO3.out.2
      rcases Nat.eq_zero_or_pos l3.length with h0 | h0
      · obtain rfl : l3 = [] := List.eq_nil_of_length_eq_zero h0
        obtain ⟨aa, cc, hv, -, -⟩ := RdR.form (c := paC) (Rd.of_owns hown3)
        have hv' : v3 = .slice aa 0 cc := hv
        clear hv h0
        subst hv'
        go_wp2_with fail
        go_ret
        exact ps_fin hown3 HLO3.out.1 (by simp) hSB3 (by omega) hG3
      · obtain ⟨g, cap, cur, e, -⟩ := OwnX.form0 hown3 h0
        subst e
        have hgs := OwnX.low hown3 g rfl
        have h0i : ((0 : Int) < (l3.length : Int)) := by omega
        clear h0
        go_wp2_with fail
        refine (flip_c _ _ _ _ hSB3 (by omega) (by omega)).mono ?_; rintro e w4 ⟨q, rfl, hSB4, hg⟩
        have hown4 := OwnX.kept hown3 hg hsw
        have hG4 := hG3.trans hg
        clear hown3 hG3 hSB3 hg
        cases q with
        | false =>
          go_wp2_with fail
          go_ret
          exact ps_fin hown4 HLO3.out.1 hl12 hSB4 (by omega) hG4
        | true =>
          go_wp2_with fail
          refine (next_c _ _ _ _ hSB4 (by omega) (by omega)).mono ?_; rintro e w5 ⟨j, rfl, hj, hSB5, hg⟩
          obtain ⟨j0, j1⟩ := hj
          obtain ⟨j, rfl⟩ := Int.eq_ofNat_of_zero_le j0
          have jl : j < l3.length := by omega
          have jli : (j : Int) < (l3.length : Int) := by omega
          clear j1
          have hown5 := OwnX.kept hown4 hg hsw
          have hG5 := hG4.trans hg
          clear hown4 hG4 hg hSB4
          obtain ⟨⟨z1, z2, z3, z4⟩, hpj⟩ : ∃ p, l3[j]? = some p := ⟨_, List.getElem?_eq_getElem jl⟩
          have HPJ := Lib.hid hpj
          have HPG : Hid ((Small z2 ∧ Small z3) ∧ paB (z1, z2, z3, z4)) := Lib.hid ⟨HLO3.out.1.1 _ (List.mem_of_getElem? hpj), HLO3.out.1.2 _ (List.mem_of_getElem? hpj)⟩
          clear hpj
          have hgsg : s < g := Nat.lt_of_lt_of_le hsw hgs
          go_wp2_with fail
          refine (next_c _ _ _ _ hSB5 (by omega) (by omega)).mono ?_; rintro e w6 ⟨b, rfl, hb, hSB6, hg⟩
          obtain ⟨b0, b1⟩ := hb
          have hown6 := OwnX.kept hown5 hg hsw
          have hG6 := hG5.trans hg
          clear hown5 hG5 hg hSB5
          rcases (show b = 0 ∨ b = 1 ∨ b = 2 ∨ b = 3 by omega) with rfl | rfl | rfl | rfl
          · go_wp2_with fail
            refine (odd_c _ _ _ _ _ hSB6 (by omega) (by omega) (by omega) (by omega) (by omega)).mono ?_; rintro e w7 ⟨n7, rfl, y10, y11, hSB7, hg⟩
            have HN7 := Lib.hid (And.intro y10 y11)
            have hown7 := OwnX.kept hown6 hg hsw
            have hG7 := hG6.trans hg
            clear y10 y11
            have c0 := RdR.cell paC_sz (Rd.of_owns hown7) (G.refl _ none) HPJ.out 0 (.int .i64 z1) rfl
            have f0 := ownsRow_free hown7 (j * 4 + 0)
            have o1 := OwnX.set paC_sz hown7 HPJ.out (q := (n7, z2, z3, z4)) 0 (.int .i64 n7) (by omega) rfl
            simp only [Nat.zero_add, Nat.add_zero] at c0 f0 o1
            clear hown6 hG6 hSB6 hg hown7
            go_wp2_with fail
            go_ret
            exact ps_fin (l := l3.set j (n7, z2, z3, z4)) (by unfold OwnPa OwnX; rw [List.length_set]; exact o1) (HLO3.out.1.set (r := (n7, z2, z3, z4)) ⟨HPG.out.1, by have := HN7.out; unfold paB; dsimp only; omega⟩ j) (by rw [List.length_set]; exact hl12) (hSB7.setCell (p := ⟨g, j * 4, none⟩) hgsg _) (by omega) (hG7.setCell (p := ⟨g, j * 4, none⟩) (.inl hgs) _)
          · go_wp2_with fail
            refine (some_c _ _ _ [⟨#[110, 111, 110, 101]⟩, ⟨#[]⟩, ⟨#[65]⟩] _ _ _ (hSB6.alloc _) (by omega) (by decide) (by decide) (Rd.newAt _ rfl rfl (by decide)) (hSB6.newAt _ _ _ (Nat.le_refl _))).mono ?_; rintro e w7 ⟨n7, rfl, hp, hSB7, hg⟩
            have HN7 := Lib.hid (small_pick hp (by decide))
            have hown7 := OwnX.kept (OwnX.alloc hown6 (.cells _ 9)) hg hsw
            have hG7 := (hG6.alloc (.cells _ 9)).trans hg
            clear hp
            have c0 := RdR.cell paC_sz (Rd.of_owns hown7) (G.refl _ none) HPJ.out 1 (.string z2) rfl
            have f0 := ownsRow_free hown7 (j * 4 + 1)
            have o1 := OwnX.set paC_sz hown7 HPJ.out (q := (z1, n7, z3, z4)) 1 (.string n7) (by omega) rfl
            simp only [Nat.zero_add, Nat.add_zero] at c0 f0 o1
            clear hown6 hG6 hSB6 hg hown7
            go_wp2_with fail
            go_ret
            exact ps_fin (l := l3.set j (z1, n7, z3, z4)) (by unfold OwnPa OwnX; rw [List.length_set]; exact o1) (HLO3.out.1.set (r := (z1, n7, z3, z4)) ⟨⟨HN7.out, HPG.out.1.2⟩, HPG.out.2⟩ j) (by rw [List.length_set]; exact hl12) (hSB7.setCell (p := ⟨g, j * 4 + 1, none⟩) hgsg _) (by omega) (hG7.setCell (p := ⟨g, j * 4 + 1, none⟩) (.inl hgs) _)
          · go_wp2_with fail
            refine (some_c _ _ _ [⟨#[97]⟩, ⟨#[]⟩, ⟨#[97, 98, 49]⟩] _ _ _ (hSB6.alloc _) (by omega) (by decide) (by decide) (Rd.newAt _ rfl rfl (by decide)) (hSB6.newAt _ _ _ (Nat.le_refl _))).mono ?_; rintro e w7 ⟨n7, rfl, hp, hSB7, hg⟩
            have HN7 := Lib.hid (small_pick hp (by decide))
            have hown7 := OwnX.kept (OwnX.alloc hown6 (.cells _ 9)) hg hsw
            have hG7 := (hG6.alloc (.cells _ 9)).trans hg
            clear hp
            have c0 := RdR.cell paC_sz (Rd.of_owns hown7) (G.refl _ none) HPJ.out 2 (.string z3) rfl
            have f0 := ownsRow_free hown7 (j * 4 + 2)
            have o1 := OwnX.set paC_sz hown7 HPJ.out (q := (z1, z2, n7, z4)) 2 (.string n7) (by omega) rfl
            simp only [Nat.zero_add, Nat.add_zero] at c0 f0 o1
            clear hown6 hG6 hSB6 hg hown7
            go_wp2_with fail
            go_ret
            exact ps_fin (l := l3.set j (z1, z2, n7, z4)) (by unfold OwnPa OwnX; rw [List.length_set]; exact o1) (HLO3.out.1.set (r := (z1, z2, n7, z4)) ⟨⟨HPG.out.1.1, HN7.out⟩, HPG.out.2⟩ j) (by rw [List.length_set]; exact hl12) (hSB7.setCell (p := ⟨g, j * 4 + 2, none⟩) hgsg _) (by omega) (hG7.setCell (p := ⟨g, j * 4 + 2, none⟩) (.inl hgs) _)
          · go_wp2_with fail
            refine (odd_c _ _ _ _ _ hSB6 (by omega) (by omega) (by omega) (by omega) (by omega)).mono ?_; rintro e w7 ⟨n7, rfl, y10, y11, hSB7, hg⟩
            have HN7 := Lib.hid (And.intro y10 y11)
            have hown7 := OwnX.kept hown6 hg hsw
            have hG7 := hG6.trans hg
            clear y10 y11
            have c0 := RdR.cell paC_sz (Rd.of_owns hown7) (G.refl _ none) HPJ.out 3 (.int .i64 z4) rfl
            have f0 := ownsRow_free hown7 (j * 4 + 3)
            have o1 := OwnX.set paC_sz hown7 HPJ.out (q := (z1, z2, z3, n7)) 3 (.int .i64 n7) (by omega) rfl
            simp only [Nat.zero_add, Nat.add_zero] at c0 f0 o1
            clear hown6 hG6 hSB6 hg hown7
            go_wp2_with fail
            go_ret
            exact ps_fin (l := l3.set j (z1, z2, z3, n7)) (by unfold OwnPa OwnX; rw [List.length_set]; exact o1) (HLO3.out.1.set (r := (z1, z2, z3, n7)) ⟨HPG.out.1, HPG.out.2⟩ j) (by rw [List.length_set]; exact hl12) (hSB7.setCell (p := ⟨g, j * 4 + 3, none⟩) hgsg _) (by omega) (hG7.setCell (p := ⟨g, j * 4 + 3, none⟩) (.inl hgs) _)
end Go.Proofs.YtamoefnpfkcigaaDoor

/- A map whose keys are of any kind, told by a function from the keys to the values that stand at them, and by how many there are. No program. -/
namespace Go.Proofs.YtamoefnpfkcigaaDoor
open Go.RowKit Go.ChangeMaps Go.MapKept
open Go.Maps (Keyed IsMap Tidy has size)

/-- A kind of keys: which are good, their values, how they are told. -/
structure KeyK (P : Program) (k : TypeId) (κ : Type) where
  ok : κ → Prop
  v : κ → Value
  l : κ → Lit
  keyed : Maps.Keyed P k
  of : ∀ x, ok x → keyOf P k (v x) = some (l x)
  inj : ∀ x y, v x = v y → x = y
theorem KeyK.isk {P : Program} {k : TypeId} {κ : Type} (KK : KeyK P k κ) {x : κ} (h : KK.ok x) : WideAt.IsKeyLit (KK.l x) := KK.keyed.key (KK.of x h)
theorem KeyK.linj {P : Program} {k : TypeId} {κ : Type} (KK : KeyK P k κ) {x y : κ} (hx : KK.ok x) (hy : KK.ok y) (h : x ≠ y) : KK.l x ≠ KK.l y := fun e => h (KK.inj x y (KK.keyed.inj (KK.of x hx) (by rw [e]; exact KK.of y hy)))
abbrev FnK (κ : Type) := κ → Option Value
/-- What a map holds, as a datum. -/
def MapIsK {P : Program} {k : TypeId} {κ : Type} (KK : KeyK P k κ) (D : DataW Value) (c : Nat) (f : FnK κ) : Prop := Tidy D ∧ size D = c ∧ ∀ s, KK.ok s → has D (KK.l s) = (f s).isSome ∧ ∀ v, f s = some v → ∀ z, D.atKey (KK.l s) z = .held v
/-- Block 'b' is a map of 'c' keys that holds what 'f' says. -/
def OwnK {P : Program} {k : TypeId} {κ : Type} (KK : KeyK P k κ) (w : World) (b c : Nat) (f : FnK κ) : Prop := ∃ D n, w.ownsMap P k RV b n D ∧ n ≤ c ∧ MapIsK KK D c f
def fputK {κ : Type} [DecidableEq κ] (f : FnK κ) (s : κ) (v : Value) : FnK κ := fun t => if t = s then some v else f t
def fdelK {κ : Type} [DecidableEq κ] (f : FnK κ) (s : κ) : FnK κ := fun t => if t = s then none else f t
def cputK {κ : Type} (c : Nat) (f : FnK κ) (s : κ) : Nat := if (f s).isSome = true then c else c + 1
section
variable {P : Program} {k : TypeId} {κ : Type} (KK : KeyK P k κ)
theorem MapIsK.empty : MapIsK KK (.map []) 0 (fun _ => none) := ⟨Maps.tidy_empty, rfl, fun _ _ => ⟨rfl, fun _ h => by cases h⟩⟩
variable {KK}
theorem MapIsK.put [DecidableEq κ] {D : DataW Value} {c : Nat} {f : FnK κ} (h : MapIsK KK D c f) {s : κ} (hs : KK.ok s) (v : Value) : MapIsK KK (D.put (KK.l s) (.held v)) (cputK c f s) (fputK f s v) := by
  obtain ⟨h1, h2, h3⟩ := h
  refine ⟨h1.put (KK.isk hs) _, ?_, fun t ht => ?_⟩
  · rw [Maps.size_put h1, (h3 s hs).1, h2]
    rfl
  · by_cases e : t = s
    · subst e
      simp only [fputK, if_pos]
      exact ⟨by rw [Maps.has_put_same h1.isMap (KK.isk ht)]; rfl, fun u hu z => by cases hu; exact Maps.atKey_put_same h1.isMap (KK.isk ht) _ _⟩
    · simp only [fputK, if_neg e]
      exact ⟨by rw [Maps.has_put_other (KK.linj ht hs e)]; exact (h3 t ht).1, fun u hu z => by rw [Maps.atKey_put_other (KK.linj ht hs e)]; exact (h3 t ht).2 u hu z⟩
theorem MapIsK.del [DecidableEq κ] {D : DataW Value} {c : Nat} {f : FnK κ} (h : MapIsK KK D c f) {s : κ} (hs : KK.ok s) : MapIsK KK (D.del (KK.l s)) (if (f s).isSome = true then c - 1 else c) (fdelK f s) := by
  obtain ⟨h1, h2, h3⟩ := h
  refine ⟨h1.del _, ?_, fun t ht => ?_⟩
  · have := Maps.size_del h1 (k := KK.l s)
    rw [(h3 s hs).1, h2] at this
    split at this <;> simp_all <;> omega
  · by_cases e : t = s
    · subst e
      simp only [fdelK, if_pos]
      exact ⟨by rw [Maps.has_del_same]; rfl, fun u hu => by cases hu⟩
    · simp only [fdelK, if_neg e]
      exact ⟨by rw [Maps.has_del_other (KK.linj ht hs e)]; exact (h3 t ht).1, fun u hu z => by rw [Maps.atKey_del_other (KK.linj ht hs e)]; exact (h3 t ht).2 u hu z⟩
end
section
variable {P : Program} {k : TypeId} {κ : Type} {KK : KeyK P k κ} {w : World} {b c : Nat} {f : FnK κ}
theorem OwnK.made (w : World) (KK : KeyK P k κ) {b : Nat} (hb : w.heap.size = b) : OwnK KK (w.alloc (.map #[] 0)) b 0 (fun _ => none) := by
  subst hb
  exact ⟨_, 0, World.ownsMap_made w P k RV, Nat.le_refl _, MapIsK.empty KK⟩
theorem OwnK.lt (h : OwnK KK w b c f) : b < w.heap.size := by obtain ⟨D, n, h, _⟩ := h; exact h.lt
theorem OwnK.grown {w' : World} {s : Option Nat} (h : OwnK KK w b c f) (hg : G w w' s) (hs : some b ≠ s) : OwnK KK w' b c f := by obtain ⟨D, n, h, r⟩ := h; exact ⟨D, n, h.kept hg hs, r⟩
theorem OwnK.quiet {w' : World} (h : OwnK KK w b c f) (hg : G w w' none) : OwnK KK w' b c f := h.grown hg (by simp)
theorem OwnK.alloc (h : OwnK KK w b c f) (o : Obj) : OwnK KK (w.alloc o) b c f := h.quiet ((G.refl _ _).alloc o)
theorem OwnK.drewN (h : OwnK KK w b c f) (n : Nat) : OwnK KK (w.drewN n) b c f := h.quiet ((G.refl _ _).drewN n)
theorem OwnK.setCell (h : OwnK KK w b c f) {p : Addr} (hp : b ≠ p.block) (u : Value) : OwnK KK (w.setCell p u) b c f := h.grown (grownBy_setCell_row w p u) (by simpa using hp)
theorem OwnK.setRow (h : OwnK KK w b c f) {g : Nat} (hp : b ≠ g) (cs : Array Value) : OwnK KK (w.setRow g cs) b c f := h.grown (grownBy_setRow w g cs) (by simpa using hp)
theorem OwnK.look {t e : TypeId} (h : OwnK KK w b c f) (ht : P.underlying t = some (.map k e)) {z : Value} (hz : (zeroValue e).run P w = .ok z w) {s : κ} (hs : KK.ok s) :
    (Instr.lookup t (.map (some b)) (KK.v s) false).run P w = .ok ((f s).getD z) w := by
  obtain ⟨D, n, h, _, h1, h2, h3⟩ := h
  obtain ⟨v, ps, hrun, hv⟩ := h.lookup KK.keyed ht hz (zd := .held z) (zp := []) rfl (KK.of s hs)
  rw [hrun]
  have e : DataW.held v = D.atKey (KK.l s) (.held z) := by have := congrArg (fun o => o.map Prod.fst) hv; simpa [RV] using this
  cases hf : f s with
  | none =>
    have hn := (h3 s hs).1
    rw [hf] at hn
    rw [Maps.atKey_of_not_has hn] at e
    injection e with e
    rw [e]; rfl
  | some u =>
    rw [(h3 s hs).2 u hf] at e
    injection e with e
    rw [e]; rfl
theorem OwnK.look_ok {t e : TypeId} (h : OwnK KK w b c f) (ht : P.underlying t = some (.map k e)) {z : Value} (hz : (zeroValue e).run P w = .ok z w) {s : κ} (hs : KK.ok s) :
    (Instr.lookup t (.map (some b)) (KK.v s) true).run P w = .ok (.tuple #[(f s).getD z, .bool (f s).isSome]) w := by
  obtain ⟨D, n, h, _, h1, h2, h3⟩ := h
  obtain ⟨v, ps, hrun, hv⟩ := h.look_ok KK.keyed ht hz (zd := .held z) (zp := []) rfl (KK.of s hs)
  rw [hrun]
  have e : DataW.held v = D.atKey (KK.l s) (.held z) := by have := congrArg (fun o => o.map Prod.fst) hv; simpa [RV] using this
  have hb : has D (KK.l s) = (f s).isSome := (h3 s hs).1
  rw [show Maps.has D (KK.l s) = (f s).isSome from hb]
  cases hf : f s with
  | none =>
    have hn := (h3 s hs).1
    rw [hf] at hn
    rw [Maps.atKey_of_not_has hn] at e
    injection e with e
    rw [e]; rfl
  | some u =>
    rw [(h3 s hs).2 u hf] at e
    injection e with e
    rw [e]; rfl
theorem OwnK.store [DecidableEq κ] {t e : TypeId} (h : OwnK KK w b c f) (ht : P.underlying t = some (.map k e)) (hc : c < maxLen) {s : κ} (hs : KK.ok s) (v : Value) :
    ∃ w', (Instr.mapUpdate t (.map (some b)) (KK.v s) v).run P w = .ok () w' ∧ OwnK KK w' b (cputK c f s) (fputK f s v) ∧ w.grownBy w' (some b) := by
  obtain ⟨D, n, h, hn, hM⟩ := h
  obtain ⟨w', hrun, h1, h2⟩ := h.update KK.keyed ht (Nat.lt_of_le_of_lt hn hc) (KK.of s hs) (val := v) (d := .held v) (ps := []) rfl
  have hM' := hM.put hs v
  refine ⟨w', hrun, ⟨_, size (D.put (KK.l s) (.held v)), ?_, Nat.le_of_eq hM'.2.1, hM'⟩, h2⟩
  obtain ⟨es, clock, hb, F, _, hD⟩ := h1
  have hD' : D.put (KK.l s) (.held v) = .map ((es.toList.map (Go.WideElems.rg P k RV)).foldr DataW.insert []) := hD
  refine ⟨es, clock, hb, F, ?_, hD⟩
  rw [hD']
  simp [size, length_sorted]
theorem OwnK.drop [DecidableEq κ] {t e : TypeId} (h : OwnK KK w b c f) (ht : P.underlying t = some (.map k e)) {s : κ} (hs : KK.ok s) (ty : TypeId) :
    ∃ w', (Builtin.delete_ #[t, k] ty #[.map (some b), KK.v s]).run P w = .ok (.tuple #[]) w' ∧ OwnK KK w' b (if (f s).isSome = true then c - 1 else c) (fdelK f s) ∧ w.grownBy w' (some b) := by
  obtain ⟨D, n, h, hn, hM⟩ := h
  obtain ⟨w', hrun, h1, h2⟩ := h.drop KK.keyed ht (KK.of s hs) ty
  have hM' := hM.del hs
  refine ⟨w', hrun, ⟨_, size (D.del (KK.l s)), ?_, Nat.le_of_eq hM'.2.1, hM'⟩, h2.grown⟩
  obtain ⟨es, clock, hb, F, _, hD⟩ := h1
  have hD' : D.del (KK.l s) = .map ((es.toList.map (Go.WideElems.rg P k RV)).foldr DataW.insert []) := hD
  refine ⟨es, clock, hb, F, ?_, hD⟩
  rw [hD']
  simp [size, length_sorted]
end

/-! ### At the operation, for the walk -/
section
variable {P : Program} {k : TypeId} {κ : Type} {KK : KeyK P k κ} {w : World} {ops : Array Oper} {rest : List Oper} {o : Oper} {a : Act} {Q : Exit → Act → World → Prop}
theorem wpK_look (hg : o.guard = none) (m x : Operand) (t : TypeId) (hop : o.op = Op.lookup t m x false) (e : TypeId) (ht : P.underlying t = some (.map k e)) (z : Value) (hz : (zeroValue e).run P w = .ok z w)
    (b c : Nat) (f : FnK κ) (hm : a.eval m = .map (some b)) (hown : OwnK KK w b c f) (s : κ) (hx : a.eval x = KK.v s) (hs : KK.ok s) (hK : wpList P ops Q rest (a.put o.dst ((f s).getD z)) w) : wpList P ops Q (o :: rest) a w := by
  refine wpList_plain hg fun K' hK' => ?_
  unfold Oper.wp
  simp [execOp, hop, hm, hx, hown.look ht hz hs, Result.andThen]
  exact hK' _ _ hK
theorem wpK_look_ok (hg : o.guard = none) (m x : Operand) (t : TypeId) (hop : o.op = Op.lookup t m x true) (e : TypeId) (ht : P.underlying t = some (.map k e)) (z : Value) (hz : (zeroValue e).run P w = .ok z w)
    (b c : Nat) (f : FnK κ) (hm : a.eval m = .map (some b)) (hown : OwnK KK w b c f) (s : κ) (hx : a.eval x = KK.v s) (hs : KK.ok s) (hK : wpList P ops Q rest (a.put o.dst (.tuple #[(f s).getD z, .bool (f s).isSome])) w) : wpList P ops Q (o :: rest) a w := by
  refine wpList_plain hg fun K' hK' => ?_
  unfold Oper.wp
  simp [execOp, hop, hm, hx, hown.look_ok ht hz hs, Result.andThen]
  exact hK' _ _ hK
theorem wpK_store [DecidableEq κ] (hg : o.guard = none) (m x v : Operand) (t : TypeId) (hop : o.op = Op.mapUpdate t m x v) (e : TypeId) (ht : P.underlying t = some (.map k e))
    (b c : Nat) (f : FnK κ) (hm : a.eval m = .map (some b)) (hown : OwnK KK w b c f) (hc : c < maxLen) (s : κ) (hx : a.eval x = KK.v s) (hs : KK.ok s) (u : Value) (hv : a.eval v = u)
    (hK : ∀ w', OwnK KK w' b (cputK c f s) (fputK f s u) → w.grownBy w' (some b) → wpList P ops Q rest (a.put o.dst undef) w') : wpList P ops Q (o :: rest) a w := by
  refine wpList_plain hg fun K' hK' => ?_
  obtain ⟨w', hrun, r1, r2⟩ := hown.store ht hc hs u
  unfold Oper.wp
  simp [execOp, hop, hm, hx, hv, hrun, Result.andThen]
  exact hK' _ _ (hK w' r1 r2)
theorem wpK_delete [DecidableEq κ] (hg : o.guard = none) (m x : Operand) (t : TypeId) (hop : o.op = Op.call { callee := Callee.builtin Builtin.delete, args := #[m, x], argTypes := #[t, k] }) (e : TypeId) (ht : P.underlying t = some (.map k e))
    (b c : Nat) (f : FnK κ) (hm : a.eval m = .map (some b)) (hown : OwnK KK w b c f) (s : κ) (hx : a.eval x = KK.v s) (hs : KK.ok s)
    (hK : ∀ w', OwnK KK w' b (if (f s).isSome = true then c - 1 else c) (fdelK f s) → w.grownBy w' (some b) → wpList P ops Q rest (a.put o.dst (.tuple #[])) w') : wpList P ops Q (o :: rest) a w := by
  refine wpList_plain hg fun K' hK' => ?_
  obtain ⟨w', hrun, r1, r2⟩ := hown.drop ht hs o.type
  unfold Oper.wp
  simp [execOp, hop, resolve, invoke, builtin, hm, hx, hrun, Result.andThen]
  exact hK' _ _ (hK w' r1 r2)
theorem wpK_len (hg : o.guard = none) (m : Operand) (t : TypeId) (hop : o.op = Op.call { callee := Callee.builtin Builtin.len, args := #[m], argTypes := #[t] }) (e : TypeId) (ht : P.underlying t = some (.map k e))
    (b c : Nat) (f : FnK κ) (hm : a.eval m = .map (some b)) (hown : OwnK KK w b c f) (hK : wpList P ops Q rest (a.put o.dst (.int .i64 c)) w) : wpList P ops Q (o :: rest) a w := by
  obtain ⟨D, n, h, _, h1, h2, h3⟩ := hown
  refine wpList_len_own w hg m t hop k e ht RV b n D hm h ?_
  rw [h2]
  exact hK
end
end Go.Proofs.YtamoefnpfkcigaaDoor

/- Keys that are two strings. -/
namespace Go.Proofs.YtamoefnpfkcigaaDoor
open Go.RowKit

abbrev Pr := ByteArray × ByteArray
def prV (x : Pr) : Value := .agg #[.string x.1, .string x.2]
def prL (x : Pr) : Lit := .string (keyBytes [.string x.1.data.toList, .string x.2.data.toList])
def prOk (x : Pr) : Prop := x.1.size ≤ maxLen ∧ x.2.size ≤ maxLen
theorem prV_inj (x y : Pr) (h : prV x = prV y) : x = y := by
  obtain ⟨a, b⟩ := x
  obtain ⟨c, d⟩ := y
  simp [prV] at h
  rw [h.1, h.2]
theorem track_of (x : Pr) (h : prOk x) : keyOf Tryd.prog 115 (prV x) = some (prL x) := by
  obtain ⟨a, b⟩ := x
  have h1 : a.size ≤ maxLen := h.1
  have h2 : b.size ≤ maxLen := h.2
  have k1 : Tryd.prog.keyType 115 = true := by kernel_rfl
  have k2 : (prV (a, b)).formed Tryd.prog 115 = true := by kernel_rfl
  have k3 : Tryd.prog.keyLits (Tryd.prog.types.size + 1) 115 [.string a, .string b] = (((if a.size ≤ maxLen then some [Lit.string a.data.toList] else none) : Option (List Lit)).bind fun x => ((if b.size ≤ maxLen then some [Lit.string b.data.toList] else none) : Option (List Lit)).bind fun y => some [x, y]).map List.flatten := by kernel_rfl
  unfold keyOf
  rw [Tryd.underlying115]
  simp only [k1, k2, Bool.and_true, if_true]
  rw [show (prV (a, b)).cells.toList = [.string a, .string b] from rfl, k3, if_pos h1, if_pos h2]
  rfl
theorem track_keyed : Maps.Keyed Tryd.prog 115 := Maps.Keyed.of_law (deep_law_laid (by kernel_rfl) (m := 2) (by omega) (of_decide_eq_true (by kernel_rfl)) (by kernel_rfl) (by rw [Tryd.underlying115]))
/-- The program's keys. -/
def KT : KeyK Tryd.prog 115 Pr := ⟨prOk, prV, prL, track_keyed, track_of, prV_inj⟩
theorem arr2_of (x : Pr) (h : prOk x) : keyOf Tryd.prog 106 (prV x) = some (prL x) := by
  obtain ⟨a, b⟩ := x
  have h1 : a.size ≤ maxLen := h.1
  have h2 : b.size ≤ maxLen := h.2
  have k1 : Tryd.prog.keyType 106 = true := by kernel_rfl
  have k2 : (prV (a, b)).formed Tryd.prog 106 = true := by kernel_rfl
  have k3 : Tryd.prog.keyLits (Tryd.prog.types.size + 1) 106 [.string a, .string b] = (((if a.size ≤ maxLen then some [Lit.string a.data.toList] else none) : Option (List Lit)).bind fun x => ((if b.size ≤ maxLen then some [Lit.string b.data.toList] else none) : Option (List Lit)).bind fun y => some [x, y]).map List.flatten := by kernel_rfl
  unfold keyOf
  rw [Tryd.underlying106]
  simp only [k1, k2, Bool.and_true, if_true]
  rw [show (prV (a, b)).cells.toList = [.string a, .string b] from rfl, k3, if_pos h1, if_pos h2]
  rfl
theorem arr2_keyed : Maps.Keyed Tryd.prog 106 := Maps.Keyed.of_law (deep_law_laid (by kernel_rfl) (m := 2) (by omega) (of_decide_eq_true (by kernel_rfl)) (by kernel_rfl) (by rw [Tryd.underlying106]))
/-- The reference's keys. -/
def KA : KeyK Tryd.prog 106 Pr := ⟨prOk, prV, prL, arr2_keyed, arr2_of, prV_inj⟩
end Go.Proofs.YtamoefnpfkcigaaDoor

/- Doubles: toll.areDoubles, toll.Doubles, the reference's DoublesOf. Written by gendbl.py. -/
namespace Go.Proofs.YtamoefnpfkcigaaDoor
open Go.RowKit

theorem OwnX.apt {α : Type} {T T' : TypeId} {z g base : Nat} {c : α → Array Value} {w : World} {v : Value} {l : List α} {cs : Array Value} (h : OwnX T z c w base v l) (hB : Bk w g T' cs) (hT : T ≠ T') : some g ≠ v.ownBlock := by
  rcases h.2 with ⟨rfl, _⟩ | ⟨g', cap, cur, rfl, _, hg, _⟩
  · simp [Value.ownBlock]
  · intro e
    simp only [Value.ownBlock, Option.map_some, Option.some.injEq] at e
    subst e
    have h2 := hB.symm.trans hg
    simp only [Option.some.injEq, Obj.cells.injEq] at h2
    exact hT h2.2.1.symm
abbrev FI := Pr → Option Int
def isD (d : Int) (f : FI) (p : Pa) : Bool := match f (p.2.1, p.2.2.1) with | some t => decide (p.1 - t < d) | none => false
def putI (f : FI) (k : Pr) (n : Int) : FI := fun t => if t = k then some n else f t
def stp (d : Int) (s : FI × List Bool) (p : Pa) : FI × List Bool := if isD d s.1 p = true then (s.1, s.2 ++ [true]) else (putI s.1 (p.2.1, p.2.2.1) p.1, s.2 ++ [false])
def st (d : Int) (l : List Pa) : FI × List Bool := l.foldl (stp d) (fun _ => none, [])
def dbB (d : Int) (l : List Pa) : List Bool := (st d l).2
def sv2 (f : FI) : FnK Pr := fun k => (f k).map (fun n => .int .i64 n)
theorem st_take (d : Int) {l : List Pa} {k : Nat} {p : Pa} (h : l[k]? = some p) : st d (l.take (k + 1)) = stp d (st d (l.take k)) p := by
  unfold st
  rw [List.take_add_one, h, List.foldl_append]
  rfl
theorem st_len (d : Int) (l : List Pa) : (st d l).2.length = l.length := by
  have key : ∀ (r : List Pa) (s : FI × List Bool), (r.foldl (stp d) s).2.length = s.2.length + r.length := by
    intro r
    induction r with
    | nil => intro s; rfl
    | cons p r ih =>
      intro s
      rw [List.foldl_cons, ih, stp]
      split <;> simp <;> omega
  simpa [st] using key l (fun _ => none, [])
def BI (f : FI) : Prop := ∀ k t, f k = some t → 0 ≤ t ∧ t < 5761440
theorem st_bnd (d : Int) {l : List Pa} (h : ∀ p ∈ l, 0 ≤ p.1 ∧ p.1 < 5761440) : BI (st d l).1 := by
  have key : ∀ (r : List Pa) (s : FI × List Bool), (∀ p ∈ r, 0 ≤ p.1 ∧ p.1 < 5761440) → BI s.1 → BI (r.foldl (stp d) s).1 := by
    intro r
    induction r with
    | nil => intro s _ hs; exact hs
    | cons p r ih =>
      intro s hp hs
      rw [List.foldl_cons]
      refine ih _ (fun x hx => hp x (List.mem_cons_of_mem _ hx)) ?_
      unfold stp
      split
      · exact hs
      · intro k t ht
        simp only [putI] at ht
        split at ht
        · cases ht
          exact hp p (List.mem_cons_self ..)
        · exact hs k t ht
  exact key l _ h (fun k t ht => by cases ht)
theorem sv2_put (f : FI) (k : Pr) (n : Int) : fputK (sv2 f) k (.int .i64 n) = sv2 (putI f k n) := by
  funext t
  unfold fputK sv2 putI
  split <;> rfl
def dbK (d : Int) (l : List Pa) (k : Nat) : List Bool := (st d (l.take k)).2 ++ List.replicate (l.length - k) false
theorem dbK_0 (d : Int) (l : List Pa) : dbK d l 0 = List.replicate l.length false := by simp [dbK, st]
theorem dbK_all (d : Int) (l : List Pa) : dbK d l l.length = dbB d l := by simp [dbK, dbB]
theorem dbK_len (d : Int) {l : List Pa} {k : Nat} (hk : k ≤ l.length) : (dbK d l k).length = l.length := by
  rw [dbK, List.length_append, st_len, List.length_take, List.length_replicate]; omega
theorem dbK_t (d : Int) {l : List Pa} {k : Nat} {p : Pa} (h : l[k]? = some p) (hd : isD d (st d (l.take k)).1 p = true) : (dbK d l k).set k true = dbK d l (k + 1) := by
  have hk := (List.getElem?_eq_some_iff.1 h).1
  have hl : (st d (l.take k)).2.length = k := by rw [st_len, List.length_take]; omega
  unfold dbK
  rw [st_take d h, stp, if_pos hd, List.set_append_right _ _ (by omega), hl, Nat.sub_self, show l.length - k = (l.length - (k + 1)) + 1 by omega, List.replicate_succ, List.set_cons_zero, List.append_assoc]
  rfl
theorem dbK_f (d : Int) {l : List Pa} {k : Nat} {p : Pa} (h : l[k]? = some p) (hd : isD d (st d (l.take k)).1 p = false) : dbK d l k = dbK d l (k + 1) := by
  have hk := (List.getElem?_eq_some_iff.1 h).1
  unfold dbK
  rw [st_take d h, stp, if_neg (by simp [hd]), show l.length - k = (l.length - (k + 1)) + 1 by omega, List.replicate_succ, List.append_assoc]
  rfl
def bc (l : List Bool) : Array Value := (l.map Value.bool).toArray
theorem bc_set (l : List Bool) (k : Nat) (b : Bool) : (bc l).setIfInBounds k (.bool b) = bc (l.set k b) := by
  unfold bc
  apply Array.ext'
  simp [List.map_set]
theorem bc_at {l : List Bool} {k : Nat} {b : Bool} (h : l[k]? = some b) : (bc l)[k]? = some (.bool b) := by simp [bc, h]
theorem bkCells (n : Nat) : madeCells (Value.cells (.bool false)) n = bc (List.replicate n false) := by
  apply Array.ext
  · simp [madeCells, bc]
  · intro k h1 h2
    simp [madeCells, bc, Value.cells, Nat.mod_one]
theorem mkBools (n : Nat) (hn : n ≤ 1000) (w : World) : (Instr.makeSlice 97 (.int .i64 (n : Int)) (.int .i64 (n : Int))).run Tryd.prog w = .ok (.slice (some ⟨w.heap.size, 0, none⟩) n n) (w.alloc (.cells (bc (List.replicate n false)) 4)) := by
  obtain ⟨i0, hi, hz0, hz1, hz2⟩ := info_parts (show (Tryd.prog.info? 4).map (fun i => (i.zero, i.size, i.bytes)) = some (some (.bool false), 1, 1) by kernel_rfl)
  have h := run_make (P := Tryd.prog) w 97 4 i0 (.bool false) Tryd.underlying97 hi hz0 .i64 .i64 n n (by omega) (by omega) (by rw [hz2]; omega) (by omega)
  rw [h, hz1, Int.toNat_natCast, Nat.mul_one, bkCells]
theorem tk_info (x : Pr) : (Tryd.prog.info? 115).map (·.size) = some (#[.string x.1, .string x.2] : Array Value).size := (by kernel_rfl : (Tryd.prog.info? 115).map (·.size) = some 2)
theorem a2_info (x : Pr) : (Tryd.prog.info? 106).map (·.size) = some (#[.string x.1, .string x.2] : Array Value).size := (by kernel_rfl : (Tryd.prog.info? 106).map (·.size) = some 2)
theorem zi_run2 (w : World) : (zeroValue 3).run Tryd.prog w = .ok (.int .i64 0) w := by kernel_rfl
def numL (k : Nat) : List Bool → List Int
  | [] => []
  | b :: r => if b = true then (k : Int) :: numL (k + 1) r else numL (k + 1) r
theorem numL_snoc (k : Nat) (l : List Bool) (b : Bool) : numL k (l ++ [b]) = if b = true then numL k l ++ [((k + l.length : Nat) : Int)] else numL k l := by
  induction l generalizing k with
  | nil => cases b <;> simp [numL]
  | cons a r ih =>
    rw [List.cons_append, numL, ih, numL]
    have e : k + 1 + r.length = k + (a :: r).length := by simp; omega
    rw [e]
    cases a <;> cases b <;> simp
theorem numL_len (k : Nat) (l : List Bool) : (numL k l).length ≤ l.length := by
  induction l generalizing k with
  | nil => simp [numL]
  | cons a r ih =>
    rw [numL]
    have := ih (k + 1)
    split <;> simp <;> omega
def DbRel (w : World) (d : Int) (rc : Array Value) (l : List Pa) (gR gM gD : Nat) (i : Value) (wr : World) : Prop :=
  ∃ k c : Nat, k ≤ l.length ∧ i = .int .i64 k ∧ c ≤ k ∧ OwnK KT wr gM c (sv2 (st d (l.take k)).1) ∧ Bk wr gD 4 (bc (dbK d l k)) ∧ Bk wr gR 51 rc ∧ G w wr none
set_option maxRecDepth 100000 in
set_option maxHeartbeats 8000000 in
theorem areDoubles_c (x : Tr) (v : Value) (l : List Pa) (w : World) (hr : RdR w 4 paC v l) (hl : PaOk l) (hb : ∀ p ∈ l, 0 ≤ p.1 ∧ p.1 < 5761440) (hn : l.length ≤ 1000) :
    Calls Tryd.prog 54 #[.agg (trC x), v] w fun e w' => ∃ g : Nat, e = .returned (.slice (some ⟨g, 0, none⟩) l.length l.length) ∧ Bk w' g 4 (bc (dbB x.1 l)) ∧ G w w' none := by
  have HR := Lib.hid hr
  obtain ⟨a, cap, rfl, hcap, hm⟩ := RdR.form hr
  clear hr
  obtain ⟨d, q, f⟩ := x
  dsimp only
  have HPB := Lib.hid hb
  clear hb
  show Calls Tryd.prog 54 #[.agg #[.int .i64 d, .int .i64 q, .int .i64 f], .slice a l.length cap] w _
  have hB : Bk (w.alloc (.cells #[.int .i64 d, .int .i64 q, .int .i64 f] 51)) w.heap.size 51 #[.int .i64 d, .int .i64 q, .int .i64 f] := Bk.new _ _ _
  have hG := (G.refl w none).alloc (.cells #[.int .i64 d, .int .i64 q, .int .i64 f] 51)
  go_enter Tryd.func54, Tryd.ntmps54
  go_upto_region 1 with fail
  generalize w.alloc (.cells #[.int .i64 d, .int .i64 q, .int .i64 f] 51) = w1 at hB hG ⊢
  have hmm : ∀ (w : World), (Instr.makeMap 113 none).run Tryd.prog w = .ok (.map (some w.heap.size)) (w.alloc (.map #[] 0)) := fun _ => rfl
  have hM : OwnK KT (w1.alloc (.map #[] 0)) w1.heap.size 0 (fun _ => none) := OwnK.made w1 KT rfl
  have hB2 := hB.alloc (.map #[] 0)
  have hG2 := hG.alloc (.map #[] 0)
  have hgM := hG.size
  have hne0 : w.heap.size < w1.heap.size := hB.lt
  clear hB hG
  go_upto_region 2 with fail
  generalize w1.alloc (.map #[] 0) = w2 at hM hB2 hG2 ⊢
  generalize w1.heap.size = gM at hM hgM hne0 ⊢
  clear hmm
  have hmk := fun w => mkBools l.length hn w
  have hD : Bk (w2.alloc (.cells (bc (List.replicate l.length false)) 4)) w2.heap.size 4 (bc (List.replicate l.length false)) := Bk.new _ _ _
  have hM3 := hM.alloc (.cells (bc (List.replicate l.length false)) 4)
  have hB3 := hB2.alloc (.cells (bc (List.replicate l.length false)) 4)
  have hG3 := hG2.alloc (.cells (bc (List.replicate l.length false)) 4)
  have hgD := hG2.size
  have hne1 : gM < w2.heap.size := hM.lt
  have hne2 : w.heap.size < w2.heap.size := hB2.lt
  clear hM hB2 hG2
  go_upto_region 3 with fail
  generalize w2.alloc (.cells (bc (List.replicate l.length false)) 4) = w3 at hD hM3 hB3 hG3 ⊢
  generalize w2.heap.size = gD at hD hgD hne1 hne2 ⊢
  clear hmk
  rw [← dbK_0 d l] at hD
  go_wp2_with fail
  go_loopw [18] (DbRel w d #[.int .i64 d, .int .i64 q, .int .i64 f] l w.heap.size gM gD) (fun i _ => l.length - (intOf i).toNat)
  case atStart => exact ⟨0, 0, by omega, rfl, by omega, hM3, hD, hB3, hG3⟩
  case round =>
    clear hD hM3 hB3 hG3
    obtain ⟨k, cn, hkl, rfl, hcn, hM, hD, hB, hG⟩ := hrel
    by_cases hk : k < l.length
    · obtain ⟨⟨t, gk, y, c⟩, hp⟩ : ∃ p, l[k]? = some p := ⟨_, List.getElem?_eq_getElem hk⟩
      have hpm := List.mem_of_getElem? hp
      obtain ⟨t0b, t1b⟩ := HPB.out _ hpm
      obtain ⟨hs1, hs2⟩ := hl _ hpm
      dsimp only at hs1 hs2 t0b t1b
      unfold Small at hs1 hs2
      have HOK : Hid (KT.ok (gk, y)) := Lib.hid ⟨hs1, hs2⟩
      obtain ⟨bb, bo, rfl, hbb, _⟩ := RdR.elem paC_sz HR.out hG hp
      have HW := Lib.hid (paRow HR.out hG hp)
      have HST := Lib.hid (st_take d hp)
      have HBI := Lib.hid (st_bnd d (l := l.take k) (fun x hx => HPB.out x (List.mem_of_mem_take hx)))
      have hlk : (st d (l.take k)).2.length = k := by rw [st_len, List.length_take]; omega
      have HLK := Lib.hid hlk
      have HDT := Lib.hid (fun e => dbK_t d hp e)
      have HDF := Lib.hid (fun e => dbK_f d hp e)
      have hdl : (dbK d l k).length = l.length := dbK_len d (by omega)
      obtain ⟨bq, hbq⟩ : ∃ bq, (dbK d l k)[k]? = some bq := ⟨_, List.getElem?_eq_getElem (by omega)⟩
      have HDQ := Lib.hid (bc_at hbq)
      clear hbq hdl
      have HK := Lib.hid hk
      clear hlk
      have hB5 : Bk (wr.alloc (.cells #[.int .i64 t, .string gk, .string y, .int .i64 c] 90)) wr.heap.size 90 #[.int .i64 t, .string gk, .string y, .int .i64 c] := Bk.new wr 90 _
      have hG5 : G w (wr.alloc (.cells #[.int .i64 t, .string gk, .string y, .int .i64 c] 90)) none := hG.alloc (.cells (paC (t, gk, y, c)) 90)
      have hM5 := hM.alloc (.cells #[.int .i64 t, .string gk, .string y, .int .i64 c] 90)
      have hBR5 := hB.alloc (.cells #[.int .i64 t, .string gk, .string y, .int .i64 c] 90)
      have hD5 := hD.alloc (.cells #[.int .i64 t, .string gk, .string y, .int .i64 c] 90)
      have hgl := hM.lt
      have hwl := hB.lt
      have hdl := hD.lt
      clear hp hG hM hpm hB hD
      go_upto_region 6 with (refine wpList_load_at rfl 90 _ rfl ⟨bb, bo + k * 4, none⟩ rfl #[.int .i64 t, .string gk, .string y, .int .i64 c] _ HW.out Tryd.underlying90 rfl (pa_info (t, gk, y, c)) ?_)
      clear HW
      generalize wr.alloc (.cells #[.int .i64 t, .string gk, .string y, .int .i64 c] 90) = w5 at hB5 hG5 hM5 hBR5 hD5 ⊢
      generalize wr.heap.size = g5 at hB5 hgl hwl hdl ⊢
      have c1 : w5.cell? ⟨g5, 1, none⟩ = some (.string gk) := hB5.cell 1
      have c2 : w5.cell? ⟨g5, 2, none⟩ = some (.string y) := hB5.cell 2
      have hK6 : Bk (w5.alloc (.cells #[.string gk, .string y] 115)) w5.heap.size 115 #[.string gk, .string y] := Bk.new _ _ _
      have hB6 := hB5.alloc (.cells #[.string gk, .string y] 115)
      have hG6 := hG5.alloc (.cells #[.string gk, .string y] 115)
      have hM6 := hM5.alloc (.cells #[.string gk, .string y] 115)
      have hBR6 := hBR5.alloc (.cells #[.string gk, .string y] 115)
      have hD6 := hD5.alloc (.cells #[.string gk, .string y] 115)
      have hgl6 : gM < w5.heap.size := hM5.lt
      have hdl6 : gD < w5.heap.size := hD5.lt
      go_upto_region 7 with fail
      clear c1 c2 hB5 hG5 hM5 hBR5 hD5
      generalize w5.alloc (.cells #[.string gk, .string y] 115) = w6 at hK6 hB6 hG6 hM6 hBR6 hD6 ⊢
      generalize w5.heap.size = g6 at hK6 hgl6 hdl6 ⊢
      have c0 : w6.cell? ⟨g5, 0, none⟩ = some (.int .i64 t) := hB6.cell 0
      have r0 : w6.cell? ⟨w.heap.size, 0, none⟩ = some (.int .i64 d) := hBR6.cell 0
      have b0 : w6.cell? ⟨gD, k, none⟩ = some (.bool bq) := (hD6.cell k).trans HDQ.out
      have b1 : w6.frozen? ⟨gD, k, none⟩ = false := hD6.free k
      have hclt : cn < maxLen := by unfold maxLen; omega
      obtain ⟨S, hS⟩ : ∃ S, st d (l.take k) = S := ⟨_, rfl⟩
      rw [hS] at HST HBI HLK hM6 HDT HDF
      clear hS
      obtain ⟨F, acc⟩ := S
      dsimp only at HST HBI HLK hM6 HDT HDF
      have HPUT := Lib.hid (fun n : Int => sv2_put F (gk, y) n)
      have hFk : sv2 F (gk, y) = (F (gk, y)).map (fun n => .int .i64 n) := rfl
      cases hf : F (gk, y) with
      | none =>
        have hfs : sv2 F (gk, y) = none := by rw [hFk, hf]; rfl
        have HD0 : Hid (isD d F (t, gk, y, c) = false) := Lib.hid (by unfold isD; dsimp only; rw [hf])
        clear hFk hf
        go_wp2_with (first | (refine wpList_load_row rfl 115 _ rfl g6 rfl 115 #[.string gk, .string y] (0, 0) _ hK6 Tryd.underlying115 rfl (tk_info (gk, y)) ?_) | (at_lookup; refine wpK_look_ok (KK := KT) rfl _ _ 113 rfl 3 Tryd.underlying113 (.int .i64 0) (zi_run2 _) gM cn (sv2 F) rfl hM6 (gk, y) rfl HOK.out ?_; rw [hfs]) | (at_mapUpdate; refine wpK_store (KK := KT) rfl _ _ _ 113 rfl 3 Tryd.underlying113 gM cn (sv2 F) rfl hM6 hclt (gk, y) rfl HOK.out (.int .i64 t) rfl ?_; intro w7 hM7 hG7))
        rw [HPUT.out] at hM7
        have hcp : cputK cn (sv2 F) (gk, y) ≤ k + 1 := by unfold cputK; split <;> omega
        refine ⟨⟨k + 1, _, by have := HK.out; omega, by go_num, hcp, ?_, ?_, hBR6.grown hG7 (by intro e; have := Option.some.inj e; omega), ?_⟩, by have := HK.out; simp only [intOf]; omega⟩
        · rw [HST.out, stp, if_neg (by simp [HD0.out])]; exact hM7
        · rw [← HDF.out HD0.out]; exact hD6.grown hG7 (by intro e; have := Option.some.inj e; omega)
        · exact hG6.other hG7 (fun j e => .inl (by obtain rfl := Option.some.inj e; omega))
      | some t2 =>
        have hfs : sv2 F (gk, y) = some (.int .i64 t2) := by rw [hFk, hf]; rfl
        have htb := HBI.out _ _ hf
        obtain ⟨u0, u1⟩ := htb
        have hw : IntKind.i64.wrap (t - t2) = t - t2 := by rw [IntKind.wrap_i64]; omega
        by_cases hdd : t - t2 < d
        · have HD1 : Hid (isD d F (t, gk, y, c) = true) := Lib.hid (by unfold isD; dsimp only; rw [hf]; exact decide_eq_true hdd)
          clear hFk hf
          go_wp2_with (first | (refine wpList_load_row rfl 115 _ rfl g6 rfl 115 #[.string gk, .string y] (0, 0) _ hK6 Tryd.underlying115 rfl (tk_info (gk, y)) ?_) | (at_lookup; refine wpK_look_ok (KK := KT) rfl _ _ 113 rfl 3 Tryd.underlying113 (.int .i64 0) (zi_run2 _) gM cn (sv2 F) rfl hM6 (gk, y) rfl HOK.out ?_; rw [hfs]))
          go_roundw
          case rel => exact ⟨k + 1, cn, (by have := HK.out; omega), by go_num, by omega, (by rw [HST.out, stp, if_pos HD1.out]; exact hM6.setCell (by show gM ≠ gD; omega) _), (by rw [← HDT.out HD1.out, ← bc_set]; exact hD6.set k _), hBR6.far (by show w.heap.size ≠ gD; omega) _, hG6.setCell (.inl (by show w.heap.size ≤ gD; omega)) _⟩
          case measure => have := HK.out; simp [intOf]; omega
        · have HD0 : Hid (isD d F (t, gk, y, c) = false) := Lib.hid (by unfold isD; dsimp only; rw [hf]; exact decide_eq_false hdd)
          clear hFk hf
          go_wp2_with (first | (refine wpList_load_row rfl 115 _ rfl g6 rfl 115 #[.string gk, .string y] (0, 0) _ hK6 Tryd.underlying115 rfl (tk_info (gk, y)) ?_) | (at_lookup; refine wpK_look_ok (KK := KT) rfl _ _ 113 rfl 3 Tryd.underlying113 (.int .i64 0) (zi_run2 _) gM cn (sv2 F) rfl hM6 (gk, y) rfl HOK.out ?_; rw [hfs]) | (at_mapUpdate; refine wpK_store (KK := KT) rfl _ _ _ 113 rfl 3 Tryd.underlying113 gM cn (sv2 F) rfl hM6 hclt (gk, y) rfl HOK.out (.int .i64 t) rfl ?_; intro w7 hM7 hG7))
          rw [HPUT.out] at hM7
          have hcp : cputK cn (sv2 F) (gk, y) ≤ k + 1 := by unfold cputK; split <;> omega
          refine ⟨⟨k + 1, _, by have := HK.out; omega, by go_num, hcp, ?_, ?_, hBR6.grown hG7 (by intro e; have := Option.some.inj e; omega), ?_⟩, by have := HK.out; simp only [intOf]; omega⟩
          · rw [HST.out, stp, if_neg (by simp [HD0.out])]; exact hM7
          · rw [← HDF.out HD0.out]; exact hD6.grown hG7 (by intro e; have := Option.some.inj e; omega)
          · exact hG6.other hG7 (fun j e => .inl (by obtain rfl := Option.some.inj e; omega))
    · obtain rfl : k = l.length := by omega
      rw [dbK_all] at hD
      go_wp2_with fail
      go_ret
      exact ⟨gD, rfl, hD, hG⟩
def DrRel (w : World) (d : Int) (rc : Array Value) (l : List Pa) (gR gM base : Nat) (s6 i : Value) (wr : World) : Prop :=
  ∃ k c : Nat, k ≤ l.length ∧ i = .int .i64 k ∧ c ≤ k ∧ OwnK KA wr gM c (sv2 (st d (l.take k)).1) ∧ OwnIn wr base s6 (numL 0 (st d (l.take k)).2) ∧ Bk wr gR 51 rc ∧ G w wr none
theorem ownK_ne {w : World} {g c base : Nat} {f : FnK Pr} {v : Value} {l : List Int} (h : OwnK KA w g c f) (ho : OwnIn w base v l) : some g ≠ v.ownBlock := by
  rcases ho.2 with ⟨rfl, _⟩ | ⟨g', cap, cur, rfl, _, hg, _⟩
  · simp [Value.ownBlock]
  · intro e
    simp only [Value.ownBlock, Option.map_some, Option.some.injEq] at e
    subst e
    obtain ⟨D, n, h, -⟩ := h
    obtain ⟨es, clock, hb, -⟩ := h
    have h2 := hb.symm.trans hg
    cases h2
set_option maxRecDepth 100000 in
set_option maxHeartbeats 8000000 in
theorem doublesOf_c (x : Tr) (v : Value) (l : List Pa) (w : World) (hr : RdR w 4 paC v l) (hl : PaOk l) (hb : ∀ p ∈ l, 0 ≤ p.1 ∧ p.1 < 5761440) (hn : l.length ≤ 1000) :
    Calls Tryd.prog 28 #[.agg (trC x), v] w fun e w' => ∃ v', e = .returned v' ∧ RdI w' v' (numL 0 (dbB x.1 l)) ∧ G w w' none := by
  have HR := Lib.hid hr
  obtain ⟨a, cap, rfl, hcap, hm⟩ := RdR.form hr
  clear hr
  obtain ⟨d, q, f⟩ := x
  dsimp only
  have HPB := Lib.hid hb
  clear hb
  show Calls Tryd.prog 28 #[.agg #[.int .i64 d, .int .i64 q, .int .i64 f], .slice a l.length cap] w _
  have hB : Bk (w.alloc (.cells #[.int .i64 d, .int .i64 q, .int .i64 f] 51)) w.heap.size 51 #[.int .i64 d, .int .i64 q, .int .i64 f] := Bk.new _ _ _
  have hG := (G.refl w none).alloc (.cells #[.int .i64 d, .int .i64 q, .int .i64 f] 51)
  go_enter Tryd.func28, Tryd.ntmps28
  go_upto_region 1 with fail
  generalize w.alloc (.cells #[.int .i64 d, .int .i64 q, .int .i64 f] 51) = w1 at hB hG ⊢
  have hmm : ∀ (w : World), (Instr.makeMap 105 none).run Tryd.prog w = .ok (.map (some w.heap.size)) (w.alloc (.map #[] 0)) := fun _ => rfl
  have hM : OwnK KA (w1.alloc (.map #[] 0)) w1.heap.size 0 (fun _ => none) := OwnK.made w1 KA rfl
  have hB2 := hB.alloc (.map #[] 0)
  have hG2 := hG.alloc (.map #[] 0)
  have hgM := hG.size
  have hne0 : w.heap.size < w1.heap.size := hB.lt
  clear hB hG
  go_upto_region 2 with fail
  generalize w1.alloc (.map #[] 0) = w2 at hM hB2 hG2 ⊢
  generalize w1.heap.size = gM at hM hgM hne0 ⊢
  clear hmm
  have hM3 := hM
  have hB3 := hB2
  have hG3 := hG2
  clear hM hB2 hG2
  go_wp2_with fail
  go_loopw [6, 15] (DrRel w d #[.int .i64 d, .int .i64 q, .int .i64 f] l w.heap.size gM w.heap.size) (fun _ i _ => l.length - (intOf i).toNat)
  case atStart => exact ⟨0, 0, by omega, rfl, by omega, hM3, World.ownsRow_nil _ _ _ _, hB3, hG3⟩
  case round =>
    clear hM3 hB3 hG3
    obtain ⟨k, cn, hkl, rfl, hcn, hM, hown, hB, hG⟩ := hrel
    by_cases hk : k < l.length
    · obtain ⟨⟨t, gk, y, c⟩, hp⟩ : ∃ p, l[k]? = some p := ⟨_, List.getElem?_eq_getElem hk⟩
      have hpm := List.mem_of_getElem? hp
      obtain ⟨t0b, t1b⟩ := HPB.out _ hpm
      obtain ⟨hs1, hs2⟩ := hl _ hpm
      dsimp only at hs1 hs2 t0b t1b
      unfold Small at hs1 hs2
      have HOK : Hid (KA.ok (gk, y)) := Lib.hid ⟨hs1, hs2⟩
      obtain ⟨bb, bo, rfl, hbb, _⟩ := RdR.elem paC_sz HR.out hG hp
      have HW := Lib.hid (paRow HR.out hG hp)
      have HST := Lib.hid (st_take d hp)
      have HBI := Lib.hid (st_bnd d (l := l.take k) (fun x hx => HPB.out x (List.mem_of_mem_take hx)))
      have hlk : (st d (l.take k)).2.length = k := by rw [st_len, List.length_take]; omega
      have HLK := Lib.hid hlk
      have HK := Lib.hid hk
      clear hlk
      have hB5 : Bk (wr.alloc (.cells #[.int .i64 t, .string gk, .string y, .int .i64 c] 90)) wr.heap.size 90 #[.int .i64 t, .string gk, .string y, .int .i64 c] := Bk.new wr 90 _
      have hG5 : G w (wr.alloc (.cells #[.int .i64 t, .string gk, .string y, .int .i64 c] 90)) none := hG.alloc (.cells (paC (t, gk, y, c)) 90)
      have hM5 := hM.alloc (.cells #[.int .i64 t, .string gk, .string y, .int .i64 c] 90)
      have hBR5 := hB.alloc (.cells #[.int .i64 t, .string gk, .string y, .int .i64 c] 90)
      have hown5 := OwnX.alloc hown (.cells #[.int .i64 t, .string gk, .string y, .int .i64 c] 90)
      have hgl := hM.lt
      have hwl := hB.lt
      clear hp hG hM hpm hB hown
      go_upto_region 6 with (refine wpList_load_at rfl 90 _ rfl ⟨bb, bo + k * 4, none⟩ rfl #[.int .i64 t, .string gk, .string y, .int .i64 c] _ HW.out Tryd.underlying90 rfl (pa_info (t, gk, y, c)) ?_)
      clear HW
      generalize wr.alloc (.cells #[.int .i64 t, .string gk, .string y, .int .i64 c] 90) = w5 at hB5 hG5 hM5 hBR5 hown5 ⊢
      generalize wr.heap.size = g5 at hB5 hgl hwl ⊢
      have c1 : w5.cell? ⟨g5, 1, none⟩ = some (.string gk) := hB5.cell 1
      have c2 : w5.cell? ⟨g5, 2, none⟩ = some (.string y) := hB5.cell 2
      have hK6 : Bk (w5.alloc (.cells #[.string gk, .string y] 106)) w5.heap.size 106 #[.string gk, .string y] := Bk.new _ _ _
      have hB6 := hB5.alloc (.cells #[.string gk, .string y] 106)
      have hG6 := hG5.alloc (.cells #[.string gk, .string y] 106)
      have hM6 := hM5.alloc (.cells #[.string gk, .string y] 106)
      have hBR6 := hBR5.alloc (.cells #[.string gk, .string y] 106)
      have hown6 := OwnX.alloc hown5 (.cells #[.string gk, .string y] 106)
      have hgl6 : gM < w5.heap.size := hM5.lt
      go_upto_region 7 with fail
      clear c1 c2 hB5 hG5 hM5 hBR5 hown5
      generalize w5.alloc (.cells #[.string gk, .string y] 106) = w6 at hK6 hB6 hG6 hM6 hBR6 hown6 ⊢
      generalize w5.heap.size = g6 at hK6 hgl6 ⊢
      have c0 : w6.cell? ⟨g5, 0, none⟩ = some (.int .i64 t) := hB6.cell 0
      have r0 : w6.cell? ⟨w.heap.size, 0, none⟩ = some (.int .i64 d) := hBR6.cell 0
      have hclt : cn < maxLen := by unfold maxLen; omega
      obtain ⟨S, hS⟩ : ∃ S, st d (l.take k) = S := ⟨_, rfl⟩
      rw [hS] at HST HBI HLK hM6 hown6
      clear hS
      obtain ⟨F, acc⟩ := S
      dsimp only at HST HBI HLK hM6 hown6
      have HPUT := Lib.hid (fun n : Int => sv2_put F (gk, y) n)
      have hFk : sv2 F (gk, y) = (F (gk, y)).map (fun n => .int .i64 n) := rfl
      cases hf : F (gk, y) with
      | none =>
        have hfs : sv2 F (gk, y) = none := by rw [hFk, hf]; rfl
        have HD0 : Hid (isD d F (t, gk, y, c) = false) := Lib.hid (by unfold isD; dsimp only; rw [hf])
        clear hFk hf
        go_wp2_with (first | (refine wpList_load_row rfl 106 _ rfl g6 rfl 106 #[.string gk, .string y] (0, 0) _ hK6 Tryd.underlying106 rfl (a2_info (gk, y)) ?_) | (at_lookup; refine wpK_look_ok (KK := KA) rfl _ _ 105 rfl 3 Tryd.underlying105 (.int .i64 0) (zi_run2 _) gM cn (sv2 F) rfl hM6 (gk, y) rfl HOK.out ?_; rw [hfs]) | (at_mapUpdate; refine wpK_store (KK := KA) rfl _ _ _ 105 rfl 3 Tryd.underlying105 gM cn (sv2 F) rfl hM6 hclt (gk, y) rfl HOK.out (.int .i64 t) rfl ?_; intro w7 hM7 hG7))
        rw [HPUT.out] at hM7
        have hcp : cputK cn (sv2 F) (gk, y) ≤ k + 1 := by unfold cputK; split <;> omega
        refine ⟨⟨k + 1, _, by have := HK.out; omega, by go_num, hcp, ?_, ?_, hBR6.grown hG7 (by intro e; have := Option.some.inj e; omega), ?_⟩, by have := HK.out; simp only [intOf]; omega⟩
        · rw [HST.out, stp, if_neg (by simp [HD0.out])]; exact hM7
        · rw [HST.out, stp, if_neg (by simp [HD0.out]), numL_snoc, if_neg (by simp)]; exact World.ownsRow.kept hown6 hG7 (by have h9 := ownK_ne hM6 hown6; exact .inr (fun e => h9 e.symm))
        · exact hG6.other hG7 (fun j e => .inl (by obtain rfl := Option.some.inj e; omega))
      | some t2 =>
        have hfs : sv2 F (gk, y) = some (.int .i64 t2) := by rw [hFk, hf]; rfl
        have htb := HBI.out _ _ hf
        obtain ⟨u0, u1⟩ := htb
        have hw : IntKind.i64.wrap (t - t2) = t - t2 := by rw [IntKind.wrap_i64]; omega
        by_cases hdd : t - t2 < d
        · have HD1 : Hid (isD d F (t, gk, y, c) = true) := Lib.hid (by unfold isD; dsimp only; rw [hf]; exact decide_eq_true hdd)
          clear hFk hf
          have hownA := OwnX.alloc hown6 (.cells #[.int .i64 (k : Int)] 3)
          have hsz := hG6.size
          have hob := OwnX.low hown6
          have hnl := numL_len 0 acc
          have hkk : acc.length ≤ 1000 := by have := HLK.out; omega
          go_wp2_with (first | (refine wpList_load_row rfl 106 _ rfl g6 rfl 106 #[.string gk, .string y] (0, 0) _ hK6 Tryd.underlying106 rfl (a2_info (gk, y)) ?_) | (at_lookup; refine wpK_look_ok (KK := KA) rfl _ _ 105 rfl 3 Tryd.underlying105 (.int .i64 0) (zi_run2 _) gM cn (sv2 F) rfl hM6 (gk, y) rfl HOK.out ?_; rw [hfs]) | (at_builtin; refine wpList_plain rfl fun K' hK' => wp_append_x in_rowOk _ _ rfl w.heap.size u6 (numL 0 acc) rfl hownA w6.heap.size (k : Int) rfl (Bk.new w6 _ _) (by omega) (by simp; omega) ?_; intro v8 w8 hown8 hgrow; refine hK' _ _ ?_))
          go_roundw
          case rel => exact ⟨k + 1, cn, (by have := HK.out; omega), by go_num, by omega, (by rw [HST.out, stp, if_pos HD1.out]; exact (hM6.alloc _).grown hgrow (ownK_ne (hM6.alloc _) hownA)), (by rw [HST.out, stp, if_pos HD1.out, numL_snoc, if_pos rfl, HLK.out, Nat.zero_add]; exact hown8), (hBR6.alloc _).grown hgrow (OwnX.apt hownA (hBR6.alloc _) (by decide)), (hG6.alloc _).other hgrow (fun r e => .inl (hob r e))⟩
          case measure => have := HK.out; simp [intOf]; omega
        · have HD0 : Hid (isD d F (t, gk, y, c) = false) := Lib.hid (by unfold isD; dsimp only; rw [hf]; exact decide_eq_false hdd)
          clear hFk hf
          go_wp2_with (first | (refine wpList_load_row rfl 106 _ rfl g6 rfl 106 #[.string gk, .string y] (0, 0) _ hK6 Tryd.underlying106 rfl (a2_info (gk, y)) ?_) | (at_lookup; refine wpK_look_ok (KK := KA) rfl _ _ 105 rfl 3 Tryd.underlying105 (.int .i64 0) (zi_run2 _) gM cn (sv2 F) rfl hM6 (gk, y) rfl HOK.out ?_; rw [hfs]) | (at_mapUpdate; refine wpK_store (KK := KA) rfl _ _ _ 105 rfl 3 Tryd.underlying105 gM cn (sv2 F) rfl hM6 hclt (gk, y) rfl HOK.out (.int .i64 t) rfl ?_; intro w7 hM7 hG7))
          rw [HPUT.out] at hM7
          have hcp : cputK cn (sv2 F) (gk, y) ≤ k + 1 := by unfold cputK; split <;> omega
          refine ⟨⟨k + 1, _, by have := HK.out; omega, by go_num, hcp, ?_, ?_, hBR6.grown hG7 (by intro e; have := Option.some.inj e; omega), ?_⟩, by have := HK.out; simp only [intOf]; omega⟩
          · rw [HST.out, stp, if_neg (by simp [HD0.out])]; exact hM7
          · rw [HST.out, stp, if_neg (by simp [HD0.out]), numL_snoc, if_neg (by simp)]; exact World.ownsRow.kept hown6 hG7 (by have h9 := ownK_ne hM6 hown6; exact .inr (fun e => h9 e.symm))
          · exact hG6.other hG7 (fun j e => .inl (by obtain rfl := Option.some.inj e; omega))
    · obtain rfl : k = l.length := by omega
      rw [List.take_length] at hown
      go_wp2_with fail
      go_ret
      exact ⟨_, rfl, Rd.of_owns hown, hG⟩
end Go.Proofs.YtamoefnpfkcigaaDoor

/- toll.Doubles; the guard of stage 6 (tolled). Written by gendob.py. -/
namespace Go.Proofs.YtamoefnpfkcigaaDoor
open Go.RowKit

def dnR (x : Tr) (gs : List Ga) (l : List Pa) : List Int := if rdE x gs l = 0 then numL 0 (dbB x.1 l) else []
theorem rdE_pa {x : Tr} {gs : List Ga} {l : List Pa} (h : rdE x gs l = 0) : paE l = 0 := by
  unfold rdE at h
  split at h
  · unfold tcE at h
    split at h
    · split at h
      · assumption
      · exact h
    · rename_i h1
      exact absurd h h1
  · rename_i h1
    exact absurd h h1
theorem numL_take (l : List Bool) {k : Nat} {b : Bool} (h : l[k]? = some b) : numL 0 (l.take (k + 1)) = if b = true then numL 0 (l.take k) ++ [(k : Int)] else numL 0 (l.take k) := by
  have hk := (List.getElem?_eq_some_iff.1 h).1
  rw [List.take_add_one, h]
  show numL 0 (l.take k ++ [b]) = _
  rw [numL_snoc, List.length_take, Nat.min_eq_left (by omega), Nat.zero_add]
def DoRel (w : World) (bs : List Bool) (base g : Nat) (s9 i : Value) (wr : World) : Prop :=
  ∃ k : Nat, k ≤ bs.length ∧ i = .int .i64 k ∧ OwnIn wr base s9 (numL 0 (bs.take k)) ∧ Bk wr g 4 (bc bs) ∧ G w wr none
set_option maxRecDepth 100000 in
set_option maxHeartbeats 4000000 in
theorem doubles_c (x : Tr) (v v2 : Value) (gs : List Ga) (l : List Pa) (w : World) (hr : RdR w 3 gaC v gs) (hr2 : RdR w 4 paC v2 l) (hl : GaOk gs) (hl2 : PaOk l) (hn : gs.length ≤ 1000) (hn2 : l.length ≤ 1000000) :
    Calls Tryd.prog 22 #[v, .agg (trC x), v2] w fun e w' => ∃ v', e = .returned (.tuple #[v', .int .i64 (rdE x gs l)]) ∧ RdI w' v' (dnR x gs l) ∧ G w w' none := by
  obtain ⟨a, cap, rfl, hcap, hm⟩ := RdR.form hr
  obtain ⟨a2, cap2, rfl, hcap2, hm2⟩ := RdR.form hr2
  obtain ⟨E, hE⟩ : ∃ E, rdE x gs l = E := ⟨_, rfl⟩
  obtain ⟨XL, hXL⟩ : ∃ XL, dnR x gs l = XL := ⟨_, rfl⟩
  have HE := Lib.hid hE
  have HX : Hid (XL = if E = 0 then numL 0 (dbB x.1 l) else []) := Lib.hid (by rw [← hXL, ← hE]; rfl)
  rw [hE, hXL]
  clear hE hXL
  have CR := Lib.hid (fun w' (p : RdR w' 3 gaC (.slice a gs.length cap) gs) (p2 : RdR w' 4 paC (.slice a2 l.length cap2) l) => checkRuled_c x _ _ gs l w' p p2 hl hl2 hn hn2)
  have CA := Lib.hid (fun w' (p2 : RdR w' 4 paC (.slice a2 l.length cap2) l) hb hn => areDoubles_c x _ l w' p2 hl2 hb hn)
  obtain ⟨d, q, f⟩ := x
  show Calls Tryd.prog 22 #[.slice a gs.length cap, .agg #[.int .i64 d, .int .i64 q, .int .i64 f], .slice a2 l.length cap2] w _
  have hB : Bk (w.alloc (.cells #[.int .i64 d, .int .i64 q, .int .i64 f] 51)) w.heap.size 51 #[.int .i64 d, .int .i64 q, .int .i64 f] := Bk.new _ _ _
  have hG := (G.refl w none).alloc (.cells #[.int .i64 d, .int .i64 q, .int .i64 f] 51)
  go_enter Tryd.func22, Tryd.ntmps22
  go_upto_region 1 with fail
  generalize w.alloc (.cells #[.int .i64 d, .int .i64 q, .int .i64 f] 51) = w1 at hB hG ⊢
  generalize w.heap.size = g at hB ⊢
  go_wp2_with (refine wpList_load_row rfl 51 _ rfl g rfl 51 #[.int .i64 d, .int .i64 q, .int .i64 f] (0, 0) _ hB Tryd.underlying51 rfl (tr_info (d, q, f)) ?_)
  refine (CR.out _ (hr.quiet hG) (hr2.quiet hG)).mono ?_; rintro e w2 ⟨rfl, hh⟩
  rw [HE.out]
  replace hr2 := (hr2.quiet hG).quiet hh
  replace hB := hB.quiet hh
  replace hG := hG.trans hh
  clear hh hr CR
  by_cases e1 : E = 0
  · subst e1
    obtain ⟨hpb, hpl⟩ := paE_ok (rdE_pa HE.out)
    have HPB := Lib.hid hpb
    have HX1 : Hid (XL = numL 0 (dbB d l)) := Lib.hid (by rw [HX.out, if_pos rfl])
    clear hpb HX
    go_wp2_with (refine wpList_load_row rfl 51 _ rfl g rfl 51 #[.int .i64 d, .int .i64 q, .int .i64 f] (0, 0) _ hB Tryd.underlying51 rfl (tr_info (d, q, f)) ?_)
    refine (CA.out _ hr2 HPB.out hpl).mono ?_; rintro e w3 ⟨gB, rfl, hBB, hh⟩
    replace hG := hG.trans hh
    clear hh hB hr2 CA
    obtain ⟨bs, hbs⟩ : ∃ bs, dbB d l = bs := ⟨_, rfl⟩
    have hbl : bs.length = l.length := by rw [← hbs]; exact st_len d l
    rw [hbs] at hBB HX1
    clear hbs
    rw [← hbl]
    have hbl2 : bs.length ≤ 1000 := by omega
    clear hbl
    have hsz := hG.size
    go_wp2_with fail
    go_loopw [9, 23] (DoRel w3 bs w3.heap.size gB) (fun _ i _ => bs.length - (intOf i).toNat)
    case atStart => exact ⟨0, by omega, rfl, World.ownsRow_nil _ _ _ _, hBB, G.refl _ _⟩
    case round =>
      clear hBB
      obtain ⟨k, hk, rfl, hown, hBB, hGr⟩ := hrel
      by_cases hlt : k < bs.length
      · obtain ⟨b, hb⟩ : ∃ b, bs[k]? = some b := ⟨_, List.getElem?_eq_getElem hlt⟩
        have HT := Lib.hid (numL_take bs hb)
        have c0 : wr.cell? ⟨gB, k, none⟩ = some (.bool b) := (hBB.cell k).trans (bc_at hb)
        have HK := Lib.hid hlt
        have hkl : (k : Int) < (bs.length : Int) := by omega
        have hnl := numL_len 0 (bs.take k)
        have htk : (bs.take k).length ≤ 1000 := by rw [List.length_take]; omega
        clear hb
        cases b with
        | false =>
          have HN : Hid (numL 0 (bs.take (k + 1)) = numL 0 (bs.take k)) := Lib.hid (by rw [HT.out, if_neg (by simp)])
          go_wp2_with fail
          go_roundw
          case rel => exact ⟨k + 1, (by have := HK.out; omega), by go_num, (by rw [HN.out]; exact hown), hBB, hGr⟩
          case measure => have := HK.out; simp [intOf]; omega
        | true =>
          have HN : Hid (numL 0 (bs.take (k + 1)) = numL 0 (bs.take k) ++ [(k : Int)]) := Lib.hid (by rw [HT.out, if_pos rfl])
          have hownA := OwnX.alloc hown (.cells #[.int .i64 (k : Int)] 3)
          have hob := OwnX.low hown
          have hsr := hGr.size
          obtain ⟨NL, hNL⟩ : ∃ NL, numL 0 (bs.take k) = NL := ⟨_, rfl⟩
          rw [hNL] at hownA HN hnl
          clear hNL hown
          go_wp2_with (at_builtin; refine wpList_plain rfl fun K' hK' => wp_append_x in_rowOk _ _ rfl w3.heap.size u9 NL rfl hownA wr.heap.size (k : Int) rfl (Bk.new wr _ _) (by omega) (by simp; omega) ?_; intro v8 w8 hown8 hgrow; refine hK' _ _ ?_)
          go_roundw
          case rel => exact ⟨k + 1, (by have := HK.out; omega), by go_num, (by rw [HN.out]; exact hown8), (hBB.alloc _).grown hgrow (OwnX.apt hownA (hBB.alloc _) (by decide)), (hGr.alloc _).other hgrow (fun r e => .inl (hob r e))⟩
          case measure => have := HK.out; simp [intOf]; omega
      · obtain rfl : k = bs.length := by omega
        rw [List.take_length] at hown
        obtain rfl : XL = numL 0 bs := HX1.out
        go_wp2_with fail
        go_ret2
        exact ⟨_, rfl, Rd.of_owns hown, hG.trans hGr⟩
  · obtain rfl : XL = [] := by rw [HX.out, if_neg e1]
    have hb : (E != 0) = true := bne_iff_ne.2 e1
    clear e1 HX
    go_wp2_with fail
    go_ret2
    exact ⟨_, rfl, RdR.nil _ _ _, hG⟩
/-! ### tolled -/
def tG : List Ga := [(⟨#[103]⟩, ⟨#[97]⟩, 0)]
def tP : List Pa := [(1, ⟨#[103]⟩, ⟨#[65, 65]⟩, 0), (2, ⟨#[103]⟩, ⟨#[65, 65]⟩, 0)]
theorem tolled_at : rdE (5, 0, 0) tG tP = 0 ∧ numL 0 (dbB 5 tP) = [1] := by decide +kernel
theorem tG_ok : GaOk tG := fun x hx => by
  simp only [tG, List.mem_cons, List.mem_nil_iff, or_false] at hx
  subst hx
  exact ⟨small_of (s := ⟨#[103]⟩) (by decide), small_of (s := ⟨#[97]⟩) (by decide)⟩
theorem tP_ok : PaOk tP := fun x hx => by
  simp only [tP, List.mem_cons, List.mem_nil_iff, or_false] at hx
  rcases hx with rfl | rfl <;> exact ⟨small_of (s := ⟨#[103]⟩) (by decide), small_of (s := ⟨#[65, 65]⟩) (by decide)⟩
set_option maxRecDepth 100000 in
set_option maxHeartbeats 4000000 in
theorem tolled_c (w : World) : Calls Tryd.prog 27 #[] w fun e w' => e = .returned (.bool true) ∧ G w w' none := by
  have hP : RdR (w.alloc (.cells #[.int .i64 1, .string ⟨#[103]⟩, .string ⟨#[65, 65]⟩, .int .i64 0, .int .i64 2, .string ⟨#[103]⟩, .string ⟨#[65, 65]⟩, .int .i64 0] 90)) 4 paC (.slice (some ⟨w.heap.size, 0, none⟩) 2 2) tP := (Bk.new w 90 #[.int .i64 1, .string ⟨#[103]⟩, .string ⟨#[65, 65]⟩, .int .i64 0, .int .i64 2, .string ⟨#[103]⟩, .string ⟨#[65, 65]⟩, .int .i64 0]).rd 4 2 rfl (by omega)
  have hG1 := (G.refl w none).alloc (.cells #[.int .i64 1, .string ⟨#[103]⟩, .string ⟨#[65, 65]⟩, .int .i64 0, .int .i64 2, .string ⟨#[103]⟩, .string ⟨#[65, 65]⟩, .int .i64 0] 90)
  go_enter Tryd.func27, Tryd.ntmps27
  go_upto_region 2 with fail
  generalize w.alloc (.cells #[.int .i64 1, .string ⟨#[103]⟩, .string ⟨#[65, 65]⟩, .int .i64 0, .int .i64 2, .string ⟨#[103]⟩, .string ⟨#[65, 65]⟩, .int .i64 0] 90) = w1 at hP hG1 ⊢
  generalize w.heap.size = g at hP ⊢
  have hGt : RdR (w1.alloc (.cells #[.string ⟨#[103]⟩, .string ⟨#[97]⟩, .int .i64 0] 88)) 3 gaC (.slice (some ⟨w1.heap.size, 0, none⟩) 1 1) tG := (Bk.new w1 88 #[.string ⟨#[103]⟩, .string ⟨#[97]⟩, .int .i64 0]).rd 3 1 rfl (by omega)
  have hh := (G.refl w1 none).alloc (.cells #[.string ⟨#[103]⟩, .string ⟨#[97]⟩, .int .i64 0] 88)
  have hP2 := hP.quiet hh
  have hG2 := hG1.trans hh
  clear hP hG1 hh
  go_wp2_with fail
  generalize w1.alloc (.cells #[.string ⟨#[103]⟩, .string ⟨#[97]⟩, .int .i64 0] 88) = w2 at hGt hP2 hG2 ⊢
  refine (doubles_c (5, 0, 0) _ _ tG tP _ hGt hP2 tG_ok tP_ok (by decide) (by decide)).mono ?_; rintro e w3 ⟨v, rfl, hR, hh⟩
  have hG3 := hG2.trans hh
  unfold dnR at hR
  rw [if_pos tolled_at.1, tolled_at.2] at hR
  rw [tolled_at.1]
  clear hGt hP2 hG2 hh
  obtain ⟨a, c, rfl, -, -⟩ := RdR.form (c := inC) hR
  have hR2 := Rd.quiet hR ((G.refl w3 none).alloc (.cells #[.int .i64 1] 3))
  go_wp2_with fail
  refine (inEqual_c _ _ [1] _ hR2 (Rd.new (T := 3) #[.int .i64 1] rfl (by show 1 ≤ maxLen; decide)) (by simp)).mono ?_; rintro e w4 ⟨rfl, hh⟩
  go_wp2_with fail
  go_ret
  exact ⟨rfl, (hG3.alloc _).trans hh⟩
end Go.Proofs.YtamoefnpfkcigaaDoor
