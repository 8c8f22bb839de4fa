/- Exs, Chh, Str, Ovd, Cla, Gsh, Gwe, Odm, Spe, Spm, Spn, Mrk. -/
import Derived.Test.YtamoefnpfkcigaaDoorZa2
import Derived.Test.YtamoefnpfkcigaaDoorZa1
import Derived.Deep.QuietTactic
import Derived.BigQuiet
import Derived.Deep.CutRange
import Derived.Laws.EntriesVeiled
/- mark.Excess. -/
namespace Go.Proofs.YtamoefnpfkcigaaDoor
open Go.RowKit

theorem zi_run (w : World) : (zeroValue 3).run Tryd.prog w = .ok (.int .i64 0) w := by kernel_rfl
def exN (l : List Sh) (z : List Wv) : Int := if ssE l z = 0 then exR l z else 0
def ExmRel (w : World) (z : List Wv) (g : Nat) (i : Value) (wr : World) : Prop :=
  ∃ k : Nat, k ≤ z.length ∧ i = .int .i64 k ∧ MapOf wr g (moC 0 eF (z.take k)) (moF eF (z.take k)) ∧ G w wr none
def ExlRel (w : World) (l : List Sh) (z : List Wv) (g c : Nat) (f : Fn) (s12 s13 s45 : Value) (wr : World) : Prop :=
  ∃ k : Nat, k ≤ l.length ∧ s45 = .int .i64 k ∧ OwnSh wr w.heap.size s12 (exL (l.take k) z) ∧ s13 = .int .i64 (exR (l.take k) z) ∧ MapOf wr g c f ∧ G w wr none
theorem mapOf_ne {w : World} {g c base : Nat} {f : Fn} {v : Value} {l : List Sh} (h : MapOf w g c f) (ho : OwnSh w base v l) : some g ≠ v.ownBlock := by
  rcases ho.2 with ⟨rfl, _⟩ | ⟨g', cap, cur, rfl, _, hg, _⟩
  · simp [Value.ownBlock]
  · intro e
    simp only [Value.ownBlock, Option.map_some, Option.some.injEq] at e
    subst e
    obtain ⟨D, n, h, -⟩ := h
    obtain ⟨es, clock, hb, -⟩ := h
    have h2 := hb.symm.trans hg
    cases h2
set_option maxRecDepth 100000 in
set_option maxHeartbeats 8000000 in
theorem excess_c (v v2 : Value) (l : List Sh) (z : List Wv) (w : World) (hr : RdR w 2 shC v l) (hl : ShOk l) (hn : l.length ≤ 500) (hr2 : RdR w 2 wvC v2 z) (hl2 : WvOk z) (hn2 : z.length ≤ 500) :
    Calls Tryd.prog 13 #[v, v2] w fun e w' => ∃ v', e = .returned (.tuple #[v', .int .i64 (exN l z), .int .i64 (ssE l z)]) ∧ RdR w' 2 shC v' (if ssE l z = 0 then exL l z else []) ∧ G w w' none := by
  obtain ⟨a, cap, rfl, hcap, hm⟩ := RdR.form hr
  obtain ⟨a2, cap2, rfl, hcap2, hm2⟩ := RdR.form hr2
  have hmm : ∀ (n : Nat) (w : World), (Instr.makeMap 85 (some (.int .i64 (n : Int)))).run Tryd.prog w = .ok (.map (some w.heap.size)) (w.alloc (.map #[] 0)) := fun _ _ => rfl
  obtain ⟨SE, hSE⟩ : ∃ SE, ssE l z = SE := ⟨_, rfl⟩
  obtain ⟨XN, hXN⟩ : ∃ XN, exN l z = XN := ⟨_, rfl⟩
  obtain ⟨XL, hXL⟩ : ∃ XL, (if ssE l z = 0 then exL l z else []) = XL := ⟨_, rfl⟩
  have HSE := Lib.hid hSE
  have HXN := Lib.hid hXN
  have HXL := Lib.hid hXL
  rw [hXL, hXN, hSE]
  clear hSE hXN hXL
  go_enter Tryd.func13, Tryd.ntmps13
  go_wp2_with fail
  refine (checkShares_c _ l _ hr hl (by omega)).mono ?_; rintro e w1 ⟨rfl, hG1⟩
  replace hr := hr.quiet hG1
  replace hr2 := hr2.quiet hG1
  by_cases e1 : shE l = 0
  · have HSS : Hid (ssE l z = wvE z) := Lib.hid (by rw [ssE, if_pos e1])
    rw [e1]
    clear e1
    go_wp2_with fail
    refine (checkWaivers_c _ z _ hr2 hl2 (by omega)).mono ?_; rintro e w2 ⟨rfl, hG2⟩
    replace hr := hr.quiet hG2
    replace hr2 := hr2.quiet hG2
    have hG := hG1.trans hG2
    clear hG1 hG2
    by_cases e2 : wvE z = 0
    · have HS0 : Hid (ssE l z = 0) := Lib.hid (HSS.out.trans e2)
      have HMO := Lib.hid (ssE_mo HS0.out)
      have HRI := Lib.hid (ssE_rise HS0.out)
      have HN : Hid (exN l z = exR l z) := Lib.hid (by rw [exN, if_pos HS0.out])
      rw [e2]
      clear e2 HSS
      have HR := Lib.hid hr
      have HR2 := Lib.hid hr2
      clear hr hr2
      go_wp2_with fail
      go_loopw [33] (ExmRel w2 z w2.heap.size) (fun i _ => z.length - (intOf i).toNat)
      case atStart => exact ⟨0, by omega, rfl, OwnM.made _ _ _ rfl, (G.refl _ _).alloc _⟩
      case round =>
        obtain ⟨k, hk, rfl, hM, hGr⟩ := hrel
        by_cases hlt : k < z.length
        · obtain ⟨p, hp⟩ : ∃ p, z[k]? = some p := ⟨_, List.getElem?_eq_getElem hlt⟩
          have hs1 := hl2 p (List.mem_of_getElem? hp)
          unfold Small at hs1
          obtain ⟨bb, bo, rfl, -, -⟩ := RdR.elem wvC_sz HR2.out hGr hp
          have HW := Lib.hid (wvRow HR2.out hGr hp)
          have hcc := moC_le 0 eF (z.take k)
          have hct : (z.take k).length ≤ k := List.length_take_le _ _
          have HT : Hid (cput (moC 0 eF (z.take k)) (moF eF (z.take k)) p.1 = moC 0 eF (z.take (k + 1)) ∧ fput (moF eF (z.take k)) p.1 (.int .i64 p.2) = moF eF (z.take (k + 1))) := Lib.hid (by rw [take_sn hp, moC_snoc, moF_snoc]; exact ⟨rfl, rfl⟩)
          have hclt : moC 0 eF (z.take k) < maxLen := by unfold maxLen; omega
          have HK := Lib.hid hlt
          have hgl := hM.lt
          clear hp hcc hct
          go_wp2_with (first | (refine wpList_load_at rfl 82 _ rfl ⟨bb, bo + k * 2, none⟩ rfl #[.string p.1, .int .i64 p.2] _ HW.out Tryd.underlying82 rfl (wv_info p) ?_) | (at_mapUpdate; refine wpM_store rfl _ _ _ 85 rfl 9 3 Tryd.underlying9 Tryd.underlying85 w2.heap.size _ _ rfl (hM.alloc _) hclt p.1 rfl hs1 (.int .i64 p.2) rfl ?_; intro w3 hM3 hG3))
          rw [HT.out.1, HT.out.2] at hM3
          refine ⟨⟨k + 1, by omega, by go_num, hM3, ?_⟩, by simp only [intOf]; omega⟩
          exact (hGr.alloc _).other hG3 (fun j e => .inl (by obtain rfl := Option.some.inj e; exact Nat.le_refl _))
        · obtain rfl : k = z.length := by omega
          rw [List.take_length] at hM
          have hG0 := hG.trans hGr
          have HRb := Lib.hid (HR.out.quiet hGr)
          have hgl := hM.lt
          clear HR HR2 hG hGr
          obtain ⟨f, hf⟩ : ∃ f, moF eF z = f := ⟨_, rfl⟩
          obtain ⟨c, hc⟩ : ∃ c, moC 0 eF z = c := ⟨_, rfl⟩
          have HF := Lib.hid (fun s => (congrFun hf.symm s).trans (moF_at z s))
          rw [hf, hc] at hM
          clear hf hc
          generalize w2.heap.size = g at hM hgl ⊢
          generalize wr = w9 at hM hgl hG0 HRb ⊢
          go_wp2_with fail
          go_loopw [12, 13, 45] (ExlRel w9 l z g c f) (fun _ _ i _ => l.length - (intOf i).toNat)
          case atStart => exact ⟨0, by omega, rfl, World.ownsRow_nil _ _ _ _, rfl, hM, G.refl _ _⟩
          case round =>
            clear hM
            obtain ⟨k, hk, rfl, hown, rfl, hM, hGq⟩ := hrel
            by_cases hlt : k < l.length
            · obtain ⟨⟨s, n⟩, hp⟩ : ∃ p, l[k]? = some p := ⟨_, List.getElem?_eq_getElem hlt⟩
              obtain ⟨bb, bo, rfl, -, -⟩ := RdR.elem shC_sz HRb.out hGq hp
              have HW := Lib.hid (shRow HRb.out hGq hp)
              have hs1 := hl _ (List.mem_of_getElem? hp)
              unfold Small at hs1
              have HSN := Lib.hid (show 0 ≤ n ∧ n ≤ 1000000000 from HMO.out.1 _ (List.mem_of_getElem? hp))
              have HTK := Lib.hid (take_sn hp)
              have HB := Lib.hid (exR_bnd (l := l.take k) (fun x hx => HMO.out.1 x (List.mem_of_mem_take hx)) HMO.out.2)
              have HLT := Lib.hid (show (l.take k).length ≤ 500 by rw [List.length_take]; omega)
              have HXL := Lib.hid (exL_len (l.take k) z)
              have HSL := Lib.hid (exL_snoc (l.take k) z (s, n))
              have HSR := Lib.hid (exR_snoc (l.take k) z (s, n))
              have HPW := Lib.hid (payW_mo (s, n) z HRI.out)
              have HPB := Lib.hid (payW_bnd (s := (s, n)) HSN.out HMO.out.2)
              obtain ⟨R, hR⟩ : ∃ R, exR (l.take k) z = R := ⟨_, rfl⟩
              obtain ⟨X, hX⟩ : ∃ X, exL (l.take k) z = X := ⟨_, rfl⟩
              rw [hR] at HB HSR ⊢
              rw [hX] at HXL HSL hown
              have HK := Lib.hid hlt
              have hB5 : Bk (wr.alloc (.cells #[.string s, .int .i64 n] 46)) wr.heap.size 46 (shC (s, n)) := Bk.new wr 46 (shC (s, n))
              have hG5 : G w9 (wr.alloc (.cells #[.string s, .int .i64 n] 46)) none := hGq.alloc (.cells (shC (s, n)) 46)
              have hown5 : OwnSh (wr.alloc (.cells #[.string s, .int .i64 n] 46)) w9.heap.size u12 X := OwnX.alloc hown _
              have hM5 := hM.alloc (.cells #[.string s, .int .i64 n] 46)
              have hne : some wr.heap.size ≠ u12.ownBlock := OwnX.ne hown (.inr (Nat.le_refl _))
              have hgn : wr.heap.size ≠ g := by have := hM.lt; omega
              have hbn : w9.heap.size ≤ wr.heap.size := hGq.size
              clear hR hX hp hGq hown hM
              have hw1 : IntKind.i64.wrap (R + n) = R + n := by have := HSN.out; have := HB.out; have := HLT.out; rw [IntKind.wrap_i64]; omega
              by_cases h0 : s = ⟨#[]⟩
              · subst h0
                go_wp2_with (refine wpList_load_at rfl 46 _ rfl ⟨bb, bo + k * 2, none⟩ rfl #[.string ⟨#[]⟩, .int .i64 n] _ HW.out Tryd.underlying46 rfl (sh_info (⟨#[]⟩, n)) ?_)
                go_roundw
                case rel => exact ⟨k + 1, (by have := HK.out; omega), by go_num, (by rw [HTK.out, HSL.out, if_pos rfl]; exact hown5), (by rw [HTK.out, HSR.out, payS, if_pos rfl, Int.sub_zero]), hM5, hG5⟩
                case measure => have := HK.out; simp [intOf]; omega
              · have hze := isE_of (s := s) (by rcases Nat.eq_zero_or_pos s.size with q | q; exact absurd (empty_of q) h0; exact q)
                have HSR2 : Hid (exR (l.take k ++ [(s, n)]) z = R + (n - payW (s, n) z)) := Lib.hid (by rw [HSR.out, payS, if_neg h0])
                have HSL2 : Hid (exL (l.take k ++ [(s, n)]) z = X ++ [(s, payW (s, n) z)]) := Lib.hid (by rw [HSL.out, if_neg h0])
                obtain ⟨P, hP⟩ : ∃ P, payW (s, n) z = P := ⟨_, rfl⟩
                rw [hP] at HPW HPB HSR2 HSL2
                clear hP
                have hw2 : IntKind.i64.wrap (R + n - P) = R + (n - P) := by have := HSN.out; have := HPB.out; have := HB.out; have := HLT.out; rw [IntKind.wrap_i64]; omega
                have hlen : X.length ≤ 500 := by have := HXL.out; have := HLT.out; omega
                go_upto_region 18 with (refine wpList_load_at rfl 46 _ rfl ⟨bb, bo + k * 2, none⟩ rfl #[.string s, .int .i64 n] _ HW.out Tryd.underlying46 rfl (sh_info (s, n)) ?_)
                generalize wr.alloc (.cells #[.string s, .int .i64 n] 46) = w5 at hB5 hG5 hown5 hM5 ⊢
                generalize wr.heap.size = gb at hB5 hne hgn hbn ⊢
                have hob := OwnX.low hown5
                have c0 : w5.cell? ⟨gb, 0, none⟩ = some (.string s) := hB5.cell 0
                have c1 : w5.cell? ⟨gb, 1, none⟩ = some (.int .i64 n) := hB5.cell 1
                cases hms : moS z s with
                | none =>
                  have hfs : f s = none := by rw [HF.out s, hms]; rfl
                  obtain rfl : P = n := by rw [HPW.out, hms]
                  have hownA := OwnX.alloc hown5 (.cells #[.string s, .int .i64 P] 46)
                  have hsz := hG5.size
                  clear hms
                  go_wp2_with (first | (at_lookup; refine wpM_look_ok rfl _ _ 85 rfl 9 3 Tryd.underlying9 Tryd.underlying85 (.int .i64 0) (zi_run _) g c f rfl hM5 s rfl hs1 ?_; rw [hfs]) | (refine wpList_load_row rfl 46 _ rfl gb rfl 46 #[.string s, .int .i64 P] (0, 0) _ hB5 Tryd.underlying46 rfl (sh_info (s, P)) ?_) | (at_builtin; refine wpList_plain rfl fun K' hK' => wp_append_x sh_rowOk _ _ rfl w9.heap.size u12 X rfl hownA w5.heap.size (s, P) rfl (Bk.new w5 _ _) (by omega) (by simp; omega) ?_; intro v8 w8 hown8 hgrow; refine hK' _ _ ?_))
                  go_roundw
                  case rel => exact ⟨k + 1, (by have := HK.out; omega), by go_num, (by rw [HTK.out, HSL2.out]; exact hown8), (by rw [HTK.out, HSR2.out, Int.sub_self, Int.add_zero]; rw [IntWalk.wrap64_in R (by have := HB.out; have := HLT.out; omega)]), (hM5.alloc _).grown hgrow (mapOf_ne (hM5.alloc _) hownA), (hG5.alloc _).other hgrow (fun r e => .inl (hob r e))⟩
                  case measure => have := HK.out; simp [intOf]; omega
                | some u =>
                  have hfs : f s = some (.int .i64 u) := by rw [HF.out s, hms]; rfl
                  obtain rfl : P = min n u := by rw [HPW.out, hms]
                  have hf6 : w5.frozen? ⟨gb, 1, none⟩ = false := hB5.free 1
                  have hB6 : Bk (w5.setCell ⟨gb, 1, none⟩ (.int .i64 (min n u))) gb 46 (shC (s, min n u)) := hB5.set 1 _
                  have hown6 : OwnSh (w5.setCell ⟨gb, 1, none⟩ (.int .i64 (min n u))) w9.heap.size u12 X := OwnX.far hown5 hne _
                  have hM6 := hM5.setCell (p := ⟨gb, 1, none⟩) hgn.symm (.int .i64 (min n u))
                  have hG6 := hG5.setCell (p := ⟨gb, 1, none⟩) (.inl hbn) (.int .i64 (min n u))
                  have hownA := OwnX.alloc hown6 (.cells #[.string s, .int .i64 (min n u)] 46)
                  have c1b : (w5.setCell ⟨gb, 1, none⟩ (.int .i64 (min n u))).cell? ⟨gb, 1, none⟩ = some (.int .i64 (min n u)) := hB6.cell 1
                  have hsz := hG6.size
                  have hz12 : (w5.setCell ⟨gb, 1, none⟩ (.int .i64 (min n u))).heap.size = w5.heap.size := by simp [World.setCell]
                  rw [hz12] at hsz
                  clear hms hown5
                  go_wp2_with (first | (at_lookup; refine wpM_look_ok rfl _ _ 85 rfl 9 3 Tryd.underlying9 Tryd.underlying85 (.int .i64 0) (zi_run _) g c f rfl hM5 s rfl hs1 ?_; rw [hfs]) | (refine wpList_load_row rfl 46 _ rfl gb rfl 46 #[.string s, .int .i64 (min n u)] (0, 0) _ hB6 Tryd.underlying46 rfl (sh_info (s, min n u)) ?_) | (at_builtin; refine wpList_plain rfl fun K' hK' => wp_append_x sh_rowOk _ _ rfl w9.heap.size u12 X rfl hownA w5.heap.size (s, min n u) rfl (Bk.newAt hz12 _ _) (by omega) (by simp; omega) ?_; intro v8 w8 hown8 hgrow; refine hK' _ _ ?_))
                  go_roundw
                  case rel => exact ⟨k + 1, (by have := HK.out; omega), by go_num, (by rw [HTK.out, HSL2.out]; exact hown8), (by rw [HTK.out, HSR2.out]), (hM6.alloc _).grown hgrow (mapOf_ne (hM6.alloc _) hownA), (hG6.alloc _).other hgrow (fun r e => .inl (hob r e))⟩
                  case measure => have := HK.out; simp [intOf]; omega
            · obtain rfl : k = l.length := by omega
              rw [List.take_length] at hown ⊢
              go_wp2_with fail
              go_ret3
              obtain rfl : SE = 0 := HSE.out.symm.trans HS0.out
              obtain rfl : XN = exR l z := HXN.out.symm.trans HN.out
              obtain rfl : XL = exL l z := HXL.out.symm.trans (if_pos HS0.out)
              exact ⟨_, rfl, Rd.of_owns hown, hG0.trans hGq⟩
    · have HS1 : Hid (ssE l z ≠ 0) := Lib.hid (fun e => e2 (HSS.out.symm.trans e))
      have hb : (wvE z != 0) = true := bne_iff_ne.2 e2
      have HY : Hid (exN l z = 0) := Lib.hid (by rw [exN, if_neg HS1.out])
      clear e2
      go_wp2_with fail
      go_ret3
      obtain rfl : SE = wvE z := HSE.out.symm.trans HSS.out
      obtain rfl : XN = 0 := HXN.out.symm.trans HY.out
      obtain rfl : XL = [] := HXL.out.symm.trans (if_neg HS1.out)
      exact ⟨_, rfl, RdR.nil _ _ _, hG⟩
  · have HSS : Hid (ssE l z = shE l) := Lib.hid (by rw [ssE, if_neg e1])
    have HS1 : Hid (ssE l z ≠ 0) := Lib.hid (fun e => e1 (HSS.out.symm.trans e))
    have hb : (shE l != 0) = true := bne_iff_ne.2 e1
    have HY : Hid (exN l z = 0) := Lib.hid (by rw [exN, if_neg HS1.out])
    clear e1
    go_wp2_with fail
    go_ret3
    obtain rfl : SE = shE l := HSE.out.symm.trans HSS.out
    obtain rfl : XN = 0 := HXN.out.symm.trans HY.out
    obtain rfl : XL = [] := HXL.out.symm.trans (if_neg HS1.out)
    exact ⟨_, rfl, RdR.nil _ _ _, hG1⟩
end Go.Proofs.YtamoefnpfkcigaaDoor

/- Hires: a change to a copy of an open hire (hire.changed, rentref1.changed), whatever the function is that changes it. -/
namespace Go.Proofs.YtamoefnpfkcigaaDoor
open Go.RowKit

/-- What a function that makes a hire returns. -/
def ChPost (E : Int) (h : Hh) (l : List Lg) (w : World) (e : Ending) (w' : World) : Prop :=
  ∃ (H : Hh) (a : Option Addr) (n c : Nat), e = .returned (.tuple #[.agg #[.string H.1, .string H.2.1, .int .i64 H.2.2.1, .int .i64 H.2.2.2, .slice a n c], .int .i64 E]) ∧ H = hiH E h ∧ (∀ k, (Value.slice a n c).ownBlock = some k → w.heap.size ≤ k) ∧ RdR w' 9 lgC (.slice a n c) (hiL E l) ∧ G w w' none
def S2 (g : Nat) (v : Value) (k : Nat) : Prop := k = g ∨ v.ownBlock = some k
/-- The error of a change: of a hire that may not be right; of one that is. -/
def chE (h : Hh) (l : List Lg) (h2 : Hh) (l2 : List Lg) : Int := if hiE h l = 0 then (if ioB l = true then hiE h2 l2 else 11) else hiE h l
def chR (l : List Lg) (h2 : Hh) (l2 : List Lg) : Int := if ioB l = true then hiE h2 l2 else 11
theorem hiE_pos {h : Hh} {l : List Lg} (e : hiE h l = 0) : 0 < l.length ∧ l.length ≤ 20 := by
  unfold hiE at e
  split at e
  · cases e
  split at e
  · cases e
  split at e
  · split at e
    · cases e
    · split at e
      · cases e
      · omega
  · contradiction
theorem ch_none {w w' : World} {E : Int} (hE : E ≠ 0) (h : Hh) (l : List Lg) (hG : G w w' none) : ChPost E h l w (.returned (.tuple #[.agg #[.string ⟨#[]⟩, .string ⟨#[]⟩, .int .i64 0, .int .i64 0, .slice none 0 0], .int .i64 E])) w' :=
  ⟨(⟨#[]⟩, ⟨#[]⟩, 0, 0), none, 0, 0, rfl, by rw [hiH, if_neg hE], fun _ hk => (by cases hk), by rw [hiL, if_neg hE]; exact RdR.nil _ _ _, hG⟩
end Go.Proofs.YtamoefnpfkcigaaDoor

/- slices.Index, Contains, Equal at lists of strings; the classes' own IndexFunc. -/
namespace Go.Proofs.YtamoefnpfkcigaaDoor
open Go.RowKit

/-- A list of strings. -/
abbrev RdS (w : World) (v : Value) (l : List ByteArray) : Prop := Rd w 1 v l.length (l.map Value.string)
theorem rdS_cell {w : World} {a : Addr} {l : List ByteArray} {n c : Nat} (h : Rd w 1 (.slice (some a) n c) n (l.map Value.string)) : ∃ b o, a = ⟨b, o, none⟩ ∧ b < w.heap.size ∧ ∀ (j : Nat) (s : ByteArray), l[j]? = some s → w.cell? ⟨b, o + j, none⟩ = some (.string s) := by
  obtain ⟨a', c', e', _, _, _, _, h5⟩ := h
  injection e' with e1 e2 e3
  subst e1
  obtain ⟨b, o, sp⟩ := a
  obtain ⟨q1, q2, q3⟩ := h5 _ rfl
  dsimp only at q1 q2 q3
  subst q1
  exact ⟨b, o, rfl, q2, fun j s hj => q3 j _ (by rw [List.getElem?_map, hj]; rfl)⟩
/-- The first place of a string, from 'k' on counted; -1: none. -/
def idxF (t : ByteArray) : List ByteArray → Int → Int
  | [], _ => -1
  | s :: r, k => if eqB t s = true then k else idxF t r (k + 1)
def IxRel (l : List ByteArray) (t : ByteArray) (i : Value) : Prop := ∃ k : Nat, k ≤ l.length ∧ i = .int .i64 k ∧ idxF t l 0 = idxF t (l.drop k) k
theorem eqB_comm (a b : ByteArray) : eqB a b = eqB b a := by
  rw [Bool.eq_iff_iff, eqB_iff, eqB_iff]
  exact ⟨fun h => h.symm, fun h => h.symm⟩
theorem idxF_range (t : ByteArray) (l : List ByteArray) : ∀ k : Nat, idxF t l k = -1 ∨ ((k : Int) ≤ idxF t l k ∧ idxF t l k < k + l.length) := by
  induction l with
  | nil => intro k; exact .inl rfl
  | cons s r ih =>
    intro k
    unfold idxF
    split
    · right; simp; omega
    · rcases ih (k + 1) with h | h
      · left; exact h
      · right
        have e : idxF t r ((k : Int) + 1) = idxF t r ((k + 1 : Nat) : Int) := rfl
        rw [e]
        simp only [List.length_cons]
        omega
theorem idxF_has (t : ByteArray) (l : List ByteArray) : ∀ k : Nat, (0 ≤ idxF t l k) ↔ hasK l t = true := by
  induction l with
  | nil => intro k; simp [idxF, hasK]
  | cons s r ih =>
    intro k
    unfold idxF hasK
    rw [List.any_cons, eqB_comm t s]
    cases he : eqB s t with
    | true => simp
    | false =>
      have := ih (k + 1)
      unfold hasK at this
      simpa using this
def EqRel (n : Nat) (w : World) (i : Value) (wr : World) : Prop := ∃ k m : Nat, k ≤ n ∧ i = .int .i64 k ∧ wr = w.drewN m
end Go.Proofs.YtamoefnpfkcigaaDoor

/- Overdue, OverdueOf. Written by genovd.py. -/
namespace Go.Proofs.YtamoefnpfkcigaaDoor
open Go.RowKit

def ssC (s : ByteArray) : Array Value := #[.string s]
theorem ss_rowL (l : List ByteArray) : rowL ssC l = l.map Value.string := by
  induction l with
  | nil => rfl
  | cons s l ih => rw [rowL_cons, ih]; rfl
theorem ss_rowOk : RowOk Tryd.prog 9 80 1 16 (.string ⟨#[]⟩) ssC := ⟨by kernel_rfl, Tryd.underlying80, fun r u hu => by simp [ssC] at hu; subst hu; rfl, fun _ => rfl, rfl, by omega, by omega⟩
abbrev OwnSt (w : World) (base : Nat) (v : Value) (l : List ByteArray) : Prop := OwnX 9 1 ssC w base v l
theorem OwnSt.rd {w : World} {base : Nat} {v : Value} {l : List ByteArray} (h : OwnSt w base v l) : RdS w v l := by
  have := Rd.of_owns h
  rwa [ss_rowL] at this
theorem rdS_nil (w : World) : RdS w (.slice none 0 0) [] := RdR.nil (c := ssC) w 1
/-- The hires that should have ended. -/
def odB (t : Int) (x : Hx) : Bool := ioB x.2.2 && decide (x.1.2.2.2 ≤ t)
def odL (t : Int) (L : List Hx) : List ByteArray := (L.filter (odB t)).map (·.1.1)
theorem odL_step (t : Int) (L : List Hx) (k : Nat) (p : Hx) (hp : L[k]? = some p) : odL t (L.take (k + 1)) = if odB t p = true then odL t (L.take k) ++ [p.1.1] else odL t (L.take k) := by
  unfold odL
  rw [List.take_add_one, hp]
  simp only [Option.toList, List.filter_append, List.map_append]
  by_cases h : odB t p = true
  · rw [if_pos h]; simp [h]
  · rw [if_neg h]; simp [h]
theorem odL_len (t : Int) (L : List Hx) : (odL t L).length ≤ L.length := by
  unfold odL
  rw [List.length_map]
  exact List.length_filter_le _ _
def odR (E : Int) (t : Int) (L : List Hx) : List ByteArray := if E = 0 then odL t L else []
def odE (t : Int) (L : List Hx) : Int := if haE L = 0 then (if momB t = true then 0 else 1) else haE L
theorem hsE_all : ∀ (L : List Hx) (b : ByteArray), hsE b L = 0 → ∀ x ∈ L, hxE x = 0
  | [], _, _, x, hx => by cases hx
  | y :: r, b, e, x, hx => by
    unfold hsE at e
    split at e
    · next h =>
      split at e
      · cases e
      · rcases List.mem_cons.1 hx with rfl | hx
        · exact h
        · exact hsE_all r _ e x hx
    · contradiction
theorem haE_all {L : List Hx} (e : haE L = 0) : (∀ x ∈ L, hxE x = 0) ∧ L.length ≤ 500 := by
  unfold haE at e
  split at e
  · cases e
  · exact ⟨hsE_all L _ e, by omega⟩
def OdRel (w : World) (t : Int) (L : List Hx) (v i : Value) (wr : World) : Prop :=
  ∃ k : Nat, k ≤ L.length ∧ i = .int .i64 k ∧ OwnSt wr w.heap.size v (odL t (L.take k)) ∧ G w wr none
end Go.Proofs.YtamoefnpfkcigaaDoor

/- Clashes of all hires. -/
namespace Go.Proofs.YtamoefnpfkcigaaDoor
open Go.RowKit

def clRow (x : Hx) : List Hx → List Ks
  | [] => []
  | y :: r => clOf x.1 y.1 x.2.2 y.2.2 ++ clRow x r
def clAll : List Hx → List Ks
  | [] => []
  | x :: r => clRow x r ++ clAll r
/-- The list from a place on. -/
theorem RdR.drop {α : Type} {w : World} {z : Nat} {c : α → Array Value} {a : Option Addr} {n cap : Nat} {l : List α} (hz : ∀ p, (c p).size = z) (h : RdR w z c (.slice a n cap) l) (k : Nat) (hk : k ≤ l.length) :
    RdR w z c (.slice (if cap = k then a else a.map (·.add (k * z))) (n - k) (cap - k)) (l.drop k) := by
  obtain ⟨a', c', e, h1, h2, h3, h4, h5⟩ := h
  obtain ⟨rfl, rfl, rfl⟩ : a = a' ∧ n = l.length ∧ cap = c' := by cases e; exact ⟨rfl, rfl, rfl⟩
  have hlen : (l.drop k).length = l.length - k := List.length_drop
  refine ⟨_, _, by rw [hlen], by omega, by omega, rowL_len hz _, fun e => ?_, fun b hb => ?_⟩
  · split at e
    · have := (h4 e).1; exact ⟨by omega, by omega⟩
    · cases a with
      | none => have := h4 rfl; exact ⟨by omega, by omega⟩
      | some ad => simp at e
  · by_cases hc : cap = k
    · rw [if_pos hc] at hb
      obtain ⟨q1, q2, q3⟩ := h5 b hb
      have hl0 : l.drop k = [] := List.eq_nil_of_length_eq_zero (by omega)
      exact ⟨q1, q2, fun j u hj => by rw [hl0] at hj; simp [rowL] at hj⟩
    · rw [if_neg hc] at hb
      cases a with
      | none => simp at hb
      | some ad =>
        obtain ⟨q1, q2, q3⟩ := h5 ad rfl
        obtain ⟨bb, bo, bs⟩ := ad
        dsimp only at q1 q2 q3
        subst q1
        simp only [Option.map_some, Option.some.injEq] at hb
        rw [add_at] at hb
        subst hb
        refine ⟨rfl, q2, fun j u hj => ?_⟩
        have e2 : rowL c l = rowL c (l.take k) ++ rowL c (l.drop k) := by
          unfold rowL
          rw [← List.flatMap_append, List.take_append_drop]
        have hlk : (rowL c (l.take k)).length = k * z := by rw [rowL_len hz, List.length_take, Nat.min_eq_left hk]
        have := q3 (k * z + j) u (by rw [e2, List.getElem?_append_right (by omega), hlk, show k * z + j - k * z = j by omega]; exact hj)
        dsimp only at this ⊢
        rw [show bo + k * z + j = bo + (k * z + j) by omega]
        exact this
theorem clRow_len (x : Hx) (r : List Hx) : (clRow x r).length ≤ 2 * r.length := by
  induction r with
  | nil => simp [clRow]
  | cons y r ih =>
    have := clOf_len x.1 y.1 x.2.2 y.2.2
    simp only [clRow, List.length_append, List.length_cons]
    omega
theorem OwnX.apart {α : Type} {T T' : TypeId} {z g base : Nat} {c : α → Array Value} {w : World} {v : Value} {l : List α} {cs : Array Value} (h : OwnX T z c w base v l) (hB : Bk w g T' cs) (hT : T ≠ T') : some g ≠ v.ownBlock := by
  rcases h.2 with ⟨rfl, _⟩ | ⟨g', cap, cur, rfl, _, hg, _⟩
  · simp [Value.ownBlock]
  · intro e
    simp only [Value.ownBlock, Option.map_some, Option.some.injEq] at e
    subst e
    have h2 := hB.symm.trans hg
    simp only [Option.some.injEq, Obj.cells.injEq] at h2
    exact hT h2.2.1.symm
def ksR (L : List Hx) : List Ks := if haE L = 0 then clAll L else []
end Go.Proofs.YtamoefnpfkcigaaDoor

/- Generator: Shares. Written by gengsh.py. -/
namespace Go.Proofs.YtamoefnpfkcigaaDoor
open Go.RowKit

theorem wv_oneL (r : Wv) : ∀ u ∈ (wvC r).toList, u.oneCell' = true := by
  intro u hu
  simp [wvC] at hu
  rcases hu with rfl | rfl <;> rfl
theorem wv_rowOk : RowOk Tryd.prog 82 35 2 24 (.agg #[.string ⟨#[]⟩, .int .i64 0]) wvC := ⟨by kernel_rfl, Tryd.underlying35, wv_oneL, wvC_sz, rfl, by omega, by omega⟩
abbrev OwnWv (w : World) (base : Nat) (v : Value) (l : List Wv) : Prop := OwnX 82 2 wvC w base v l
/-- Two rows that the call owns, of two types, lie apart. -/
theorem OwnX.two {α β : Type} {T T' : TypeId} {z z' base base' : Nat} {c : α → Array Value} {c' : β → Array Value} {w : World} {v v' : Value} {l : List α} {l' : List β} (h : OwnX T z c w base v l) (h' : OwnX T' z' c' w base' v' l') (hT : T ≠ T') : v.ownBlock = none ∨ v.ownBlock ≠ v'.ownBlock := by
  rcases h.2 with ⟨rfl, _⟩ | ⟨g, cap, cur, rfl, _, hg, _⟩
  · left; simp [Value.ownBlock]
  · right
    rcases h'.2 with ⟨rfl, _⟩ | ⟨g', cap', cur', rfl, _, hg', _⟩
    · simp [Value.ownBlock]
    · intro e
      simp only [Value.ownBlock, Option.map_some, Option.some.injEq] at e
      subst e
      have h2 := hg.symm.trans hg'
      simp only [Option.some.injEq, Obj.cells.injEq] at h2
      exact hT h2.2.1
def shKeys : Array Value := #[.string ⟨#[]⟩, .string ⟨#[104, 49]⟩, .string ⟨#[104, 50]⟩, .string ⟨#[104, 51]⟩]
theorem shKeys_at (k : Nat) (hk : k < 4) : ∃ a : ByteArray, (Small a ∧ ((k = 0 ∧ a = ⟨#[]⟩) ∨ (k ≠ 0 ∧ a ≠ ⟨#[]⟩ ∧ 0 < a.size))) ∧ shKeys[k]? = some (.string a) := by
  match k, hk with
  | 0, _ => exact ⟨_, ⟨small_of (s := ⟨#[]⟩) (by decide), .inl ⟨rfl, rfl⟩⟩, rfl⟩
  | 1, _ => exact ⟨_, ⟨small_of (s := ⟨#[104, 49]⟩) (by decide), .inr ⟨by decide, by decide, by decide⟩⟩, rfl⟩
  | 2, _ => exact ⟨_, ⟨small_of (s := ⟨#[104, 50]⟩) (by decide), .inr ⟨by decide, by decide, by decide⟩⟩, rfl⟩
  | 3, _ => exact ⟨_, ⟨small_of (s := ⟨#[104, 51]⟩) (by decide), .inr ⟨by decide, by decide, by decide⟩⟩, rfl⟩
theorem WvOk.snoc {l : List Wv} {r : Wv} (h : WvOk l) (hr : Small r.1) : WvOk (l ++ [r]) := fun p hp => by
  rcases List.mem_append.1 hp with hp | hp
  · exact h p hp
  · obtain rfl := List.mem_singleton.1 hp
    exact hr
theorem ShOk.snoc {l : List Sh} {r : Sh} (h : ShOk l) (hr : Small r.1) : ShOk (l ++ [r]) := fun p hp => by
  rcases List.mem_append.1 hp with hp | hp
  · exact h p hp
  · obtain rfl := List.mem_singleton.1 hp
    exact hr
def SharesPost (s K : Nat) (w : World) (e : Ending) (w' : World) : Prop :=
  ∃ (v v2 : Value) (l : List Sh) (z : List Wv), e = .returned (.tuple #[v, v2]) ∧ RdR w' 2 shC v l ∧ RdR w' 2 wvC v2 z ∧ ShOk l ∧ WvOk z ∧ l.length ≤ 5 ∧ z.length ≤ 4 ∧ SB w' s (K + 40) ∧ G w w' (some s)
theorem shares_fin {w w' : World} {s K K' : Nat} {v v2 : Value} {l : List Sh} {z : List Wv} (h : OwnSh w' (w.heap.size + 1) v l) (h2 : OwnWv w' (w.heap.size + 1) v2 z) (hl : ShOk l) (hz : WvOk z) (hn : l.length ≤ 5) (hn2 : z.length ≤ 4) (hSB : SB w' s K') (hK : K' ≤ K + 40) (hG : G w w' (some s)) : SharesPost s K w (.returned (.tuple #[v, v2])) w' :=
  ⟨v, v2, l, z, rfl, Rd.of_owns h, Rd.of_owns h2, hl, hz, hn, hn2, hSB.le hK, hG⟩
def GsRel (w : World) (s K : Nat) (sL sW sI : Value) (wr : World) : Prop :=
  ∃ (k : Nat) (l : List Sh) (z : List Wv), k ≤ 4 ∧ l.length ≤ k ∧ z.length ≤ k - 1 ∧ sI = .int .i64 k ∧ OwnSh wr (w.heap.size + 1) sL l ∧ OwnWv wr (w.heap.size + 1) sW z ∧ ShOk l ∧ WvOk z ∧ SB wr s (K + 4 * k) ∧ G w wr (some s) ∧ Bk wr w.heap.size 9 shKeys
set_option maxRecDepth 100000 in
set_option maxHeartbeats 8000000 in
theorem shares_c (w : World) (s : Nat) (K : Nat) (hs : SB w s K) (hk : K ≤ 600000000000) :
    Calls Tryd.prog 12 #[.pointer (some ⟨s, 0, none⟩)] w (SharesPost s K w) := by
  have hsw := hs.lt
  have hsb : s < w.heap.size + 1 := Nat.lt_succ_of_lt hsw
  go_enter Tryd.func12, Tryd.ntmps12
  go_wp2_with fail
  go_loopw [4, 5, 10] (GsRel w s K) (fun _ _ i _ => 4 - (intOf i).toNat)
  case atStart => exact ⟨0, [], [], by omega, by simp, by simp, rfl, World.ownsRow_nil _ _ _ _, World.ownsRow_nil _ _ _ _, fun p hp => (by cases hp), fun p hp => (by cases hp), hs.alloc _, (G.refl _ _).alloc _, Bk.new w _ _⟩
  case round =>
    obtain ⟨k, l, z, hkm, hlk, hzk, rfl, hown, how2, hl, hz, hSB, hG, hB⟩ := hrel
    have HL := Lib.hid hl
    have HZ := Lib.hid hz
    clear hl hz hs
    by_cases hk2 : k < 4
    · obtain ⟨key, hkey, hpa⟩ := shKeys_at k (by omega)
      have HKS := Lib.hid hkey.1
      have hkey2 := hkey.2
      have hrow : wr.cell? ⟨w.heap.size, k, none⟩ = some (.string key) := by rw [hB.cell]; exact hpa
      have hBl := hB.lt
      have hki : (k : Int) < 4 := by omega
      have HKM := Lib.hid hk2
      clear hpa hkey
      go_wp2_with fail
      refine (flip_c _ _ _ _ hSB (by omega) (by omega)).mono ?_; rintro e w3 ⟨q, rfl, hSB3, hg⟩
      have hown3 := OwnX.kept hown hg hsb
      have how3 := OwnX.kept how2 hg hsb
      have hB3 := hB.grown hg (fun e => by have := Option.some.inj e; omega)
      have hG3 := hG.trans hg
      clear hown how2 hB hG hSB hg hrow
      cases q with
      | true =>
        rcases hkey2 with ⟨hk0, rfl⟩ | ⟨hk0, hkn, hksz⟩
        · go_wp2_with fail
          go_roundw
          case rel => exact ⟨k + 1, l, z, by omega, by omega, by omega, by go_num, hown3, how3, HL.out, HZ.out, hSB3.le (by omega), hG3, hB3⟩
          case measure => have := HKM.out; simp [intOf]; omega
        · have hze := isE_of (s := key) hksz
          go_wp2_with fail
          refine (flip_c _ _ _ _ hSB3 (by omega) (by omega)).mono ?_; rintro e wp ⟨q2, rfl, hSBp, hg⟩
          have hownp := OwnX.kept hown3 hg hsb
          have howp := OwnX.kept how3 hg hsb
          have hBp := hB3.grown hg (fun e => by have := Option.some.inj e; omega)
          have hGp := hG3.trans hg
          clear hown3 how3 hB3 hG3 hSB3 hg
          cases q2 with
          | true =>
            go_wp2_with fail
            go_roundw
            case rel => exact ⟨k + 1, l, z, by omega, by omega, by omega, by go_num, hownp, howp, HL.out, HZ.out, hSBp.le (by omega), hGp, hBp⟩
            case measure => have := HKM.out; simp [intOf]; omega
          | false =>
            go_wp2_with fail
            refine (pick_c _ _ _ [0, 5, 99, 5000] _ _ _ (hSBp.alloc _) (by omega) (by decide) (by decide) (Rd.newAt _ rfl rfl (by decide)) (hSBp.newAt _ _ _ (Nat.le_refl _))).mono ?_; rintro e wq ⟨f2, rfl, hp, hSBq, hg⟩
            have hownq := OwnX.kept (OwnX.alloc hownp (.cells _ 3)) hg hsb
            have howq := OwnX.kept (OwnX.alloc howp (.cells _ 3)) hg hsb
            have hBq := (hBp.alloc (.cells _ 3)).grown hg (fun e => by have := Option.some.inj e; omega)
            have hGq := (hGp.alloc (.cells _ 3)).trans hg
            have hszq := hGq.size
            have hownB := OwnX.alloc hownq (.cells #[.string key, .int .i64 f2] 82)
            have howB := OwnX.alloc howq (.cells #[.string key, .int .i64 f2] 82)
            have hobq := OwnX.low howq
            clear hownp howp hBp hGp hSBp hg hp hownq
            go_wp2_with (at_builtin; refine wpList_plain rfl fun K' hK' => wp_append_x wv_rowOk _ _ rfl (w.heap.size + 1) u5 z rfl howB wq.heap.size (key, f2) rfl (Bk.new wq _ _) (by omega) (by have := hBq.lt; simp; omega) ?_; intro v9 w9 how9 hgrow9; have hown9 := World.ownsRow.kept hownB hgrow9 (OwnX.two hownB howB (by decide)); have hSB9 := (hSBq.alloc (.cells #[.string key, .int .i64 f2] 82)).own hgrow9 (fun r e => Nat.lt_of_lt_of_le hsb (hobq r e)); have hB9 := (hBq.alloc (.cells #[.string key, .int .i64 f2] 82)).grown hgrow9 (OwnX.ne howq (.inl (Nat.lt_succ_self _))); have hG9 := (hGq.alloc (.cells #[.string key, .int .i64 f2] 82)).other hgrow9 (fun r e => .inl (Nat.le_of_succ_le (hobq r e))); clear hownB howB hgrow9 hSBq hBq hGq howq; refine hK' _ _ ?_)
            go_roundw
            case rel => exact ⟨k + 1, l, z ++ [(key, f2)], by omega, by omega, by simp; omega, by go_num, hown9, how9, HL.out, WvOk.snoc HZ.out HKS.out, hSB9.le (by omega), hG9, hB9⟩
            case measure => have := HKM.out; simp [intOf]; omega
      | false =>
        go_wp2_with fail
        refine (pick_c _ _ _ [0, 5, 100, 3000] _ _ _ (hSB3.alloc _) (by omega) (by decide) (by decide) (Rd.newAt _ rfl rfl (by decide)) (hSB3.newAt _ _ _ (Nat.le_refl _))).mono ?_; rintro e w4 ⟨f, rfl, hp, hSB4, hg⟩
        have hown4 := OwnX.kept (OwnX.alloc hown3 (.cells _ 3)) hg hsb
        have how4 := OwnX.kept (OwnX.alloc how3 (.cells _ 3)) hg hsb
        have hB4 := (hB3.alloc (.cells _ 3)).grown hg (fun e => by have := Option.some.inj e; omega)
        have hG4 := (hG3.alloc (.cells _ 3)).trans hg
        have hsz := hG4.size
        have hownA := OwnX.alloc hown4 (.cells #[.string key, .int .i64 f] 46)
        have howA := OwnX.alloc how4 (.cells #[.string key, .int .i64 f] 46)
        have hob := OwnX.low hown4
        clear hown3 how3 hB3 hG3 hSB3 hg hp how4
        rcases hkey2 with ⟨hk0, rfl⟩ | ⟨hk0, hkn, hksz⟩
        · go_wp2_with (at_builtin; refine wpList_plain rfl fun K' hK' => wp_append_x sh_rowOk _ _ rfl (w.heap.size + 1) u4 l rfl hownA w4.heap.size ((⟨#[]⟩ : ByteArray), f) rfl (Bk.new w4 _ _) (by omega) (by have := hB4.lt; simp; omega) ?_; intro v8 w8 hown8 hgrow; have how8 := World.ownsRow.kept howA hgrow (OwnX.two howA hownA (by decide)); have hSB8 := (hSB4.alloc (.cells #[.string ⟨#[]⟩, .int .i64 f] 46)).own hgrow (fun r e => Nat.lt_of_lt_of_le hsb (hob r e)); have hB8 := (hB4.alloc (.cells #[.string ⟨#[]⟩, .int .i64 f] 46)).grown hgrow (OwnX.ne hown4 (.inl (Nat.lt_succ_self _))); have hG8 := (hG4.alloc (.cells #[.string ⟨#[]⟩, .int .i64 f] 46)).other hgrow (fun r e => .inl (Nat.le_of_succ_le (hob r e))); clear hownA howA hgrow hSB4 hB4 hG4 hown4; refine hK' _ _ ?_)
          have hl1 : (l ++ [((⟨#[]⟩ : ByteArray), f)]).length ≤ k + 1 := by simp; omega
          have HL1 := Lib.hid (HL.out.snoc (r := ((⟨#[]⟩ : ByteArray), f)) HKS.out)
          go_roundw
          case rel => exact ⟨k + 1, (l ++ [((⟨#[]⟩ : ByteArray), f)]), z, by omega, hl1, by omega, by go_num, hown8, how8, HL1.out, HZ.out, hSB8.le (by omega), hG8, hB8⟩
          case measure => have := HKM.out; simp [intOf]; omega
        · have hze := isE_of (s := key) hksz
          go_wp2_with (at_builtin; refine wpList_plain rfl fun K' hK' => wp_append_x sh_rowOk _ _ rfl (w.heap.size + 1) u4 l rfl hownA w4.heap.size (key, f) rfl (Bk.new w4 _ _) (by omega) (by have := hB4.lt; simp; omega) ?_; intro v8 w8 hown8 hgrow; have how8 := World.ownsRow.kept howA hgrow (OwnX.two howA hownA (by decide)); have hSB8 := (hSB4.alloc (.cells #[.string key, .int .i64 f] 46)).own hgrow (fun r e => Nat.lt_of_lt_of_le hsb (hob r e)); have hB8 := (hB4.alloc (.cells #[.string key, .int .i64 f] 46)).grown hgrow (OwnX.ne hown4 (.inl (Nat.lt_succ_self _))); have hG8 := (hG4.alloc (.cells #[.string key, .int .i64 f] 46)).other hgrow (fun r e => .inl (Nat.le_of_succ_le (hob r e))); clear hownA howA hgrow hSB4 hB4 hG4 hown4; refine hK' _ _ ?_)
          have hl1 : (l ++ [(key, f)]).length ≤ k + 1 := by simp; omega
          have HL1 := Lib.hid (HL.out.snoc (r := (key, f)) HKS.out)
          refine (flip_c _ _ _ _ hSB8 (by omega) (by omega)).mono ?_; rintro e wp ⟨q2, rfl, hSBp, hg⟩
          have hownp := OwnX.kept hown8 hg hsb
          have howp := OwnX.kept how8 hg hsb
          have hBp := hB8.grown hg (fun e => by have := Option.some.inj e; omega)
          have hGp := hG8.trans hg
          clear hown8 how8 hB8 hG8 hSB8 hg
          cases q2 with
          | true =>
            go_wp2_with fail
            go_roundw
            case rel => exact ⟨k + 1, (l ++ [(key, f)]), z, by omega, hl1, by omega, by go_num, hownp, howp, HL1.out, HZ.out, hSBp.le (by omega), hGp, hBp⟩
            case measure => have := HKM.out; simp [intOf]; omega
          | false =>
            go_wp2_with fail
            refine (pick_c _ _ _ [0, 5, 99, 5000] _ _ _ (hSBp.alloc _) (by omega) (by decide) (by decide) (Rd.newAt _ rfl rfl (by decide)) (hSBp.newAt _ _ _ (Nat.le_refl _))).mono ?_; rintro e wq ⟨f2, rfl, hp, hSBq, hg⟩
            have hownq := OwnX.kept (OwnX.alloc hownp (.cells _ 3)) hg hsb
            have howq := OwnX.kept (OwnX.alloc howp (.cells _ 3)) hg hsb
            have hBq := (hBp.alloc (.cells _ 3)).grown hg (fun e => by have := Option.some.inj e; omega)
            have hGq := (hGp.alloc (.cells _ 3)).trans hg
            have hszq := hGq.size
            have hownB := OwnX.alloc hownq (.cells #[.string key, .int .i64 f2] 82)
            have howB := OwnX.alloc howq (.cells #[.string key, .int .i64 f2] 82)
            have hobq := OwnX.low howq
            clear hownp howp hBp hGp hSBp hg hp hownq
            go_wp2_with (at_builtin; refine wpList_plain rfl fun K' hK' => wp_append_x wv_rowOk _ _ rfl (w.heap.size + 1) u5 z rfl howB wq.heap.size (key, f2) rfl (Bk.new wq _ _) (by omega) (by have := hBq.lt; simp; omega) ?_; intro v9 w9 how9 hgrow9; have hown9 := World.ownsRow.kept hownB hgrow9 (OwnX.two hownB howB (by decide)); have hSB9 := (hSBq.alloc (.cells #[.string key, .int .i64 f2] 82)).own hgrow9 (fun r e => Nat.lt_of_lt_of_le hsb (hobq r e)); have hB9 := (hBq.alloc (.cells #[.string key, .int .i64 f2] 82)).grown hgrow9 (OwnX.ne howq (.inl (Nat.lt_succ_self _))); have hG9 := (hGq.alloc (.cells #[.string key, .int .i64 f2] 82)).other hgrow9 (fun r e => .inl (Nat.le_of_succ_le (hobq r e))); clear hownB howB hgrow9 hSBq hBq hGq howq; refine hK' _ _ ?_)
            go_roundw
            case rel => exact ⟨k + 1, (l ++ [(key, f)]), z ++ [(key, f2)], by omega, hl1, by simp; omega, by go_num, hown9, how9, HL1.out, WvOk.snoc HZ.out HKS.out, hSB9.le (by omega), hG9, hB9⟩
            case measure => have := HKM.out; simp [intOf]; omega
    · obtain rfl : k = 4 := by omega
      go_wp2_with fail
      refine (flip_c _ _ _ _ hSB (by omega) (by omega)).mono ?_; rintro e w2 ⟨b, rfl, hSB2, hg⟩
      have hown2 := OwnX.kept hown hg hsb
      have how3 := OwnX.kept how2 hg hsb
      have hG2 := hG.trans hg
      clear hown how2 hG hg hSB hB
      cases b with
      | false =>
        go_wp2_with fail
        refine (flip_c _ _ _ _ hSB2 (by omega) (by omega)).mono ?_; rintro e wx ⟨qx, rfl, hSBx, hg⟩
        have hownx := OwnX.kept hown2 hg hsb
        have howx := OwnX.kept how3 hg hsb
        have hGx := hG2.trans hg
        clear hown2 how3 hG2 hSB2 hg
        cases qx with
        | false =>
          go_wp2_with fail
          go_ret2
          exact shares_fin hownx howx HL.out HZ.out (by omega) (by omega) hSBx (by omega) hGx
        | true =>
          go_wp2_with fail
          refine (some_c _ _ _ [⟨#[]⟩, ⟨#[104, 49]⟩, ⟨#[104, 57]⟩] _ _ _ (hSBx.alloc _) (by omega) (by decide) (by decide) (Rd.newAt _ rfl rfl (by decide)) (hSBx.newAt _ _ _ (Nat.le_refl _))).mono ?_; rintro e wy ⟨ry, rfl, hp, hSBy, hg⟩
          have HRY := Lib.hid (small_pick hp (by decide))
          have howny := OwnX.kept (OwnX.alloc hownx (.cells _ 9)) hg hsb
          have howy := OwnX.kept (OwnX.alloc howx (.cells _ 9)) hg hsb
          have hGy := (hGx.alloc (.cells _ 9)).trans hg
          clear hownx howx hGx hSBx hg hp
          go_wp2_with fail
          refine (odd_c _ _ _ _ _ hSBy (by omega) (by omega) (by omega) (by omega) (by omega)).mono ?_; rintro e wz ⟨oz, rfl, oz0, oz1, hSBz, hg⟩
          have hownz := OwnX.kept howny hg hsb
          have howz := OwnX.kept howy hg hsb
          have hGz := hGy.trans hg
          have hszz := hGz.size
          have hownB := OwnX.alloc hownz (.cells #[.string ry, .int .i64 oz] 82)
          have howB := OwnX.alloc howz (.cells #[.string ry, .int .i64 oz] 82)
          have hobz := OwnX.low howz
          clear howny howy hGy hSBy hg oz0 oz1
          go_wp2_with (at_builtin; refine wpList_plain rfl fun K' hK' => wp_append_x wv_rowOk _ _ rfl (w.heap.size + 1) u5 z rfl howB wz.heap.size (ry, oz) rfl (Bk.new wz _ _) (by omega) (by have := hSBz.lt; simp; omega) ?_; intro v9 w9 how9 hgrow9; have hown9 := World.ownsRow.kept hownB hgrow9 (OwnX.two hownB howB (by decide)); have hSB9 := (hSBz.alloc (.cells #[.string ry, .int .i64 oz] 82)).own hgrow9 (fun r e => Nat.lt_of_lt_of_le hsb (hobz r e)); have hG9 := (hGz.alloc (.cells #[.string ry, .int .i64 oz] 82)).other hgrow9 (fun r e => .inl (Nat.le_of_succ_le (hobz r e))); refine hK' _ _ ?_)
          go_wp2_with fail
          go_ret2
          exact shares_fin hown9 how9 HL.out (WvOk.snoc HZ.out HRY.out) (by omega) (by simp; omega) hSB9 (by omega) hG9
      | true =>
        go_wp2_with fail
        refine (some_c _ _ _ [⟨#[65]⟩, ⟨#[104, 49]⟩, ⟨#[104, 57]⟩] _ _ _ (hSB2.alloc _) (by omega) (by decide) (by decide) (Rd.newAt _ rfl rfl (by decide)) (hSB2.newAt _ _ _ (Nat.le_refl _))).mono ?_; rintro e w5 ⟨rk, rfl, hp, hSB5, hg⟩
        have HRK := Lib.hid (small_pick hp (by decide))
        have hown5 := OwnX.kept (OwnX.alloc hown2 (.cells _ 9)) hg hsb
        have how5 := OwnX.kept (OwnX.alloc how3 (.cells _ 9)) hg hsb
        have hG5 := (hG2.alloc (.cells _ 9)).trans hg
        clear hown2 how3 hG2 hSB2 hg hp
        go_wp2_with fail
        refine (odd_c _ _ _ _ _ hSB5 (by omega) (by omega) (by omega) (by omega) (by omega)).mono ?_; rintro e w6 ⟨o6, rfl, o60, o61, hSB6, hg⟩
        have hown6 := OwnX.kept hown5 hg hsb
        have how6 := OwnX.kept how5 hg hsb
        have hG6 := hG5.trans hg
        have hsz6 := hG6.size
        have hownA := OwnX.alloc hown6 (.cells #[.string rk, .int .i64 o6] 46)
        have howA := OwnX.alloc how6 (.cells #[.string rk, .int .i64 o6] 46)
        have hob := OwnX.low hown6
        clear hown5 how5 hG5 hSB5 hg o60 o61 how6
        go_wp2_with (at_builtin; refine wpList_plain rfl fun K' hK' => wp_append_x sh_rowOk _ _ rfl (w.heap.size + 1) u4 l rfl hownA w6.heap.size (rk, o6) rfl (Bk.new w6 _ _) (by omega) (by have := hSB6.lt; simp; omega) ?_; intro v8 w8 hown8 hgrow; have how8 := World.ownsRow.kept howA hgrow (OwnX.two howA hownA (by decide)); have hSB8 := (hSB6.alloc (.cells #[.string rk, .int .i64 o6] 46)).own hgrow (fun r e => Nat.lt_of_lt_of_le hsb (hob r e)); have hG8 := (hG6.alloc (.cells #[.string rk, .int .i64 o6] 46)).other hgrow (fun r e => .inl (Nat.le_of_succ_le (hob r e))); clear hownA howA hgrow hSB6 hG6 hown6; refine hK' _ _ ?_)
        have hl1 : (l ++ [(rk, o6)]).length ≤ 5 := by simp; omega
        have HL1 := Lib.hid (HL.out.snoc (r := (rk, o6)) HRK.out)
        go_wp2_with fail
        refine (flip_c _ _ _ _ hSB8 (by omega) (by omega)).mono ?_; rintro e wx ⟨qx, rfl, hSBx, hg⟩
        have hownx := OwnX.kept hown8 hg hsb
        have howx := OwnX.kept how8 hg hsb
        have hGx := hG8.trans hg
        clear hown8 how8 hG8 hSB8 hg
        cases qx with
        | false =>
          go_wp2_with fail
          go_ret2
          exact shares_fin hownx howx HL1.out HZ.out hl1 (by omega) hSBx (by omega) hGx
        | true =>
          go_wp2_with fail
          refine (some_c _ _ _ [⟨#[]⟩, ⟨#[104, 49]⟩, ⟨#[104, 57]⟩] _ _ _ (hSBx.alloc _) (by omega) (by decide) (by decide) (Rd.newAt _ rfl rfl (by decide)) (hSBx.newAt _ _ _ (Nat.le_refl _))).mono ?_; rintro e wy ⟨ry, rfl, hp, hSBy, hg⟩
          have HRY := Lib.hid (small_pick hp (by decide))
          have howny := OwnX.kept (OwnX.alloc hownx (.cells _ 9)) hg hsb
          have howy := OwnX.kept (OwnX.alloc howx (.cells _ 9)) hg hsb
          have hGy := (hGx.alloc (.cells _ 9)).trans hg
          clear hownx howx hGx hSBx hg hp
          go_wp2_with fail
          refine (odd_c _ _ _ _ _ hSBy (by omega) (by omega) (by omega) (by omega) (by omega)).mono ?_; rintro e wz ⟨oz, rfl, oz0, oz1, hSBz, hg⟩
          have hownz := OwnX.kept howny hg hsb
          have howz := OwnX.kept howy hg hsb
          have hGz := hGy.trans hg
          have hszz := hGz.size
          have hownB := OwnX.alloc hownz (.cells #[.string ry, .int .i64 oz] 82)
          have howB := OwnX.alloc howz (.cells #[.string ry, .int .i64 oz] 82)
          have hobz := OwnX.low howz
          clear howny howy hGy hSBy hg oz0 oz1
          go_wp2_with (at_builtin; refine wpList_plain rfl fun K' hK' => wp_append_x wv_rowOk _ _ rfl (w.heap.size + 1) u5 z rfl howB wz.heap.size (ry, oz) rfl (Bk.new wz _ _) (by omega) (by have := hSBz.lt; simp; omega) ?_; intro v9 w9 how9 hgrow9; have hown9 := World.ownsRow.kept hownB hgrow9 (OwnX.two hownB howB (by decide)); have hSB9 := (hSBz.alloc (.cells #[.string ry, .int .i64 oz] 82)).own hgrow9 (fun r e => Nat.lt_of_lt_of_le hsb (hobz r e)); have hG9 := (hGz.alloc (.cells #[.string ry, .int .i64 oz] 82)).other hgrow9 (fun r e => .inl (Nat.le_of_succ_le (hobz r e))); refine hK' _ _ ?_)
          go_wp2_with fail
          go_ret2
          exact shares_fin hown9 how9 HL1.out (WvOk.snoc HZ.out HRY.out) hl1 (by simp; omega) hSB9 (by omega) hG9
end Go.Proofs.YtamoefnpfkcigaaDoor

/- Generator: Weights. -/
namespace Go.Proofs.YtamoefnpfkcigaaDoor
open Go.RowKit

def WgOk (l : List Int) : Prop := ∀ x ∈ l, -1099511627776 ≤ x ∧ x ≤ 1099511627776
def WgPost (s K : Nat) (w : World) (e : Ending) (w' : World) : Prop :=
  ∃ (v : Value) (l : List Int), e = .returned v ∧ OwnIn w' w.heap.size v l ∧ 1 ≤ l.length ∧ l.length ≤ 6 ∧ WgOk l ∧ SB w' s (K + 20) ∧ G w w' (some s)
def WgRel (w : World) (s K n : Nat) (s3 s6 : Value) (wr : World) : Prop :=
  ∃ (k : Nat) (l : List Int), k ≤ n ∧ l.length = k ∧ s6 = .int .i64 k ∧ OwnIn wr w.heap.size s3 l ∧ WgOk l ∧ SB wr s (K + 1 + k) ∧ G w wr (some s)
theorem WgOk.snoc {l : List Int} (h : WgOk l) {x : Int} (hx : -1099511627776 ≤ x ∧ x ≤ 1099511627776) : WgOk (l ++ [x]) := fun y hy => by
  rcases List.mem_append.1 hy with q | q
  · exact h y q
  · rw [List.mem_singleton] at q; rw [q]; exact hx
theorem WgOk.set {l : List Int} (h : WgOk l) {i : Nat} {x : Int} (hx : -1099511627776 ≤ x ∧ x ≤ 1099511627776) : WgOk (l.set i x) := fun y hy => by
  rcases List.mem_or_eq_of_mem_set hy with q | q
  · exact h y q
  · rw [q]; exact hx
set_option maxRecDepth 100000 in
set_option maxHeartbeats 4000000 in
theorem weights_c (w : World) (s : Nat) (K : Nat) (hs : SB w s K) (hk : K ≤ 600000000000) :
    Calls Tryd.prog 7 #[.pointer (some ⟨s, 0, none⟩)] w (WgPost s K w) := by
  have hsw := hs.lt
  go_enter Tryd.func7, Tryd.ntmps7
  go_wp2_with fail
  refine (range_c 1 6 _ s K hs (by omega) (by omega) (by omega) (by omega)).mono ?_; rintro e w2 ⟨n, rfl, hn1, hn2, hSB2, hG2⟩
  obtain ⟨n, rfl⟩ : ∃ m : Nat, n = m := ⟨n.toNat, by omega⟩
  have HN := Lib.hid (show 1 ≤ n ∧ n ≤ 6 by omega)
  clear hn1 hn2 hs
  go_wp2_with fail
  go_loopw [3, 6] (WgRel w s K n) (fun _ i _ => n - (intOf i).toNat)
  case atStart => exact ⟨0, [], by omega, rfl, rfl, World.ownsRow_nil _ _ _ _, fun x hx => (by cases hx), hSB2, hG2⟩
  case round =>
    clear hSB2 hG2
    obtain ⟨k, l, hkn, hlk, rfl, hown, hok, hSB, hG⟩ := hrel
    by_cases hlt : k < n
    · have HOK := Lib.hid hok
      have HLK := Lib.hid hlk
      have HKN := Lib.hid hlt
      have hk6 : k < 6 := by have := HN.out; omega
      have hwk : IntKind.i64.wrap ((k : Int) + 1) = (k : Int) + 1 := by rw [IntKind.wrap_i64]; omega
      clear hok hlk
      go_wp2_with fail
      refine (pick_c _ _ _ [0, 1, 1, 2, 3, 7, 100, 5761440] _ _ _ (hSB.alloc _) (by have := HN.out; omega) (by decide) (by decide) (Rd.newAt _ rfl rfl (by decide)) (hSB.newAt _ _ _ (Nat.le_refl _))).mono ?_; rintro e w4 ⟨f, rfl, hp, hSB4, hg⟩
      have HF : Hid (-1099511627776 ≤ f ∧ f ≤ 1099511627776) := Lib.hid (by simp only [List.mem_cons, List.mem_nil_iff, or_false] at hp; omega)
      have hh := ((G.refl wr (some s)).alloc (.cells _ 3)).trans hg
      have hown4 := OwnX.kept hown hh hsw
      have hG4 := hG.trans hh
      have hob := OwnX.low hown4
      have hsz := hG4.size
      have hownA := OwnX.alloc hown4 (.cells #[.int .i64 f] 3)
      clear hown hG hSB hg hh hp
      go_wp2_with (at_builtin; refine wpList_plain rfl fun K' hK' => wp_append_x in_rowOk _ _ rfl w.heap.size u3 l rfl hownA w4.heap.size f rfl (Bk.new w4 _ _) (by have := HLK.out; have := HN.out; omega) (by simp; omega) ?_; intro v8 w8 hown8 hgrow; refine hK' _ _ ?_)
      go_roundw
      case rel => exact ⟨k + 1, l ++ [f], (by have := HKN.out; omega), (by have := HLK.out; simp; omega), by go_num, hown8, WgOk.snoc HOK.out HF.out, ((hSB4.alloc _).own hgrow (fun r e => Nat.lt_of_lt_of_le hsw (hob r e))).le (by omega), (hG4.alloc _).other hgrow (fun r e => .inl (hob r e))⟩
      case measure => have := HKN.out; simp [intOf]; omega
    · obtain rfl : k = n := by omega
      have hn1 := HN.out
      go_wp2_with fail
      refine (flip_c _ _ _ _ hSB (by omega) (by omega)).mono ?_; rintro e w3 ⟨q, rfl, hSB3, hg⟩
      have hown3 := OwnX.kept hown hg hsw
      have hG3 := hG.trans hg
      have HOK := Lib.hid hok
      clear hown hG hSB hg hok
      cases q with
      | false =>
        go_wp2_with fail
        go_ret
        exact ⟨_, l, rfl, hown3, by omega, by omega, HOK.out, hSB3.le (by omega), hG3⟩
      | true =>
        obtain ⟨g, cap, cur, e, -⟩ := OwnX.form0 hown3 (by omega)
        subst e
        have hgs := OwnX.low hown3 g rfl
        go_wp2_with fail
        refine (odd_c 0 5761440 _ _ _ hSB3 (by omega) (by omega) (by omega) (by omega) (by omega)).mono ?_; rintro e w4 ⟨r, rfl, r1, r2, hSB4, hg⟩
        have hown4 := OwnX.kept hown3 hg hsw
        have hG4 := hG3.trans hg
        have HR := Lib.hid (And.intro r1 r2)
        obtain ⟨x, hx⟩ : ∃ x, l[0]? = some x := ⟨_, List.getElem?_eq_getElem (by omega)⟩
        have z0 : w4.cell? ⟨g, 0, none⟩ = some (.int .i64 x) := by have := RdR.cell inC_sz (Rd.of_owns hown4) (G.refl _ none) hx 0 (.int .i64 x) rfl; simpa using this
        have z3 : w4.frozen? ⟨g, 0, none⟩ = false := soi_free hown4 rfl _
        have hown5 := soi_set hown4 rfl hx r
        rw [hlk] at hown5
        have hG5 := hG4.other (grownBy_setCell_row w4 ⟨g, 0, none⟩ (.int .i64 r)) (fun k e => .inl (by cases e; exact hgs))
        have hSB5 := hSB4.setCell (p := ⟨g, 0, none⟩) (Nat.lt_of_lt_of_le hsw hgs) (.int .i64 r)
        have h0 : (0 : Int) < (l.length : Int) := by omega
        clear hown3 hG3 hSB3 hg r1 r2 hx hown4 hG4 hSB4
        go_wp2_with fail
        go_ret
        exact ⟨_, _, rfl, hown5, by simp; omega, by simp; omega, WgOk.set HOK.out HR.out, hSB5.le (by omega), hG5⟩
end Go.Proofs.YtamoefnpfkcigaaDoor

/- Odds: the numbers of cases, reckoned as the program does. No program. -/
namespace Go.Proofs.YtamoefnpfkcigaaDoor
open Go.RowKit

/-- The new numbers of cases after j of the old ones were spread. -/
def nx (c : List Int) (p : Int) : Nat → List Int
  | 0 => List.replicate (c.length + 1) 0
  | j + 1 => ((nx c p j).set j ((nx c p j).getD j 0 + c.getD j 0 * (100 - p))).set (j + 1) ((nx c p j).getD (j + 1) 0 + c.getD j 0 * p)
def cas (ps : List Int) : List Int := ps.foldl (fun c p => nx c p c.length) [1]
theorem nx_len (c : List Int) (p : Int) (j : Nat) : (nx c p j).length = c.length + 1 := by
  induction j with
  | zero => simp [nx]
  | succ j ih => simp [nx, ih]
theorem sum_set (l : List Int) : ∀ (i : Nat) (v : Int), i < l.length → (l.set i v).sum = l.sum + (v - l.getD i 0) := by
  induction l with
  | nil => intro i v h; simp at h
  | cons x r ih =>
    intro i v h
    cases i with
    | zero => simp; omega
    | succ i =>
      have := ih i v (by simpa using h)
      simp only [List.set_cons_succ, List.sum_cons, List.getD_cons_succ]
      omega
theorem gdset_ne (l : List Int) (i j : Nat) (v : Int) (h : i ≠ j) : (l.set i v).getD j 0 = l.getD j 0 := by
  simp [List.getD, h]
theorem take_sum (c : List Int) (j : Nat) (h : j < c.length) : (c.take (j + 1)).sum = (c.take j).sum + c.getD j 0 := by
  rw [List.take_succ_eq_append_getElem h, List.sum_append]
  simp [List.getD, h]
theorem nx_sum (c : List Int) (p : Int) (j : Nat) (h : j ≤ c.length) : (nx c p j).sum = 100 * (c.take j).sum := by
  induction j with
  | zero => simp [nx]
  | succ j ih =>
    have hl := nx_len c p j
    unfold nx
    rw [sum_set _ _ _ (by rw [List.length_set, hl]; omega), sum_set _ _ _ (by rw [hl]; omega), gdset_ne _ _ _ _ (by omega), ih (by omega), take_sum c j (by omega)]
    have : c.getD j 0 * (100 - p) + c.getD j 0 * p = 100 * c.getD j 0 := by rw [← Int.mul_add]; rw [show (100 - p + p : Int) = 100 by omega, Int.mul_comm]
    omega
def NN (c : List Int) : Prop := ∀ x ∈ c, 0 ≤ x
theorem NN.getD {c : List Int} (h : NN c) (j : Nat) : 0 ≤ c.getD j 0 := by
  unfold List.getD
  cases hc : c[j]? with
  | none => exact Int.le_refl 0
  | some x => exact h x (List.mem_of_getElem? hc)
theorem NN.set {c : List Int} (h : NN c) (i : Nat) {v : Int} (hv : 0 ≤ v) : NN (c.set i v) := fun x hx => by
  rcases List.mem_or_eq_of_mem_set hx with hx | rfl
  · exact h x hx
  · exact hv
theorem nx_nn {c : List Int} {p : Int} (hc : NN c) (h0 : 0 ≤ p) (h1 : p ≤ 100) (j : Nat) : NN (nx c p j) := by
  induction j with
  | zero => intro x hx; have := List.eq_of_mem_replicate hx; omega
  | succ j ih =>
    unfold nx
    refine NN.set (NN.set ih j ?_) (j + 1) ?_
    · exact Int.add_nonneg (ih.getD j) (Int.mul_nonneg (hc.getD j) (by omega))
    · exact Int.add_nonneg (ih.getD (j + 1)) (Int.mul_nonneg (hc.getD j) h0)
theorem NN.sum {c : List Int} (h : NN c) : 0 ≤ c.sum := by
  induction c with
  | nil => exact Int.le_refl 0
  | cons x r ih =>
    have h1 := h x (List.mem_cons_self ..)
    have h2 := ih fun y hy => h y (List.mem_cons_of_mem _ hy)
    simp only [List.sum_cons]
    omega
theorem NN.le_sum {c : List Int} (h : NN c) (j : Nat) : c.getD j 0 ≤ c.sum := by
  induction c generalizing j with
  | nil => simp
  | cons x r ih =>
    have h1 := h x (List.mem_cons_self ..)
    have hr : NN r := fun y hy => h y (List.mem_cons_of_mem _ hy)
    have h2 := hr.sum
    cases j with
    | zero => simp only [List.getD_cons_zero, List.sum_cons]; omega
    | succ j =>
      have := ih hr j
      simp only [List.getD_cons_succ, List.sum_cons]
      omega
theorem cas_snoc (ps : List Int) (p : Int) : cas (ps ++ [p]) = nx (cas ps) p (cas ps).length := by
  unfold cas
  rw [List.foldl_append]
  rfl
theorem cas_ok (ps : List Int) (h : ∀ p ∈ ps, 0 ≤ p ∧ p ≤ 100) : (cas ps).length = ps.length + 1 ∧ NN (cas ps) ∧ (cas ps).sum = 100 ^ ps.length := by
  have key : ∀ (n : Nat) (ps : List Int), ps.length = n → (∀ p ∈ ps, 0 ≤ p ∧ p ≤ 100) → (cas ps).length = ps.length + 1 ∧ NN (cas ps) ∧ (cas ps).sum = 100 ^ ps.length := by
    intro n
    induction n with
    | zero =>
      intro ps hn _
      obtain rfl := List.eq_nil_of_length_eq_zero hn
      refine ⟨rfl, ?_, rfl⟩
      intro x hx
      have := List.mem_singleton.1 (show x ∈ [1] from hx)
      omega
    | succ n ih =>
      intro ps hn h
      obtain ⟨qs, p, rfl⟩ : ∃ qs p, ps = qs ++ [p] := ⟨ps.dropLast, ps.getLast (by intro e; rw [e] at hn; simp at hn), (List.dropLast_concat_getLast _).symm⟩
      simp at hn
      obtain ⟨h1, h2, h3⟩ := ih qs hn (fun q hq => h q (by simp [hq]))
      obtain ⟨p0, p1⟩ := h p (by simp)
      rw [cas_snoc]
      refine ⟨by rw [nx_len, h1]; simp, nx_nn h2 p0 p1 _, ?_⟩
      rw [nx_sum _ _ _ (Nat.le_refl _), List.take_length, h3, List.length_append, List.length_singleton, Int.pow_succ, Int.mul_comm]
  exact key ps.length ps rfl h
/-- A row of ints. -/
def ic (l : List Int) : Array Value := (l.map (Value.int .i64)).toArray
theorem ic_at (l : List Int) (j : Nat) (h : j < l.length) : (ic l)[j]? = some (.int .i64 (l.getD j 0)) := by
  simp [ic, List.getD, h]
theorem ic_set (l : List Int) (j : Nat) (v : Int) : (ic l).setIfInBounds j (.int .i64 v) = ic (l.set j v) := by
  simp [ic, List.map_set]
theorem ic_size (l : List Int) : (ic l).size = l.length := by simp [ic]
end Go.Proofs.YtamoefnpfkcigaaDoor

/- mark.Split. Written by genspe.py. -/
namespace Go.Proofs.YtamoefnpfkcigaaDoor
open Go.RowKit

theorem cf_rest : ∀ (args : Array Value) (w : World), (callFunc 41 args).run Tryd.prog w = .ok (.enter 41 args) w := fun args w => by kernel_rfl
theorem cf_crest : ∀ (args : Array Value) (w : World), (callFunc 43 args).run Tryd.prog w = .ok (.enter 43 args) w := fun args w => by kernel_rfl
set_option maxRecDepth 100000 in
set_option maxHeartbeats 4000000 in
theorem crest_c (c : Int) (ws : List Int) (v : Value) (i j : Nat) (gC gW gS gF : Nat) (w : World) (he : spE c ws = 0) (hi : i < ws.length) (hj : j < ws.length) (hC : Bk w gC 3 #[.int .i64 c]) (hW : Bk w gW 22 #[v]) (hS : Bk w gS 3 #[.int .i64 ws.sum])
    (hF : Bk w gF 73 #[.func (.func 41) #[] #[.pointer (some ⟨gC, 0, none⟩), .pointer (some ⟨gW, 0, none⟩), .pointer (some ⟨gS, 0, none⟩)]]) (hr : RdI w v ws) :
    Calls Tryd.prog 43 #[.int .i64 i, .int .i64 j, .pointer (some ⟨gF, 0, none⟩)] w fun e w' => e = .returned (.int .i64 (cpI (restI c ws j) (restI c ws i))) ∧ G w w' none := by
  have hcf := cf_rest
  have hR := hr
  have hq := (G.refl w none).drew
  replace hC := hC.quiet hq
  replace hW := hW.quiet hq
  replace hS := hS.quiet hq
  replace hF := hF.quiet hq
  replace hR := Rd.quiet hR hq
  have hG := hq
  clear hr hq
  go_enter Tryd.func43, Tryd.ntmps43
  go_upto_region 1 with fail
  refine wp_region_held_drew (S := (fun w' : World => w'.cell? ⟨gF, 0, none⟩ = some (.func (.func 41) #[] #[.pointer (some ⟨gC, 0, none⟩), .pointer (some ⟨gW, 0, none⟩), .pointer (some ⟨gS, 0, none⟩)]))) (by kernel_rfl) ?_ (fun hHeld => ?_)
  · exact (hF.cell 0)
  refine wpAnyH_take (i := 0) (oi := { dst := some 6, op := Op.load 73 (Operand.tmp 2), type := 73, pos := _, after := #[], guard := none }) (v := ?_) rfl (by kernel_rfl) (by kernel_rfl) (by kernel_rfl) (fun _ _ _ h => h) (Or.inl ⟨by rfl, ?_⟩) (by assumption) ?_
  rotate_left
  · (intro w hSw; have z0 := hSw; clear hSw; (go_simp <;> with_reducible rfl))
  try simp only [Act.put, List.setIfInBounds_toArray, List.set_cons_zero, List.set_cons_succ]
  refine wpAnyH_take (i := 1) (oi := { dst := some 7, op := Op.move (Operand.tmp 1), type := 3, pos := _, after := #[], guard := none }) (v := ?_) rfl (by kernel_rfl) (by kernel_rfl) (by kernel_rfl) (fun _ _ _ h => h) (Or.inl ⟨by rfl, ?_⟩) (by assumption) ?_
  rotate_left
  · (intro w hSw; have z0 := hSw; clear hSw; (go_simp <;> with_reducible rfl))
  try simp only [Act.put, List.setIfInBounds_toArray, List.set_cons_zero, List.set_cons_succ]
  refine wpAnyH_take (i := 3) (oi := { dst := some 9, op := Op.load 73 (Operand.tmp 2), type := 73, pos := _, after := #[], guard := none }) (v := ?_) rfl (by kernel_rfl) (by kernel_rfl) (by kernel_rfl) (fun _ _ _ h => h) (Or.inl ⟨by rfl, ?_⟩) (by assumption) ?_
  rotate_left
  · (intro w hSw; have z0 := hSw; clear hSw; (go_simp <;> with_reducible rfl))
  try simp only [Act.put, List.setIfInBounds_toArray, List.set_cons_zero, List.set_cons_succ]
  refine wpAnyH_take (i := 4) (oi := { dst := some 10, op := Op.move (Operand.tmp 0), type := 3, pos := _, after := #[], guard := none }) (v := ?_) rfl (by kernel_rfl) (by kernel_rfl) (by kernel_rfl) (fun _ _ _ h => h) (Or.inl ⟨by rfl, ?_⟩) (by assumption) ?_
  rotate_left
  · (intro w hSw; have z0 := hSw; clear hSw; (go_simp <;> with_reducible rfl))
  try simp only [Act.put, List.setIfInBounds_toArray, List.set_cons_zero, List.set_cons_succ]
  refine wpAnyH_ready (rs := [2]) (by kernel_rfl) (by simp) ?_
  refine AllReadyH.cons (o := { dst := some 8, op := Op.call { callee := Callee.value (Operand.tmp 6), args := #[Operand.tmp 7], argTypes := #[3] }, type := 3, pos := _, after := #[{ on := 0, ground := Ground.data }, { on := 1, ground := Ground.data }], guard := none }) rfl (fun K hK => ?_) AllReadyH.nil
  go_simp
  refine (rest_c c ws v j gC gW gS _ he hj hC hW hS hR).mono ?_
  rintro e w3 ⟨rfl, hh⟩
  replace hC := hC.quiet hh
  replace hW := hW.quiet hh
  replace hS := hS.quiet hh
  replace hF := hF.quiet hh
  replace hR := Rd.quiet hR hh
  replace hG := hG.trans hh
  clear hh
  refine hK.out _ _ ?_ (fun hHeld => ?_)
  · exact (hF.cell 0)
  clear hK K
  try simp only [Act.put, List.setIfInBounds_toArray, List.set_cons_zero, List.set_cons_succ]
  refine wpAnyH_ready (rs := [5]) (by kernel_rfl) (by simp) ?_
  refine AllReadyH.cons (o := { dst := some 11, op := Op.call { callee := Callee.value (Operand.tmp 9), args := #[Operand.tmp 10], argTypes := #[3] }, type := 3, pos := _, after := #[{ on := 3, ground := Ground.data }, { on := 4, ground := Ground.data }, { on := 2, ground := Ground.chain }], guard := none }) rfl (fun K hK => ?_) AllReadyH.nil
  go_simp
  refine (rest_c c ws v i gC gW gS _ he hi hC hW hS hR).mono ?_
  rintro e w4 ⟨rfl, hh⟩
  replace hC := hC.quiet hh
  replace hW := hW.quiet hh
  replace hS := hS.quiet hh
  replace hF := hF.quiet hh
  replace hR := Rd.quiet hR hh
  replace hG := hG.trans hh
  clear hh
  refine hK.out _ _ ?_ (fun hHeld => ?_)
  · exact (hF.cell 0)
  clear hK K
  try simp only [Act.put, List.setIfInBounds_toArray, List.set_cons_zero, List.set_cons_succ]
  refine wpAnyH_ready (rs := [6]) (by kernel_rfl) (by simp) ?_
  refine AllReadyH.cons (o := { dst := some 12, op := Op.call { callee := Callee.value (Operand.func 44), args := #[Operand.tmp 8, Operand.tmp 11], argTypes := #[3, 3] }, type := 3, pos := _, after := #[{ on := 2, ground := Ground.data }, { on := 5, ground := Ground.data }, { on := 5, ground := Ground.chain }], guard := none }) rfl (fun K hK => ?_) AllReadyH.nil
  go_simp
  refine (compareI_c _ _ _).mono ?_
  rintro e w' ⟨rfl, rfl⟩
  refine hK.out _ _ ?_ (fun hHeld => ?_)
  · exact (hF.cell 0)
  clear hK K
  try simp only [Act.put, List.setIfInBounds_toArray, List.set_cons_zero, List.set_cons_succ]
  refine wpAnyH_take (i := 7) (oi := { dst := some 5, op := Op.assign (Operand.tmp 12), type := 3, pos := _, after := #[{ on := 6, ground := Ground.data }, { on := 6, ground := Ground.chain }, { on := 0, ground := Ground.phase }, { on := 1, ground := Ground.phase }, { on := 2, ground := Ground.phase }, { on := 3, ground := Ground.phase }, { on := 4, ground := Ground.phase }, { on := 5, ground := Ground.phase }, { on := 6, ground := Ground.phase }], guard := none }) (v := ?_) rfl (by kernel_rfl) (by kernel_rfl) (by kernel_rfl) (fun _ _ _ h => h) (Or.inl ⟨by rfl, ?_⟩) (by assumption) ?_
  rotate_left
  · (intro w hSw; have z0 := hSw; clear hSw; (go_simp <;> with_reducible rfl))
  try simp only [Act.put, List.setIfInBounds_toArray, List.set_cons_zero, List.set_cons_succ]
  refine wpAnyH_done (by kernel_rfl) ?_ _
  clear hHeld
  go_wp2_with fail
  go_ret
  exact ⟨rfl, hG⟩
theorem mkCells (n : Nat) : madeCells (Value.cells (.int .i64 0)) n = ic (List.replicate n 0) := by
  apply Array.ext
  · simp [madeCells, ic]
  · intro k h1 h2
    simp [madeCells, ic, Value.cells, Nat.mod_one]
theorem mkInts (n : Nat) (hn : n ≤ 1000) (w : World) : (Instr.makeSlice 22 (.int .i64 (n : Int)) (.int .i64 (n : Int))).run Tryd.prog w = .ok (.slice (some ⟨w.heap.size, 0, none⟩) n n) (w.alloc (.cells (ic (List.replicate n 0)) 3)) := by
  obtain ⟨i0, hi, hz0, hz1, hz2⟩ := info_parts (show (Tryd.prog.info? 3).map (fun i => (i.zero, i.size, i.bytes)) = some (some (.int .i64 0), 1, 8) by kernel_rfl)
  have h := run_make (P := Tryd.prog) w 22 3 i0 (.int .i64 0) Tryd.underlying22 hi hz0 .i64 .i64 n n (by omega) (by omega) (by rw [hz2]; omega) (by omega)
  rw [h, hz1, Int.toNat_natCast, Nat.mul_one, mkCells]
def flI (c : Int) (ws : List Int) (i : Nat) : Int := c * ws.getD i 0 / ws.sum
def pK (c : Int) (ws : List Int) (k : Nat) : List Int := (List.range ws.length).map fun i => if i < k then flI c ws i else 0
def oK (n k : Nat) : List Int := (List.range n).map fun i => if i < k then (i : Int) else 0
def lK (c : Int) (ws : List Int) (k : Nat) : Int := c - ((List.range k).map (flI c ws)).sum
theorem pK_len (c : Int) (ws : List Int) (k : Nat) : (pK c ws k).length = ws.length := by simp [pK]
theorem oK_len (n k : Nat) : (oK n k).length = n := by simp [oK]
theorem pK_0 (c : Int) (ws : List Int) : pK c ws 0 = List.replicate ws.length 0 := by
  apply List.ext_getElem <;> simp [pK]
theorem oK_0 (n : Nat) : oK n 0 = List.replicate n 0 := by
  apply List.ext_getElem <;> simp [oK]
theorem pK_step (c : Int) (ws : List Int) (k : Nat) : (pK c ws k).set k (flI c ws k) = pK c ws (k + 1) := by
  apply List.ext_getElem
  · simp [pK]
  · intro i h1 h2
    simp only [pK, List.getElem_set, List.getElem_map, List.getElem_range]
    by_cases h : k = i
    · rw [if_pos h, if_pos (by omega), h]
    · rw [if_neg h]
      by_cases q : i < k
      · rw [if_pos q, if_pos (by omega)]
      · rw [if_neg q, if_neg (by omega)]
theorem oK_step (n k : Nat) : (oK n k).set k (k : Int) = oK n (k + 1) := by
  apply List.ext_getElem
  · simp [oK]
  · intro i h1 h2
    simp only [oK, List.getElem_set, List.getElem_map, List.getElem_range]
    by_cases h : k = i
    · rw [if_pos h, if_pos (by omega), h]
    · rw [if_neg h]
      by_cases q : i < k
      · rw [if_pos q, if_pos (by omega)]
      · rw [if_neg q, if_neg (by omega)]
theorem lK_step (c : Int) (ws : List Int) (k : Nat) : lK c ws (k + 1) = lK c ws k - flI c ws k := by
  unfold lK
  rw [List.range_succ, List.map_append, List.sum_append]
  simp
  omega
theorem fl_bnd {c : Int} {ws : List Int} (he : spE c ws = 0) (i : Nat) : 0 ≤ flI c ws i ∧ flI c ws i ≤ 5761440000000000 := by
  obtain ⟨h1, h2, h3, h4⟩ := spE_ok he
  have hs := (spA_bnd h3).1
  have hg : 0 ≤ ws.getD i 0 ∧ ws.getD i 0 ≤ 5761440 := by
    rw [List.getD_eq_getElem?_getD]
    cases hp : ws[i]? with
    | none => simp
    | some p => have := h3 p (List.mem_of_getElem? hp); unfold inB at this; simpa using this
  have hp1 : 0 ≤ c * ws.getD i 0 := Int.mul_nonneg h1.1 hg.1
  have hp2 : c * ws.getD i 0 ≤ 1000000000 * 5761440 := Int.mul_le_mul h1.2 hg.2 hg.1 (by omega)
  unfold flI
  refine ⟨Int.ediv_nonneg hp1 hs, ?_⟩
  have := Int.ediv_le_self (ws.sum) hp1
  omega
theorem lK_bnd {c : Int} {ws : List Int} (he : spE c ws = 0) : ∀ k : Nat, k ≤ 1000 → -(5761440000000000 * (k : Int)) ≤ lK c ws k ∧ lK c ws k ≤ 1000000000
  | 0, _ => by have := (spE_ok he).1; unfold lK; simp; omega
  | k + 1, h => by
    have ih := lK_bnd he k (by omega)
    have q := fl_bnd he k
    rw [lK_step]
    push_cast
    omega
theorem sum_mul (c : Int) : ∀ l : List Int, (l.map (c * ·)).sum = c * l.sum
  | [] => by simp
  | x :: r => by simp only [List.map_cons, List.sum_cons, sum_mul c r]; rw [Int.mul_add]
theorem map_getD (ws : List Int) (f : Int → Int) : (List.range ws.length).map (fun i => f (ws.getD i 0)) = ws.map f := by
  apply List.ext_getElem
  · simp
  · intro i h1 h2
    simp at h1
    simp [List.getD, h1]
theorem own_bk {w : World} {g base n : Nat} {l : List Int} (h : Bk w g 3 (ic l)) (hb : base ≤ g) (hn : l.length = n) (hm : n ≤ 1000) : OwnIn w base (.slice (some ⟨g, 0, none⟩) n n) l := by
  subst hn
  have hsz : (ic l).size = l.length := by simp [ic]
  refine ⟨by rw [rowL_len inC_sz], .inr ⟨g, l.length, ic l, rfl, hb, h, Nat.le_refl _, by unfold maxLen; omega, by rw [hsz, Nat.mul_one], ?_⟩⟩
  rw [in_rowL, Nat.mul_one]
  have e : (ic l).toList = l.map (Value.int .i64) := by simp [ic]
  rw [e, List.take_of_length_le (by simp)]
theorem oK_mem {n : Nat} {z : Int} (h : z ∈ oK n n) : ∃ i : Nat, i < n ∧ z = (i : Int) := by
  unfold oK at h
  obtain ⟨i, hi, rfl⟩ := List.mem_map.1 h
  have := List.mem_range.1 hi
  exact ⟨i, this, by rw [if_pos this]⟩
theorem insJ_mem {α : Type} (c : α → α → Bool) : ∀ (j : Nat) (l : List α), ∀ z ∈ insJ c j l, z ∈ l
  | 0, _, _, h => h
  | j + 1, l, z, h => by
    unfold insJ at h
    split at h
    · next x y hx hy =>
      split at h
      · have h2 := insJ_mem c j _ z h
        rcases List.mem_or_eq_of_mem_set h2 with h2 | rfl
        · rcases List.mem_or_eq_of_mem_set h2 with h2 | rfl
          · exact h2
          · exact List.mem_of_getElem? hy
        · exact List.mem_of_getElem? hx
      · exact h
    · exact h
theorem isF_mem {α : Type} (c : α → α → Bool) : ∀ (n i : Nat) (l : List α), ∀ z ∈ isF c n i l, z ∈ l
  | 0, _, _, _, h => h
  | n + 1, i, l, z, h => insJ_mem c i l z (isF_mem c n (i + 1) _ z h)
theorem isrt_mem {α : Type} (c : α → α → Bool) (l : List α) : ∀ z ∈ isrt c l, z ∈ l := isF_mem c _ _ l
/-- What is left is no more than there are parts. -/
theorem lf_bnd {c : Int} {ws : List Int} (he : spE c ws = 0) : 0 ≤ lK c ws ws.length ∧ lK c ws ws.length ≤ (ws.length : Int) := by
  obtain ⟨h1, h2, h3, h4⟩ := spE_ok he
  have hs := spA_bnd h3
  have hs0 : 0 < ws.sum := by omega
  have hfl : (List.range ws.length).map (flI c ws) = ws.map (fun x => c * x / ws.sum) := map_getD ws (fun x => c * x / ws.sum)
  have key : ∀ l : List Int, ws.sum * (l.map (fun x => c * x / ws.sum)).sum ≤ c * l.sum ∧ c * l.sum ≤ ws.sum * (l.map (fun x => c * x / ws.sum)).sum + ws.sum * (l.length : Int) := by
    intro l
    induction l with
    | nil => simp
    | cons x r ih =>
      have e1 := Int.emod_nonneg (c * x) (show ws.sum ≠ 0 by omega)
      have e2 := Int.emod_lt_of_pos (c * x) hs0
      have e3 := Int.mul_ediv_add_emod (c * x) ws.sum
      simp only [List.map_cons, List.sum_cons, List.length_cons]
      rw [Int.mul_add, Int.mul_add]
      push_cast
      rw [Int.mul_add]
      omega
  have k1 := key ws
  unfold lK
  rw [hfl]
  obtain ⟨a1, a2⟩ := k1
  generalize (ws.map (fun x => c * x / ws.sum)).sum = F at a1 a2 ⊢
  have b1 : ws.sum * F ≤ ws.sum * c := by rw [Int.mul_comm ws.sum c]; exact a1
  have b2 : ws.sum * c ≤ ws.sum * (F + (ws.length : Int)) := by rw [Int.mul_add, Int.mul_comm ws.sum c]; exact a2
  have c1 := Int.le_of_mul_le_mul_left b1 hs0
  have c2 := Int.le_of_mul_le_mul_left b2 hs0
  omega
/-- The order in which parts get one more. -/
def spO (c : Int) (ws : List Int) : List Int := isrt (fun x y : Int => decide (cpI (restI c ws y.toNat) (restI c ws x.toNat) < 0)) (oK ws.length ws.length)
def incI (l : List Int) (i : Int) : List Int := l.set i.toNat (l.getD i.toNat 0 + 1)
def spP (c : Int) (ws : List Int) : List Int := ((spO c ws).take (lK c ws ws.length).toNat).foldl incI (pK c ws ws.length)
def SpRel (w : World) (c : Int) (v : Value) (ws : List Int) (gC gW gS gP gO : Nat) (s10 s34 : Value) (wr : World) : Prop :=
  ∃ k : Nat, k ≤ ws.length ∧ s34 = .int .i64 k ∧ s10 = .int .i64 (lK c ws k) ∧ Bk wr gP 3 (ic (pK c ws k)) ∧ Bk wr gO 3 (ic (oK ws.length k)) ∧ Bk wr gC 3 #[.int .i64 c] ∧ Bk wr gW 22 #[v] ∧ Bk wr gS 3 #[.int .i64 ws.sum] ∧ G w wr none
def SqRel (w : World) (gP base n lf : Nat) (SO P0 : List Int) (s66 : Value) (wr : World) : Prop :=
  ∃ (k : Nat) (P : List Int), k ≤ lf ∧ s66 = .int .i64 k ∧ (SO.take k).foldl incI P0 = P ∧ P.length = n ∧ (∀ i : Nat, 0 ≤ P.getD i 0 ∧ P.getD i 0 ≤ 5761440000000000 + (k : Int)) ∧ Bk wr gP 3 (ic P) ∧ OwnIn wr base (.slice (some ⟨base, 0, none⟩) n n) SO ∧ G w wr none
theorem pK_bnd {c : Int} {ws : List Int} (he : spE c ws = 0) (i : Nat) : 0 ≤ (pK c ws ws.length).getD i 0 ∧ (pK c ws ws.length).getD i 0 ≤ 5761440000000000 := by
  rw [List.getD_eq_getElem?_getD]
  cases h : (pK c ws ws.length)[i]? with
  | none => simp
  | some z =>
    have hm := List.mem_of_getElem? h
    unfold pK at hm
    obtain ⟨j, hj, rfl⟩ := List.mem_map.1 hm
    rw [if_pos (List.mem_range.1 hj)]
    exact fl_bnd he j
set_option maxRecDepth 100000 in
set_option maxHeartbeats 8000000 in
theorem split_c (c : Int) (v : Value) (ws : List Int) (w : World) (hr : RdI w v ws) (hn : ws.length < 20) :
    Calls Tryd.prog 8 #[.int .i64 c, v] w fun e w' => ∃ v', e = .returned (.tuple #[v', .int .i64 (spE c ws)]) ∧ RdI w' v' (if spE c ws = 0 then spP c ws else []) ∧ G w w' none := by
  obtain ⟨a, cap, rfl, hcap, hm⟩ := RdR.form hr
  have hC := (Bk.new w 3 #[.int .i64 c]).alloc (.cells #[.slice a ws.length cap] 22)
  have hW := Bk.newAt (w := w.alloc (.cells #[.int .i64 c] 3)) (b := w.heap.size + 1) (by simp) 22 #[.slice a ws.length cap]
  have hG := ((G.refl w none).alloc (.cells #[.int .i64 c] 3)).alloc (.cells #[.slice a ws.length cap] 22)
  have HR := Lib.hid hr
  obtain ⟨RS, hRS⟩ : ∃ RS, (if spE c ws = 0 then spP c ws else []) = RS := ⟨_, rfl⟩
  have HRS := Lib.hid hRS
  rw [hRS]
  clear hRS hr
  obtain ⟨E, hE⟩ : ∃ E, spE c ws = E := ⟨_, rfl⟩
  have HE := Lib.hid hE
  rw [hE]
  clear hE
  go_enter Tryd.func8, Tryd.ntmps8
  go_upto_region 1 with fail
  generalize (w.alloc (.cells #[.int .i64 c] 3)).alloc (.cells #[.slice a ws.length cap] 22) = w2 at hC hW hG ⊢
  have c0 : w2.cell? ⟨w.heap.size, 0, none⟩ = some (.int .i64 c) := hC.cell 0
  have c1 : w2.cell? ⟨w.heap.size + 1, 0, none⟩ = some (.slice a ws.length cap) := hW.cell 0
  go_wp2_with fail
  refine (checkSplit_c c _ ws _ (Rd.quiet HR.out hG) (by omega)).mono ?_; rintro e w3 ⟨rfl, hh⟩
  rw [HE.out]
  have hC3 := (hC.quiet hh).alloc (.cells #[.int .i64 (spS c ws)] 3)
  have hW3 := (hW.quiet hh).alloc (.cells #[.int .i64 (spS c ws)] 3)
  have hS3 := Bk.new w3 3 #[.int .i64 (spS c ws)]
  have hG3 := (hG.trans hh).alloc (.cells #[.int .i64 (spS c ws)] 3)
  have hlt3 : w.heap.size + 1 < w3.heap.size := (hW.quiet hh).lt
  clear hC hW hG hh c0 c1
  go_upto_region 2 with fail
  generalize w3.alloc (.cells #[.int .i64 (spS c ws)] 3) = w4 at hC3 hW3 hS3 hG3 ⊢
  generalize w3.heap.size = gS at hS3 hlt3 ⊢
  by_cases k1 : E = 0
  · subst k1
    have hsum : spS c ws = ws.sum := by unfold spS; rw [if_pos HE.out]
    rw [hsum] at hS3
    have HRP : Hid (RS = spP c ws) := Lib.hid (by rw [← HRS.out, if_pos HE.out])
    clear hsum HRS
    have c1 : w4.cell? ⟨w.heap.size + 1, 0, none⟩ = some (.slice a ws.length cap) := hW3.cell 0
    have c0 : w4.cell? ⟨w.heap.size, 0, none⟩ = some (.int .i64 c) := hC3.cell 0
    have hmk := fun w => mkInts ws.length (by omega) w
    have hlt4 := hS3.lt
    have hP5 := (Bk.new w4 3 (ic (List.replicate ws.length 0))).alloc (.cells (ic (List.replicate ws.length 0)) 3)
    have hO5 := Bk.newAt (w := w4.alloc (.cells (ic (List.replicate ws.length 0)) 3)) (b := w4.heap.size + 1) (by simp) 3 (ic (List.replicate ws.length 0))
    have hC5 := (hC3.alloc (.cells (ic (List.replicate ws.length 0)) 3)).alloc (.cells (ic (List.replicate ws.length 0)) 3)
    have hW5 := (hW3.alloc (.cells (ic (List.replicate ws.length 0)) 3)).alloc (.cells (ic (List.replicate ws.length 0)) 3)
    have hS5 := (hS3.alloc (.cells (ic (List.replicate ws.length 0)) 3)).alloc (.cells (ic (List.replicate ws.length 0)) 3)
    have hG5 := (hG3.alloc (.cells (ic (List.replicate ws.length 0)) 3)).alloc (.cells (ic (List.replicate ws.length 0)) 3)
    have c1a : (w4.alloc (.cells (ic (List.replicate ws.length 0)) 3)).cell? ⟨w.heap.size + 1, 0, none⟩ = some (.slice a ws.length cap) := (hW3.alloc (.cells (ic (List.replicate ws.length 0)) 3)).cell 0
    go_upto_region 6 with fail
    clear c0 c1 c1a hmk
    generalize (w4.alloc (.cells (ic (List.replicate ws.length 0)) 3)).alloc (.cells (ic (List.replicate ws.length 0)) 3) = w5 at hP5 hO5 hC5 hW5 hS5 hG5 ⊢
    have hgw := hG3.size
    generalize w4.heap.size = gP at hP5 hO5 hlt4 hgw ⊢
    rw [← pK_0 c ws] at hP5
    rw [← oK_0 ws.length] at hO5
    clear hC3 hW3 hS3 hG3
    have c0 : w5.cell? ⟨w.heap.size, 0, none⟩ = some (.int .i64 c) := hC5.cell 0
    have c1 : w5.cell? ⟨w.heap.size + 1, 0, none⟩ = some (.slice a ws.length cap) := hW5.cell 0
    go_wp2_with fail
    go_loopw [10, 34] (SpRel w c (.slice a ws.length cap) ws w.heap.size (w.heap.size + 1) gS gP (gP + 1)) (fun _ i _ => ws.length - (intOf i).toNat)
    case atStart => exact ⟨0, by omega, rfl, by rw [show lK c ws 0 = c by simp [lK]], hP5, hO5, hC5, hW5, hS5, hG5⟩
    case round =>
      clear c0 c1 hP5 hO5 hC5 hW5 hS5 hG5
      obtain ⟨k, hk, rfl, rfl, hP, hO, hC, hW, hS, hG⟩ := hrel
      by_cases hlt : k < ws.length
      · obtain ⟨p, hp⟩ : ∃ p, ws[k]? = some p := ⟨_, List.getElem?_eq_getElem hlt⟩
        obtain ⟨h1, h2, h3, h4⟩ := spE_ok HE.out
        have hpb : 0 ≤ p ∧ p ≤ 5761440 := by have := h3 p (List.mem_of_getElem? hp); unfold inB at this; simpa using this
        have hfl : flI c ws k = c * p / ws.sum := by unfold flI; rw [List.getD_eq_getElem?_getD, hp]; rfl
        obtain ⟨bb, bo, rfl, -, -⟩ := RdR.elem inC_sz HR.out hG hp
        have hc := RdR.cell inC_sz HR.out hG hp 0 (.int .i64 p) rfl
        simp only [Nat.add_zero, Nat.mul_one] at hc
        have hsb := (spA_bnd h3)
        have hp1 : 0 ≤ c * p := Int.mul_nonneg h1.1 hpb.1
        have hp2 : c * p ≤ 1000000000 * 5761440 := Int.mul_le_mul h1.2 hpb.2 hpb.1 (by omega)
        have hfb := fl_bnd HE.out k
        have hlb := lK_bnd HE.out k (by omega)
        have HST := Lib.hid (lK_step c ws k)
        have HPS := Lib.hid (pK_step c ws k)
        have HOS := Lib.hid (oK_step ws.length k)
        have HGP : Hid ((pK c ws (k + 1)).getD k 0 = flI c ws k) := Lib.hid (by simp [pK, List.getD, hlt])
        obtain ⟨fl, hfl2⟩ : ∃ fl, flI c ws k = fl := ⟨_, rfl⟩
        rw [hfl2] at hfl hfb HST HPS HGP
        clear hfl2
        obtain ⟨s, hse⟩ : ∃ s, ws.sum = s := ⟨_, rfl⟩
        rw [hse] at hfl hsb h4 hS
        have HSE := Lib.hid hse
        clear hse
        obtain ⟨m, hm2⟩ : ∃ m, c * p = m := ⟨_, rfl⟩
        have hw1 : IntKind.i64.wrap (c * p) = m := by rw [hm2, IntKind.wrap_i64]; omega
        rw [hm2] at hp1 hp2 hfl
        have htd : m.tdiv s = fl := by rw [Int.tdiv_eq_ediv_of_nonneg hp1, hfl]
        have hed : m / s = fl := hfl.symm
        have hwf : IntKind.i64.wrap fl = fl := by rw [IntKind.wrap_i64]; omega
        have hwl : IntKind.i64.wrap (lK c ws k - fl) = lK c ws (k + 1) := by rw [HST.out, IntKind.wrap_i64]; omega
        have hsn : ¬ s = 0 := by omega
        have HK := Lib.hid hlt
        have hki : (k : Int) < (ws.length : Int) := by omega
        have k0 : (0 : Int) ≤ (k : Int) := by omega
        have d0 : wr.cell? ⟨w.heap.size, 0, none⟩ = some (.int .i64 c) := hC.cell 0
        have d1 : wr.cell? ⟨gS, 0, none⟩ = some (.int .i64 s) := hS.cell 0
        have d2 : wr.cell? ⟨gP, k, none⟩ = some (.int .i64 ((pK c ws k).getD k 0)) := (hP.cell k).trans (ic_at _ k (by rw [pK_len]; omega))
        have d3 := hP.free k
        clear hp h1 h2 h3 h4 hpb hsb hp1 hp2 hfb hlb hm2 hfl
        go_upto_region 11 with fail
        have hne : ∀ g, g ≠ gP → g ≠ (⟨gP, k, none⟩ : Addr).block := fun g h => h
        have hP6 : Bk (wr.setCell ⟨gP, k, none⟩ (.int .i64 fl)) gP 3 (ic (pK c ws (k + 1))) := by
          have h := hP.set k (.int .i64 fl)
          rw [ic_set, HPS.out] at h
          exact h
        have hO6 := hO.far (p := ⟨gP, k, none⟩) (show gP + 1 ≠ gP by omega) (.int .i64 fl)
        have hC6 := hC.far (p := ⟨gP, k, none⟩) (show w.heap.size ≠ gP by omega) (.int .i64 fl)
        have hW6 := hW.far (p := ⟨gP, k, none⟩) (show w.heap.size + 1 ≠ gP by omega) (.int .i64 fl)
        have hS6 := hS.far (p := ⟨gP, k, none⟩) (show gS ≠ gP by omega) (.int .i64 fl)
        have hG6 := hG.setCell (p := ⟨gP, k, none⟩) (.inl (show w.heap.size ≤ gP by omega)) (.int .i64 fl)
        clear d0 d1 d2 d3 hP hO hC hW hS hG hne hc
        generalize wr.setCell ⟨gP, k, none⟩ (.int .i64 fl) = w6 at hP6 hO6 hC6 hW6 hS6 hG6 ⊢
        have d2 : w6.cell? ⟨gP, k, none⟩ = some (.int .i64 fl) := by
          have h := (hP6.cell k).trans (ic_at _ k (by rw [pK_len]; omega))
          rwa [HGP.out] at h
        have d3 : w6.cell? ⟨gP + 1, k, none⟩ = some (.int .i64 ((oK ws.length k).getD k 0)) := (hO6.cell k).trans (ic_at _ k (by rw [oK_len]; omega))
        have d4 := hO6.free k
        go_upto_region 13 with fail
        have hO7 : Bk (w6.setCell ⟨gP + 1, k, none⟩ (.int .i64 k)) (gP + 1) 3 (ic (oK ws.length (k + 1))) := by
          have h := hO6.set k (.int .i64 k)
          rw [ic_set, HOS.out] at h
          exact h
        have hP7 := hP6.far (p := ⟨gP + 1, k, none⟩) (show gP ≠ gP + 1 by omega) (.int .i64 k)
        have hC7 := hC6.far (p := ⟨gP + 1, k, none⟩) (show w.heap.size ≠ gP + 1 by omega) (.int .i64 k)
        have hW7 := hW6.far (p := ⟨gP + 1, k, none⟩) (show w.heap.size + 1 ≠ gP + 1 by omega) (.int .i64 k)
        have hS7 := hS6.far (p := ⟨gP + 1, k, none⟩) (show gS ≠ gP + 1 by omega) (.int .i64 k)
        have hG7 := hG6.setCell (p := ⟨gP + 1, k, none⟩) (.inl (show w.heap.size ≤ gP + 1 by omega)) (.int .i64 k)
        clear d2 d3 d4 hP6 hO6 hC6 hW6 hS6 hG6
        generalize w6.setCell ⟨gP + 1, k, none⟩ (.int .i64 k) = w7 at hP7 hO7 hC7 hW7 hS7 hG7 ⊢
        go_wp2_with fail
        go_roundw
        case rel => exact ⟨k + 1, by omega, by go_num, rfl, hP7, hO7, hC7, hW7, by rw [HSE.out]; exact hS7, hG7⟩
        case measure => have := HK.out; simp [intOf]; omega
      · obtain rfl : k = ws.length := by omega
        have hlft := lf_bnd HE.out
        have hlw := lK_bnd HE.out ws.length (by omega)
        have hF8 := Bk.new wr 73 #[.func (.func 41) #[] #[.pointer (some ⟨w.heap.size, 0, none⟩), .pointer (some ⟨w.heap.size + 1, 0, none⟩), .pointer (some ⟨gS, 0, none⟩)]]
        have hC8 := hC.alloc (.cells #[.func (.func 41) #[] #[.pointer (some ⟨w.heap.size, 0, none⟩), .pointer (some ⟨w.heap.size + 1, 0, none⟩), .pointer (some ⟨gS, 0, none⟩)]] 73)
        have hW8 := hW.alloc (.cells #[.func (.func 41) #[] #[.pointer (some ⟨w.heap.size, 0, none⟩), .pointer (some ⟨w.heap.size + 1, 0, none⟩), .pointer (some ⟨gS, 0, none⟩)]] 73)
        have hS8 := hS.alloc (.cells #[.func (.func 41) #[] #[.pointer (some ⟨w.heap.size, 0, none⟩), .pointer (some ⟨w.heap.size + 1, 0, none⟩), .pointer (some ⟨gS, 0, none⟩)]] 73)
        have hP8 := hP.alloc (.cells #[.func (.func 41) #[] #[.pointer (some ⟨w.heap.size, 0, none⟩), .pointer (some ⟨w.heap.size + 1, 0, none⟩), .pointer (some ⟨gS, 0, none⟩)]] 73)
        have hO8 := hO.alloc (.cells #[.func (.func 41) #[] #[.pointer (some ⟨w.heap.size, 0, none⟩), .pointer (some ⟨w.heap.size + 1, 0, none⟩), .pointer (some ⟨gS, 0, none⟩)]] 73)
        have hG8 := hG.alloc (.cells #[.func (.func 41) #[] #[.pointer (some ⟨w.heap.size, 0, none⟩), .pointer (some ⟨w.heap.size + 1, 0, none⟩), .pointer (some ⟨gS, 0, none⟩)]] 73)
        have hlO := hO.lt
        clear hC hW hS hP hO hG
        obtain ⟨lf, hlf⟩ := Int.eq_ofNat_of_zero_le hlft.1
        have HLF := Lib.hid hlf
        rw [hlf] at hlft ⊢
        have hlfn : lf ≤ ws.length := by omega
        have hn0 : ¬ ws.length = 0 := by
          intro e
          have := (spE_ok HE.out).2.2.2
          rw [List.eq_nil_of_length_eq_zero e] at this
          exact this rfl
        clear hlf hlw hlft
        go_upto_region 15 with fail
        generalize wr.alloc (.cells #[.func (.func 41) #[] #[.pointer (some ⟨w.heap.size, 0, none⟩), .pointer (some ⟨w.heap.size + 1, 0, none⟩), .pointer (some ⟨gS, 0, none⟩)]] 73) = w8 at hF8 hC8 hW8 hS8 hP8 hO8 hG8 ⊢
        have hFr : gP + 1 < wr.heap.size := hlO
        generalize wr.heap.size = gF at hF8 hFr ⊢
        have hown8 : OwnIn w8 (gP + 1) (.slice (some ⟨gP + 1, 0, none⟩) ws.length ws.length) (oK ws.length ws.length) := own_bk hO8 (Nat.le_refl _) (oK_len _ _) (by omega)
        have hal : ∀ (x y : Int) (w' : World), x ∈ oK ws.length ws.length → y ∈ oK ws.length ws.length → GS (S1 (.slice (some ⟨gP + 1, 0, none⟩) ws.length ws.length)) w8 w' → Calls Tryd.prog 43 (#[.int .i64 x, .int .i64 y] ++ #[.pointer (some ⟨gF, 0, none⟩)]) w' fun e w'' => e = .returned (.int .i64 (cpI (restI c ws y.toNat) (restI c ws x.toNat))) ∧ G w' w'' none := by
          intro x y w' hx hy hg
          obtain ⟨i, hi, rfl⟩ := oK_mem hx
          obtain ⟨j, hj, rfl⟩ := oK_mem hy
          have nb : ∀ k, k ≠ gP + 1 → ¬ S1 (.slice (some ⟨gP + 1, 0, none⟩) ws.length ws.length) k := fun k hk e => hk (Option.some.inj e).symm
          rw [Int.toNat_natCast, Int.toNat_natCast]
          have hq := crest_c c ws (.slice a ws.length cap) i j w.heap.size (w.heap.size + 1) gS gF w' HE.out hi hj (hC8.gs hg (nb _ (by omega))) (hW8.gs hg (nb _ (by omega))) (hS8.gs hg (nb _ (by omega))) (hF8.gs hg (nb _ (by omega))) (Rd.gs (Rd.quiet HR.out hG8) hg (fun k e => nb _ (by have := Rd.blk HR.out k e; omega)))
          exact hq
        have CST := Lib.hid (sortStable_c 43 #[.pointer (some ⟨gF, 0, none⟩)] (fun x y => cpI (restI c ws y.toNat) (restI c ws x.toNat)) _ _ _ w8 cf_crest hal hown8 (by rw [oK_len]; exact hn))
        clear hal hown8
        go_wp2_with fail
        refine CST.out.mono ?_; rintro e w9 ⟨rfl, hown9, hS9⟩
        clear CST
        have hown9 : OwnIn w9 (gP + 1) (.slice (some ⟨gP + 1, 0, none⟩) ws.length ws.length) (spO c ws) := hown9
        have hP9 := hP8.gs hS9 (fun e => by have : gP + 1 = gP := Option.some.inj e; omega)
        have hG9 := GS.own hG8 hS9 (fun k e => by have : gP + 1 = k := Option.some.inj e; omega)
        have hlO9 : (spO c ws).length = ws.length := by unfold spO isrt; rw [isF_len, oK_len]
        have HOM := Lib.hid (fun z hz => oK_mem (isrt_mem _ (oK ws.length ws.length) z hz) : ∀ z ∈ spO c ws, ∃ i : Nat, i < ws.length ∧ z = (i : Int))
        clear hP8 hO8 hF8 hC8 hW8 hS8 hG8 hS9
        have HRP2 : Hid (RS = ((spO c ws).take lf).foldl incI (pK c ws ws.length)) := Lib.hid (by rw [HRP.out, spP, HLF.out, Int.toNat_natCast])
        clear HRP
        generalize spO c ws = SO at hown9 hlO9 HOM HRP2
        have hP9l := pK_len c ws ws.length
        have hbd : ∀ i : Nat, 0 ≤ (pK c ws ws.length).getD i 0 ∧ (pK c ws ws.length).getD i 0 ≤ 5761440000000000 := pK_bnd HE.out
        generalize pK c ws ws.length = P0 at hP9 hP9l hbd HRP2
        have l0 : (0 : Int) ≤ (lf : Int) := by omega
        have l1 : (lf : Int) ≤ (ws.length : Int) := by omega
        go_wp2_with fail
        go_loopw [66] (SqRel w gP (gP + 1) ws.length lf SO P0) (fun i _ => lf - (intOf i).toNat)
        case atStart => exact ⟨0, P0, by omega, rfl, rfl, hP9l, fun i => by have := hbd i; omega, hP9, hown9, hG9⟩
        case round =>
          clear hP9 hown9 hG9 hP9l hbd
          obtain ⟨k, P, hk, rfl, hPe, hPl, hbd, hP, hown, hG⟩ := hrel
          have HPE := Lib.hid hPe
          clear hPe
          by_cases hlt : k < lf
          · obtain ⟨z, hz⟩ : ∃ z, SO[k]? = some z := ⟨_, List.getElem?_eq_getElem (by omega)⟩
            obtain ⟨i, hi, rfl⟩ := HOM.out z (List.mem_of_getElem? hz)
            have HSTEP : Hid ((SO.take (k + 1)).foldl incI P0 = P.set i (P.getD i 0 + 1)) := Lib.hid (by
              rw [List.take_add_one, hz, List.foldl_append, HPE.out]; simp [incI])
            have hc := RdR.cell inC_sz (Rd.of_owns hown) (G.refl _ none) hz 0 (.int .i64 (i : Int)) rfl
            simp only [Nat.add_zero, Nat.mul_one, Nat.zero_add] at hc
            have hb := hbd i
            have HB := Lib.hid hbd
            have d2 : wr.cell? ⟨gP, i, none⟩ = some (.int .i64 (P.getD i 0)) := (hP.cell i).trans (ic_at _ i (by omega))
            have d3 := hP.free i
            have hset := hP.set i (.int .i64 (P.getD i 0 + 1))
            rw [ic_set] at hset
            have hw : IntKind.i64.wrap (P.getD i 0 + 1) = P.getD i 0 + 1 := by rw [IntKind.wrap_i64]; omega
            have hki : (k : Int) < (lf : Int) := by omega
            have hii : (i : Int) < (ws.length : Int) := by omega
            have i0 : (0 : Int) ≤ (i : Int) := by omega
            have hownS := OwnX.far (p := ⟨gP, i, none⟩) hown (OwnX.ne hown (.inl (Nat.lt_succ_self _))) (.int .i64 (P.getD i 0 + 1))
            have hGS := hG.setCell (p := ⟨gP, i, none⟩) (.inl (show w.heap.size ≤ gP by omega)) (.int .i64 (P.getD i 0 + 1))
            have HPL : Hid ((P.set i (P.getD i 0 + 1)).length = ws.length) := Lib.hid (by rw [List.length_set]; exact hPl)
            have HBS : Hid (∀ j : Nat, 0 ≤ (P.set i (P.getD i 0 + 1)).getD j 0 ∧ (P.set i (P.getD i 0 + 1)).getD j 0 ≤ 5761440000000000 + ((k + 1 : Nat) : Int)) := Lib.hid fun j => by
              have hj := HB.out j
              by_cases e : i = j
              · subst e
                rw [List.getD_eq_getElem?_getD, List.getElem?_set_self (by omega)]
                simp only [Option.getD_some]
                push_cast
                omega
              · rw [List.getD_eq_getElem?_getD, List.getElem?_set_ne e, ← List.getD_eq_getElem?_getD]
                push_cast
                omega
            have HK := Lib.hid hlt
            clear hz hbd hb hPl hP hown hG
            generalize P.getD i 0 = PV at HSTEP HPL HBS hset d2 hw hownS hGS ⊢
            go_wp2_with fail
            go_roundw
            case rel => exact ⟨k + 1, P.set i (PV + 1), by omega, by go_num, HSTEP.out, HPL.out, HBS.out, hset, hownS, hGS⟩
            case measure => have := HK.out; simp [intOf]; omega
          · obtain rfl : k = lf := by omega
            go_wp2_with fail
            go_ret2
            exact ⟨_, rfl, by rw [HRP2.out, HPE.out]; exact Rd.of_owns (own_bk hP (Nat.zero_le _) hPl (by omega)), hG⟩
  · have hRS : RS = [] := by rw [← HRS.out, if_neg (by rw [HE.out]; exact k1)]
    have k1' : (E != 0) = true := by simpa using k1
    subst hRS
    clear HRS k1
    go_wp2_with fail
    go_ret2
    exact ⟨_, rfl, RdR.nil (c := inC) _ _, hG3⟩
end Go.Proofs.YtamoefnpfkcigaaDoor

/- Split: who gets one more (mathematics). No program. -/
namespace Go.Proofs.YtamoefnpfkcigaaDoor
open Go.RowKit

/-- A number goes into a list that is told from its end on. -/
def insR {α : Type} (c : α → α → Bool) : List α → α → List α
  | [], x => [x]
  | y :: q, x => if c x y = true then y :: insR c q x else x :: y :: q
theorem insR_perm {α : Type} (c : α → α → Bool) : ∀ (q : List α) (x : α), (insR c q x).Perm (x :: q)
  | [], x => List.Perm.refl _
  | y :: q, x => by
    unfold insR
    split
    · exact ((insR_perm c q x).cons y).trans (List.Perm.swap x y q)
    · exact List.Perm.refl _
theorem insR_mem {α : Type} {c : α → α → Bool} {q : List α} {x z : α} (h : z ∈ insR c q x) : z = x ∨ z ∈ q := by
  have := (insR_perm c q x).mem_iff.1 h
  simpa using this
/-- It stays sorted. -/
theorem insR_sort {α : Type} (c : α → α → Bool) (lt : α → α → Prop) (tr : ∀ a b d, lt a b → lt b d → lt a d) : ∀ (q : List α) (x : α), q.Pairwise (fun a b => lt b a) → (∀ y ∈ q, (c x y = true → lt x y) ∧ (c x y = false → lt y x)) → (insR c q x).Pairwise (fun a b => lt b a)
  | [], x, _, _ => by unfold insR; exact List.pairwise_singleton _ _
  | y :: q, x, h, hc => by
    obtain ⟨h1, h2⟩ := List.pairwise_cons.1 h
    unfold insR
    by_cases hxy : c x y = true
    · rw [if_pos hxy]
      refine List.pairwise_cons.2 ⟨fun z hz => ?_, insR_sort c lt tr q x h2 (fun z hz => hc z (List.mem_cons_of_mem _ hz))⟩
      rcases insR_mem hz with rfl | hz
      · exact (hc y List.mem_cons_self).1 hxy
      · exact h1 z hz
    · rw [if_neg hxy]
      have hyx := (hc y List.mem_cons_self).2 (by simpa using hxy)
      refine List.pairwise_cons.2 ⟨fun z hz => ?_, h⟩
      rcases List.mem_cons.1 hz with rfl | hz
      · exact hyx
      · exact tr _ _ _ (h1 z hz) hyx
/-- What one number's way down is. -/
theorem insJ_eq {α : Type} (c : α → α → Bool) : ∀ (q : List α) (x : α) (s : List α), insJ c q.length (q.reverse ++ x :: s) = (insR c q x).reverse ++ s
  | [], x, s => rfl
  | y :: q, x, s => by
    have hx : ((y :: q).reverse ++ x :: s)[q.length + 1]? = some x := by
      rw [List.getElem?_append_right (by simp)]; simp
    have hy : ((y :: q).reverse ++ x :: s)[q.length]? = some y := by
      rw [List.getElem?_append_left (by simp), List.reverse_cons, List.getElem?_append_right (by simp)]; simp
    rw [List.length_cons, insJ, hx, hy]
    simp only
    unfold insR
    by_cases hc : c x y = true
    · rw [if_pos hc, if_pos hc]
      have e : (((y :: q).reverse ++ x :: s).set (q.length + 1) y).set q.length x = q.reverse ++ x :: (y :: s) := by
        rw [List.reverse_cons, List.append_assoc]
        rw [List.set_append_right _ _ (by simp), List.set_append_right _ _ (by simp)]
        simp
      rw [e, insJ_eq c q x (y :: s)]
      simp
    · rw [if_neg hc, if_neg hc]
      simp
/-- What the whole sort is: the numbers go in, one after the other. -/
theorem isF_eq {α : Type} (c : α → α → Bool) : ∀ (s q : List α), isF c s.length q.length (q.reverse ++ s) = (s.foldl (insR c) q).reverse
  | [], q => by simp [isF]
  | x :: s, q => by
    rw [List.length_cons, isF, insJ_eq c q x s]
    have hl : q.length + 1 = (insR c q x).length := by rw [(insR_perm c q x).length_eq]; rfl
    rw [hl, isF_eq c s (insR c q x)]
    rfl
theorem isrt_eq {α : Type} (c : α → α → Bool) (l : List α) : isrt c l = (l.foldl (insR c) []).reverse := by
  cases l with
  | nil => rfl
  | cons x s =>
    have := isF_eq c s [x]
    simp only [List.reverse_cons, List.reverse_nil, List.nil_append, List.length_cons, List.length_nil, List.cons_append] at this
    unfold isrt
    rw [List.length_cons, Nat.add_sub_cancel]
    rw [show (0 + 1 : Nat) = 1 from rfl] at this
    rw [this]
    rfl
theorem foldR_perm {α : Type} (c : α → α → Bool) : ∀ (s q : List α), (s.foldl (insR c) q).Perm (s ++ q)
  | [], q => List.Perm.refl _
  | x :: s, q => by
    rw [List.foldl_cons]
    refine (foldR_perm c s _).trans ?_
    refine ((insR_perm c q x).append_left s).trans ?_
    exact List.perm_middle
/-- Sorted, where each that goes in is told apart from those that are in. -/
theorem foldR_sort {α : Type} (c : α → α → Bool) (lt : α → α → Prop) (tr : ∀ a b d, lt a b → lt b d → lt a d) : ∀ (s q : List α), q.Pairwise (fun a b => lt b a) → (∀ x ∈ s, ∀ y ∈ q, (c x y = true → lt x y) ∧ (c x y = false → lt y x)) →
    s.Pairwise (fun y x => (c x y = true → lt x y) ∧ (c x y = false → lt y x)) → (s.foldl (insR c) q).Pairwise (fun a b => lt b a)
  | [], q, h, _, _ => h
  | x :: s, q, h, hc, hs => by
    obtain ⟨h1, h2⟩ := List.pairwise_cons.1 hs
    rw [List.foldl_cons]
    refine foldR_sort c lt tr s _ (insR_sort c lt tr q x h (hc x List.mem_cons_self)) (fun z hz y hy => ?_) h2
    rcases insR_mem hy with rfl | hy
    · exact h1 z hz
    · exact hc z (List.mem_cons_of_mem _ hz) y hy
end Go.Proofs.YtamoefnpfkcigaaDoor

/- Split: a part gets one more if fewer others come before it than are left (mathematics). No program. -/
namespace Go.Proofs.YtamoefnpfkcigaaDoor
open Go.RowKit

def ltI (c : Int) (ws : List Int) (a b : Int) : Prop := restI c ws b.toNat < restI c ws a.toNat ∨ (restI c ws a.toNat = restI c ws b.toNat ∧ a < b)
theorem ltI_tr (c : Int) (ws : List Int) (a b d : Int) (h : ltI c ws a b) (k : ltI c ws b d) : ltI c ws a d := by
  unfold ltI at *
  omega
theorem ltI_ir (c : Int) (ws : List Int) (a : Int) : ¬ ltI c ws a a := by
  unfold ltI
  omega
theorem ltI_as {c : Int} {ws : List Int} {a b : Int} (h : ltI c ws a b) : ¬ ltI c ws b a := by
  unfold ltI at *
  omega
theorem cpI_neg' (a b : Int) : decide (cpI a b < 0) = decide (a < b) := by
  unfold cpI
  by_cases h : a < b
  · rw [if_pos h]; simp [h]
  · rw [if_neg h]
    split <;> simp [h]
theorem oK_full (n : Nat) : oK n n = (List.range n).map (fun i : Nat => (i : Int)) := by
  unfold oK
  apply List.map_congr_left
  intro i hi
  rw [if_pos (List.mem_range.1 hi)]
theorem spO_perm (c : Int) (ws : List Int) : (spO c ws).Perm (oK ws.length ws.length) := by
  unfold spO
  rw [isrt_eq]
  have := foldR_perm (fun x y : Int => decide (cpI (restI c ws y.toNat) (restI c ws x.toNat) < 0)) (oK ws.length ws.length) []
  rw [List.append_nil] at this
  exact (List.reverse_perm _).trans this
theorem spO_sort (c : Int) (ws : List Int) : (spO c ws).Pairwise (ltI c ws) := by
  unfold spO
  rw [isrt_eq, List.pairwise_reverse]
  refine foldR_sort _ (ltI c ws) (ltI_tr c ws) _ [] List.Pairwise.nil (fun x _ y hy => by cases hy) ?_
  rw [oK_full, List.pairwise_map]
  refine List.Pairwise.imp ?_ (List.pairwise_lt_range)
  intro y x hyx
  simp only [cpI_neg', decide_eq_true_eq, decide_eq_false_iff_not]
  unfold ltI
  simp only [Int.toNat_natCast]
  omega
instance (c : Int) (ws : List Int) (a b : Int) : Decidable (ltI c ws a b) := by unfold ltI; infer_instance
/-- In a sorted list as many come before one as stand before it. -/
theorem count_at {c : Int} {ws : List Int} {l : List Int} (hs : l.Pairwise (ltI c ws)) {k : Nat} {z : Int} (hz : l[k]? = some z) : l.countP (fun a => decide (ltI c ws a z)) = k := by
  have hk := (List.getElem?_eq_some_iff.1 hz).1
  have e : l = l.take k ++ z :: l.drop (k + 1) := by
    have h0 := List.take_append_drop k l
    rw [List.drop_eq_getElem_cons hk, (List.getElem?_eq_some_iff.1 hz).2] at h0
    exact h0.symm
  have hs2 := hs
  rw [e] at hs2
  obtain ⟨_, h2, h3⟩ := List.pairwise_append.1 hs2
  obtain ⟨h4, _⟩ := List.pairwise_cons.1 h2
  rw [e, List.countP_append, List.countP_cons]
  have a1 : (l.take k).countP (fun a => decide (ltI c ws a z)) = k := by
    rw [List.countP_eq_length.2 (fun a ha => by simpa using h3 a ha z List.mem_cons_self), List.length_take]
    omega
  have a2 : (l.drop (k + 1)).countP (fun a => decide (ltI c ws a z)) = 0 := by
    rw [List.countP_eq_zero]
    intro a ha
    simpa using ltI_as (h4 a ha)
  rw [a1, a2]
  simp [ltI_ir]
theorem mem_take {c : Int} {ws : List Int} {l : List Int} (hs : l.Pairwise (ltI c ws)) {z : Int} (hz : z ∈ l) (m : Nat) : z ∈ l.take m ↔ l.countP (fun a => decide (ltI c ws a z)) < m := by
  constructor
  · intro h
    obtain ⟨k, hk⟩ := List.getElem?_of_mem h
    have hk2 : l[k]? = some z ∧ k < m := by
      rw [List.getElem?_take] at hk
      split at hk
      · exact ⟨hk, by assumption⟩
      · cases hk
    rw [count_at hs hk2.1]
    exact hk2.2
  · intro h
    obtain ⟨k, hk⟩ := List.getElem?_of_mem hz
    rw [count_at hs hk] at h
    exact List.mem_of_getElem? (i := k) (by rw [List.getElem?_take, if_pos h]; exact hk)
theorem incs_get : ∀ (S P : List Int), S.Nodup → (∀ z ∈ S, ∃ i : Nat, i < P.length ∧ z = (i : Int)) → (S.foldl incI P).length = P.length ∧ ∀ j : Nat, j < P.length → (S.foldl incI P).getD j 0 = P.getD j 0 + (if (j : Int) ∈ S then 1 else 0)
  | [], P, _, _ => ⟨rfl, fun j _ => by simp⟩
  | z :: S, P, hn, hz => by
    obtain ⟨i, hi, rfl⟩ := hz z List.mem_cons_self
    obtain ⟨n1, n2⟩ := List.nodup_cons.1 hn
    have hl : (incI P (i : Int)).length = P.length := by simp [incI]
    obtain ⟨g1, g2⟩ := incs_get S (incI P (i : Int)) n2 (fun z hz' => by rw [hl]; exact hz z (List.mem_cons_of_mem _ hz'))
    rw [List.foldl_cons]
    refine ⟨g1.trans hl, fun j hj => ?_⟩
    rw [g2 j (by rw [hl]; exact hj)]
    have hinc : (incI P (i : Int)).getD j 0 = P.getD j 0 + (if j = i then 1 else 0) := by
      unfold incI
      rw [Int.toNat_natCast, List.getD_eq_getElem?_getD]
      by_cases e : i = j
      · subst e
        rw [List.getElem?_set_self hi, if_pos rfl]
        rfl
      · rw [List.getElem?_set_ne e, if_neg (fun q => e q.symm), ← List.getD_eq_getElem?_getD]
        omega
    rw [hinc]
    by_cases e : j = i
    · subst e
      rw [if_pos rfl, if_neg n1, if_pos List.mem_cons_self]
      omega
    · rw [if_neg e]
      have : ((j : Int) ∈ (i : Int) :: S) ↔ (j : Int) ∈ S := by
        rw [List.mem_cons]
        constructor
        · rintro (h | h)
          · exact absurd (by omega) e
          · exact h
        · exact .inr
      by_cases q : (j : Int) ∈ S
      · rw [if_pos q, if_pos (this.2 q)]; omega
      · rw [if_neg q, if_neg (fun x => q (this.1 x))]; omega
/-- Does a part come before another one? -/
def ahB (c : Int) (ws : List Int) (i k : Nat) : Bool := decide (restI c ws i < restI c ws k) || (decide (restI c ws k = restI c ws i) && decide (k < i))
def ahN (c : Int) (ws : List Int) (i : Nat) : Nat := (List.range ws.length).countP (ahB c ws i)
def rfP (c : Int) (ws : List Int) : List Int := (List.range ws.length).map fun i => flI c ws i + (if (ahN c ws i : Int) < lK c ws ws.length then 1 else 0)
theorem spP_eq {c : Int} {ws : List Int} (he : spE c ws = 0) : spP c ws = rfP c ws := by
  have hp := spO_perm c ws
  have hs := spO_sort c ws
  have hnd : (spO c ws).Nodup := hs.imp (fun {a b} h e => by subst e; exact ltI_ir _ _ _ h)
  have hin : ∀ z ∈ (spO c ws).take (lK c ws ws.length).toNat, ∃ i : Nat, i < (pK c ws ws.length).length ∧ z = (i : Int) := fun z hz => by
    rw [pK_len]
    exact oK_mem (hp.mem_iff.1 (List.mem_of_mem_take hz))
  obtain ⟨g1, g2⟩ := incs_get _ _ (hnd.sublist (List.take_sublist _ _)) hin
  have hlf := lf_bnd he
  unfold spP rfP
  apply List.ext_getElem
  · rw [g1, pK_len]; simp
  · intro i h1 h2
    have hi : i < ws.length := by rw [g1, pK_len] at h1; exact h1
    have q := g2 i (by rw [pK_len]; exact hi)
    rw [List.getD_eq_getElem?_getD, List.getElem?_eq_getElem h1] at q
    simp only [Option.getD_some] at q
    rw [q]
    simp only [List.getElem_map, List.getElem_range]
    have hpk : (pK c ws ws.length).getD i 0 = flI c ws i := by simp [pK, List.getD, hi]
    have hmem : (i : Int) ∈ spO c ws := hp.mem_iff.2 (by rw [oK_full]; exact List.mem_map.2 ⟨i, List.mem_range.2 hi, rfl⟩)
    have hcnt : (spO c ws).countP (fun a => decide (ltI c ws a i)) = ahN c ws i := by
      rw [hp.countP_eq, oK_full, List.countP_map]
      unfold ahN
      apply List.countP_congr
      intro k hk
      simp only [Function.comp_apply, ahB, Bool.or_eq_true, Bool.and_eq_true, decide_eq_true_eq]
      unfold ltI
      simp only [Int.toNat_natCast]
      omega
    rw [hpk]
    congr 1
    have hm := mem_take hs hmem (lK c ws ws.length).toNat
    rw [hcnt] at hm
    by_cases h : (i : Int) ∈ (spO c ws).take (lK c ws ws.length).toNat
    · rw [if_pos h, if_pos (by have := hm.1 h; omega)]
    · rw [if_neg h, if_neg (fun q => h (hm.2 (by omega)))]
end Go.Proofs.YtamoefnpfkcigaaDoor

/- Lists of ints compared; marked. -/
namespace Go.Proofs.YtamoefnpfkcigaaDoor
open Go.RowKit

def InqRel (l : List Int) (w : World) (i : Value) (wr : World) : Prop := ∃ k n : Nat, k ≤ l.length ∧ i = .int .i64 k ∧ wr = w.drewN n
set_option maxRecDepth 100000 in
set_option maxHeartbeats 2000000 in
theorem inEqual_c (v u : Value) (l : List Int) (w : World) (hr : RdI w v l) (hs : RdI w u l) (hn : l.length ≤ 1000000) :
    Calls Tryd.prog 10 #[v, u] w fun e w' => e = .returned (.bool true) ∧ G w w' none := by
  have HR := Lib.hid hr
  have HS := Lib.hid hs
  obtain ⟨a, cap, rfl, hcap, hm1⟩ := RdR.form hr
  obtain ⟨a2, cap2, rfl, hcap2, hm2⟩ := RdR.form hs
  clear hr hs
  have hlq : ((l.length : Int) != (l.length : Int)) = false := by simp
  go_enter Tryd.func10, Tryd.ntmps10
  go_wp2_with fail
  go_loopw [13] (InqRel l w) (fun i _ => l.length - (intOf i).toNat)
  case atStart => exact ⟨0, 0, by omega, rfl, rfl⟩
  case round =>
    obtain ⟨k, n, hk, rfl, rfl⟩ := hrel
    by_cases hlt : k < l.length
    · obtain ⟨x, hx⟩ : ∃ x, l[k]? = some x := ⟨_, List.getElem?_eq_getElem hlt⟩
      obtain ⟨bb, bo, rfl, hbb, _⟩ := RdR.elem inC_sz HR.out (G.refl w none) hx
      obtain ⟨b2, o2, rfl, hb2, _⟩ := RdR.elem inC_sz HS.out (G.refl w none) hx
      have d0 := RdR.cell inC_sz HR.out (G.refl w none) hx 0 (.int .i64 x) rfl
      have e0 := RdR.cell inC_sz HS.out (G.refl w none) hx 0 (.int .i64 x) rfl
      simp only [Nat.add_zero, Nat.mul_one] at d0 e0
      have hxx : (x != x) = false := by simp
      clear hx
      go_wp2_with fail
      go_quiet (fail)
      go_wp2_with fail
      go_roundw
      case rel => exact ⟨k + 1, _, by omega, by go_num, rfl⟩
      case measure => simp [intOf]; omega
    · obtain rfl : k = l.length := by omega
      go_wp2_with fail
      go_ret
      exact ⟨rfl, (G.refl _ _).drewN _⟩
theorem sp311 : spE 3 [1, 1] = 0 ∧ spP 3 [1, 1] = [2, 1] := by decide +kernel
set_option maxRecDepth 100000 in
set_option maxHeartbeats 2000000 in
theorem marked_c (w : World) : Calls Tryd.prog 15 #[] w fun e w' => e = .returned (.bool true) ∧ G w w' none := by
  go_enter Tryd.func15, Tryd.ntmps15
  go_wp2_with fail
  refine (split_c 3 _ [1, 1] _ (Rd.new (T := 3) #[.int .i64 1, .int .i64 1] rfl (by show 2 ≤ maxLen; decide)) (by simp)).mono ?_; rintro e w1 ⟨v, rfl, hR, hG1⟩
  rw [if_pos sp311.1, sp311.2] at hR
  rw [sp311.1]
  have hG := ((G.refl w none).alloc (.cells #[.int .i64 1, .int .i64 1] 3)).trans hG1
  obtain ⟨a, c, rfl, -, -⟩ := RdR.form hR
  have hR2 := Rd.quiet hR ((G.refl w1 none).alloc (.cells #[.int .i64 2, .int .i64 1] 3))
  go_wp2_with fail
  refine (inEqual_c _ _ [2, 1] _ hR2 (Rd.new (T := 3) #[.int .i64 2, .int .i64 1] rfl (by show 2 ≤ maxLen; decide)) (by simp)).mono ?_; rintro e w2 ⟨rfl, hh⟩
  go_wp2_with fail
  go_ret
  exact ⟨rfl, (hG.alloc _).trans hh⟩
end Go.Proofs.YtamoefnpfkcigaaDoor
