/- Veh, LotA, LotB, Lots, Has, Open, Next, Min, Quiet, Nof, Errs, Pig, Pck, GenC, Reg, Rek, GenD, Str, Lad, Row, Ixf. -/
import Derived.Test.YtlnoafkepfgooaaDoorZq1
import Derived.Handy
import Derived.BigQuiet
import Derived.Laws.ResultCell
import Derived.Deep.RegionHeld3
import Derived.RegionTactic
import Derived.OrdersHeld
import Derived.Deep.QuietTactic
/- checkVehicles, CheckFleet. -/
namespace Go.Proofs.YtlnoafkepfgooaaDoor
open Go.RowKit

/-- Whether so many vehicles are right, 'ck' being the keys of the classes. -/
def vhErr (ck : List ByteArray) (before : ByteArray) : List Veh → Int
  | [] => 0
  | p :: r => if keyB p.1 = false then 5 else if leB p.1 before = true then 7 else if hasK ck p.2 = false then 8 else vhErr ck p.1 r
def vhE (ck : List ByteArray) (l : List Veh) : Int := if 500 < l.length then 2 else vhErr ck ⟨#[]⟩ l
theorem fl_info (v0 v1 v2 v3 : Value) : (Tryd.prog.info? 101).map (·.size) = some (#[v0, v1, v2, v3] : Array Value).size := (by kernel_rfl : (Tryd.prog.info? 101).map (·.size) = some 4)
def VhRel (w : World) (ck : List ByteArray) (l : List Veh) (v0 v1 v2 v3 : Value) (v i : Value) (wr : World) : Prop :=
  ∃ (k : Nat) (b : ByteArray), k ≤ l.length ∧ i = .int .i64 k ∧ v = .string b ∧ vhErr ck ⟨#[]⟩ l = vhErr ck b (l.drop k) ∧ G w wr none ∧ Bk wr w.heap.size 101 #[v0, v1, v2, v3]
set_option maxRecDepth 100000 in
set_option maxHeartbeats 4000000 in
theorem checkVehicles_c (v0 v1 v2 v3 : Value) (lc : List Cla) (l : List Veh) (w : World) (hc : Rd w 2 v1 lc.length (clL lc)) (hcn : lc.length ≤ 1000) (hcr : Rise (lc.map (·.1))) (hr : Rd w 2 v2 l.length (clL l)) (hl : ClsOk l) (hn : l.length ≤ 1000000) :
    Calls Tryd.prog 91 #[.agg #[v0, v1, v2, v3]] w fun e w' => e = .returned (.int .i64 (vhE (lc.map (·.1)) l)) ∧ G w w' none := by
  obtain ⟨ck, hck⟩ : ∃ ck, lc.map (·.1) = ck := ⟨_, rfl⟩
  have HC := Lib.hid hc
  have HCR := Lib.hid hcr
  have HCK := Lib.hid hck
  rw [hck]
  clear hc hcr hck
  have hr0 := hr
  obtain ⟨a, cap, rfl, hcap, hm, hlen, hnil, hcell⟩ := hr
  have hf2 := (Bk.new w 101 #[v0, v1, Value.slice a l.length cap, v3]).cell 2
  rw [show (#[v0, v1, Value.slice a l.length cap, v3] : Array Value)[2]? = some (.slice a l.length cap) from rfl] at hf2
  by_cases h500 : 500 < l.length
  · have H := Lib.hid (show vhE ck l = 2 by simp [vhE, h500])
    go_enter Tryd.func91, Tryd.ntmps91
    go_wp2_with fail
    go_ret
    exact ⟨by rw [H.out]; rfl, (G.refl _ _).alloc _⟩
  · have H := Lib.hid (show vhE ck l = vhErr ck ⟨#[]⟩ l by simp [vhE, h500])
    go_enter Tryd.func91, Tryd.ntmps91
    go_wp2_with fail
    clear hf2
    go_loopw [3, 13] (VhRel w ck l v0 v1 (.slice a l.length cap) v3) (fun _ i _ => l.length - (intOf i).toNat)
    case atStart => exact ⟨0, ⟨#[]⟩, by omega, rfl, rfl, rfl, (G.refl _ _).alloc _, Bk.new _ _ _⟩
    case round =>
      obtain ⟨k, b, hkl, rfl, rfl, heq, hG, hF⟩ := hrel
      have HE := Lib.hid heq
      clear heq
      by_cases hk : k < l.length
      · obtain ⟨p, hp⟩ : ∃ p, l[k]? = some p := ⟨_, List.getElem?_eq_getElem hk⟩
        have hdrop : l.drop k = p :: l.drop (k + 1) := by rw [List.drop_eq_getElem_cons hk, ← (List.getElem?_eq_some_iff.1 hp).2]
        have hpl := hl p (List.mem_of_getElem? hp)
        cases a with
        | none => have := (hnil rfl).1; omega
        | some ad =>
          obtain ⟨bb, bo, bs⟩ := ad
          obtain ⟨e1, e2, e3⟩ := hcell _ rfl
          dsimp only at e1 e2 e3
          subst e1
          have hrow : ∀ j v, (clC p).toList[j]? = some v → wr.cell? ((⟨bb, bo + k * 2, none⟩ : Addr).add j) = some v := by
            intro j v hv
            rw [add_at]
            have h1 := e3 (k * 2 + j) v (clL_at l k p hp j v hv)
            rw [← Nat.add_assoc] at h1
            exact ((gcell hG).1 bb _ e2).trans h1
          have HR := Lib.hid hrow
          clear hrow hcell e3 hnil
          have hs1 := hpl.1
          unfold Small at hs1
          have HS : Hid (vhErr ck b (l.drop k) = if keyB p.1 = false then 5 else if leB p.1 b = true then 7 else if hasK ck p.2 = false then 8 else vhErr ck p.1 (l.drop (k + 1))) := Lib.hid (by rw [hdrop]; rfl)
          clear hdrop
          have hF' := hF.alloc (.cells #[.string p.1, .string p.2] 97)
          have hBn := Bk.new wr 97 #[.string p.1, .string p.2]
          go_wp2_with (refine wpList_load_at rfl 97 _ rfl ⟨bb, bo + k * 2, none⟩ rfl #[.string p.1, .string p.2] _ HR.out Tryd.underlying97 rfl (ve_info p) ?_)
          refine (isKey_c _ _ hs1).mono ?_; rintro e w' ⟨rfl, rfl⟩
          cases hkb : keyB p.1 with
          | false =>
            have HF : Hid (vhE ck l = 5) := Lib.hid (by rw [H.out, HE.out, HS.out, if_pos hkb])
            clear hkb
            go_wp2_with fail
            go_ret
            exact ⟨by rw [HF.out]; rfl, hG.alloc _⟩
          | true =>
            cases hle : leB p.1 b with
            | true =>
              have HF : Hid (vhE ck l = 7) := Lib.hid (by rw [H.out, HE.out, HS.out, if_neg (by simp [hkb]), if_pos hle])
              unfold leB at hle
              clear hkb
              go_wp2_with fail
              go_ret
              exact ⟨by rw [HF.out]; rfl, hG.alloc _⟩
            | false =>
              have HL := Lib.hid hle
              have HK := Lib.hid hkb
              unfold leB at hle
              clear hkb
              go_wp2_with (refine wpList_load_row rfl 101 _ rfl w.heap.size rfl 101 #[v0, v1, .slice (some ⟨bb, bo, none⟩) l.length cap, v3] (0, 0) _ hF' Tryd.underlying101 rfl (fl_info _ _ _ _) ?_)
              refine (hasClass_c v0 v1 _ v3 lc p.2 _ (HC.out.quiet (hG.alloc _)) (by omega) HCR.out).mono ?_; rintro e w2 ⟨rfl, hG2⟩
              rw [HCK.out]
              have hc0 : w2.cell? ⟨wr.heap.size, 0, none⟩ = some (.string p.1) := ((gcell hG2).1 _ 0 (by simp)).trans (hBn.cell 0)
              have hG3 := (hG.alloc (.cells #[.string p.1, .string p.2] 97)).trans hG2
              have hF3 := hF'.quiet hG2
              clear hG2 hF' hF hBn
              cases hok : hasK ck p.2 with
              | false =>
                have HF : Hid (vhE ck l = 8) := Lib.hid (by rw [H.out, HE.out, HS.out, if_neg (by simp [HK.out]), if_neg (by simp [HL.out]), if_pos hok])
                clear hok
                go_wp2_with fail
                go_ret
                exact ⟨by rw [HF.out]; rfl, hG3⟩
              | true =>
                have HF : Hid (vhErr ck ⟨#[]⟩ l = vhErr ck p.1 (l.drop (k + 1))) := Lib.hid (by rw [HE.out, HS.out, if_neg (by simp [HK.out]), if_neg (by simp [HL.out]), if_neg (by simp [hok])])
                clear hok
                go_wp2_with fail
                go_roundw
                case rel => exact ⟨k + 1, p.1, by omega, by go_num, rfl, HF.out, hG3, hF3⟩
                case measure => simp [intOf]; omega
      · obtain rfl : k = l.length := by omega
        have HE2 : Hid (vhE ck l = 0) := Lib.hid (by rw [H.out, HE.out, List.drop_length]; rfl)
        go_wp2_with fail
        go_ret
        exact ⟨by rw [HE2.out]; rfl, hG⟩

/-! ### CheckFleet: its plates by a contract that is handed in -/
def flE (ls : List Sta) (lc : List Cla) (lv : List Veh) (pe : Int) : Int :=
  if stErr ls = 0 then if clErr lc = 0 then if vhE (lc.map (·.1)) lv = 0 then pe else vhE (lc.map (·.1)) lv else clErr lc else stErr ls
theorem stErr_rise {l : List Sta} (h : stErr l = 0) : Rise (l.map (·.1)) := by
  unfold stErr at h
  split at h
  · omega
  · exact (sta_rise _ _ h).1
theorem clErr_rise {l : List Cla} (h : clErr l = 0) : Rise (l.map (·.1)) := by
  unfold clErr at h
  split at h
  · omega
  · split at h
    · rename_i hc
      exact (ck_rise _ _ hc).1
    · contradiction
set_option maxRecDepth 100000 in
set_option maxHeartbeats 4000000 in
theorem checkFleet_c (v0 v1 v2 v3 : Value) (ls : List Sta) (lc : List Cla) (lv : List Veh) (pe : Int) (w : World)
    (hs : Rd w 15 v0 ls.length (stL ls)) (hsl : KeysOk ls) (hsn : ls.length ≤ 1000) (hc : Rd w 2 v1 lc.length (clL lc)) (hcl : ClsOk lc) (hcn : lc.length ≤ 1000) (hv : Rd w 2 v2 lv.length (clL lv)) (hvl : ClsOk lv) (hvn : lv.length ≤ 1000000)
    (hp : stErr ls = 0 → clErr lc = 0 → vhE (lc.map (·.1)) lv = 0 → ∀ w1, G w w1 none → Calls Tryd.prog 92 #[.agg #[v0, v1, v2, v3]] w1 fun e w' => e = .returned (.int .i64 pe) ∧ G w1 w' none) :
    Calls Tryd.prog 80 #[.agg #[v0, v1, v2, v3]] w fun e w' => e = .returned (.int .i64 (flE ls lc lv pe)) ∧ G w w' none := by
  have HP := Lib.hid hp
  clear hp
  have hF0 := Bk.new w 101 #[v0, v1, v2, v3]
  have hf0 := hF0.cell 0
  rw [show (#[v0, v1, v2, v3] : Array Value)[0]? = some v0 from rfl] at hf0
  have hG0 : G w (w.alloc (.cells #[v0, v1, v2, v3] 101)) none := (G.refl _ _).alloc _
  by_cases h1 : stErr ls = 0
  · have H1 := Lib.hid h1
    clear h1
    by_cases h2 : clErr lc = 0
    · have H2 := Lib.hid h2
      clear h2
      by_cases h3 : vhE (lc.map (·.1)) lv = 0
      · have H : Hid (flE ls lc lv pe = pe) := Lib.hid (by simp [flE, H1.out, H2.out, h3])
        have H3 := Lib.hid h3
        clear h3
        go_enter Tryd.func80, Tryd.ntmps80
        go_wp2_with fail
        refine (checkStations_c v0 ls _ (hs.quiet hG0) hsl hsn).mono ?_; rintro e w1 ⟨rfl, hG1⟩
        rw [H1.out]
        have hF1 := hF0.quiet hG1
        have hG01 := hG0.trans hG1
        have hf1 := hF1.cell 1
        rw [show (#[v0, v1, v2, v3] : Array Value)[1]? = some v1 from rfl] at hf1
        clear hG0 hG1 hF0 hf0
        go_wp2_with fail
        refine (checkClasses_c v1 lc _ (hc.quiet hG01) hcl hcn).mono ?_; rintro e w2 ⟨rfl, hG2⟩
        rw [H2.out]
        have hF2 := hF1.quiet hG2
        have hG02 := hG01.trans hG2
        clear hG01 hG2 hF1 hf1
        go_wp2_with (refine wpList_load_row rfl 101 _ rfl w.heap.size rfl 101 #[v0, v1, v2, v3] (0, 0) _ hF2 Tryd.underlying101 rfl (fl_info _ _ _ _) ?_)
        refine (checkVehicles_c v0 v1 v2 v3 lc lv _ (hc.quiet hG02) hcn (clErr_rise H2.out) (hv.quiet hG02) hvl hvn).mono ?_; rintro e w3 ⟨rfl, hG3⟩
        rw [H3.out]
        have hF3 := hF2.quiet hG3
        have hG03 := hG02.trans hG3
        clear hG02 hG3 hF2
        go_wp2_with (refine wpList_load_row rfl 101 _ rfl w.heap.size rfl 101 #[v0, v1, v2, v3] (0, 0) _ hF3 Tryd.underlying101 rfl (fl_info _ _ _ _) ?_)
        refine (HP.out H1.out H2.out H3.out _ hG03).mono ?_; rintro e w4 ⟨rfl, hG4⟩
        go_wp2_with fail
        go_ret
        exact ⟨by rw [H.out]; rfl, hG03.trans hG4⟩
      · have H : Hid (flE ls lc lv pe = vhE (lc.map (·.1)) lv) := Lib.hid (by simp [flE, H1.out, H2.out, h3])
        have h3' : (vhE (lc.map (·.1)) lv != 0) = true := by rw [bne_iff_ne]; exact h3
        clear h3 HP
        generalize hx : vhE (lc.map (·.1)) lv = x at H h3'
        have HX := Lib.hid hx
        clear hx
        go_enter Tryd.func80, Tryd.ntmps80
        go_wp2_with fail
        refine (checkStations_c v0 ls _ (hs.quiet hG0) hsl hsn).mono ?_; rintro e w1 ⟨rfl, hG1⟩
        rw [H1.out]
        have hF1 := hF0.quiet hG1
        have hG01 := hG0.trans hG1
        have hf1 := hF1.cell 1
        rw [show (#[v0, v1, v2, v3] : Array Value)[1]? = some v1 from rfl] at hf1
        clear hG0 hG1 hF0 hf0
        go_wp2_with fail
        refine (checkClasses_c v1 lc _ (hc.quiet hG01) hcl hcn).mono ?_; rintro e w2 ⟨rfl, hG2⟩
        rw [H2.out]
        have hF2 := hF1.quiet hG2
        have hG02 := hG01.trans hG2
        clear hG01 hG2 hF1 hf1
        go_wp2_with (refine wpList_load_row rfl 101 _ rfl w.heap.size rfl 101 #[v0, v1, v2, v3] (0, 0) _ hF2 Tryd.underlying101 rfl (fl_info _ _ _ _) ?_)
        refine (checkVehicles_c v0 v1 v2 v3 lc lv _ (hc.quiet hG02) hcn (clErr_rise H2.out) (hv.quiet hG02) hvl hvn).mono ?_; rintro e w3 ⟨rfl, hG3⟩
        rw [HX.out]
        go_wp2_with fail
        go_ret
        exact ⟨by rw [H.out]; rfl, hG02.trans hG3⟩
    · have H : Hid (flE ls lc lv pe = clErr lc) := Lib.hid (by simp [flE, H1.out, h2])
      have h2' : (clErr lc != 0) = true := by rw [bne_iff_ne]; exact h2
      clear h2 HP
      go_enter Tryd.func80, Tryd.ntmps80
      go_wp2_with fail
      refine (checkStations_c v0 ls _ (hs.quiet hG0) hsl hsn).mono ?_; rintro e w1 ⟨rfl, hG1⟩
      rw [H1.out]
      have hF1 := hF0.quiet hG1
      have hG01 := hG0.trans hG1
      have hf1 := hF1.cell 1
      rw [show (#[v0, v1, v2, v3] : Array Value)[1]? = some v1 from rfl] at hf1
      clear hG0 hG1 hF0 hf0
      go_wp2_with fail
      refine (checkClasses_c v1 lc _ (hc.quiet hG01) hcl hcn).mono ?_; rintro e w2 ⟨rfl, hG2⟩
      go_wp2_with fail
      go_ret
      exact ⟨by rw [H.out]; rfl, hG01.trans hG2⟩
  · have H : Hid (flE ls lc lv pe = stErr ls) := Lib.hid (by simp [flE, h1])
    have h1' : (stErr ls != 0) = true := by rw [bne_iff_ne]; exact h1
    clear h1 HP
    go_enter Tryd.func80, Tryd.ntmps80
    go_wp2_with fail
    refine (checkStations_c v0 ls _ (hs.quiet hG0) hsl hsn).mono ?_; rintro e w1 ⟨rfl, hG1⟩
    go_wp2_with fail
    go_ret
    exact ⟨by rw [H.out]; rfl, hG0.trans hG1⟩
end Go.Proofs.YtlnoafkepfgooaaDoor

/- The law's own 'lots': the functions of package lot at one small fleet and one event. -/
namespace Go.Proofs.YtlnoafkepfgooaaDoor
open Go.RowKit

set_option maxRecDepth 100000 in
set_option maxHeartbeats 2000000 in
/-- No plates. -/
theorem checkPlates0_c (v0 v1 v2 : Value) (w : World) : Calls Tryd.prog 92 #[.agg #[v0, v1, v2, .slice none 0 0]] w fun e w' => e = .returned (.int .i64 0) ∧ G w w' none := by
  have hmm := @run_makeMap Tryd.prog
  have hf3 := (Bk.new w 101 #[v0, v1, v2, .slice none 0 0]).cell 3
  rw [show (#[v0, v1, v2, .slice none 0 0] : Array Value)[3]? = some (.slice none 0 0) from rfl] at hf3
  go_enter Tryd.func92, Tryd.ntmps92
  go_wp2_with fail
  refine wp_loop_rounds 1 ?_
  rw [rounds_succ]
  go_wp2_with fail
  go_ret
  exact ⟨rfl, (((G.refl _ _).alloc _).alloc _).alloc _⟩

def sS : ByteArray := ⟨#[115]⟩
def sC : ByteArray := ⟨#[99]⟩
def sV : ByteArray := ⟨#[118]⟩
def ls1 : List Sta := [(sS, fun _ => 0)]
def lc1 : List Cla := [(sC, eS)]
def lv1 : List Veh := [(sV, sC)]
theorem st1 : stErr ls1 = 0 := by decide +kernel
theorem ck1 : ckErr ⟨#[]⟩ lc1 = 0 := by decide +kernel
theorem vh1 : vhE (lc1.map (·.1)) lv1 = 0 := by decide +kernel
theorem cl1 : clErr lc1 = 0 := by
  unfold clErr
  rw [if_neg (by decide), if_pos ck1]
  unfold clTail
  rw [if_neg (by decide +kernel), if_neg (by
    have h : upC 0 eF lc1 = 1 := by rfl
    rw [h]
    decide +kernel)]
theorem small_ofA {s : ByteArray} (h : s.size ≤ 100) : Small s := by unfold Small; omega
theorem lc1_ok : ClsOk lc1 := by intro p hp; obtain rfl := List.mem_singleton.1 hp; exact ⟨small_ofA (by decide), small_ofA (by decide)⟩
theorem lv1_ok : ClsOk lv1 := by intro p hp; obtain rfl := List.mem_singleton.1 hp; exact ⟨small_ofA (by decide), small_ofA (by decide)⟩
theorem ls1_ok : KeysOk ls1 := by intro p hp; obtain rfl := List.mem_singleton.1 hp; exact ⟨by show (1 : Nat) ≤ _; omega, HB.zero⟩
/-- The one small fleet. -/
def Fl1 (w : World) (v0 v1 v2 : Value) : Prop := Rd w 15 v0 1 (stL ls1) ∧ Rd w 2 v1 1 (clL lc1) ∧ Rd w 2 v2 1 (clL lv1)
theorem Fl1.quiet {w w' : World} {v0 v1 v2 : Value} (h : Fl1 w v0 v1 v2) (hg : G w w' none) : Fl1 w' v0 v1 v2 := ⟨h.1.quiet hg, h.2.1.quiet hg, h.2.2.quiet hg⟩
theorem checkFleet1_c (v0 v1 v2 : Value) (w : World) (h : Fl1 w v0 v1 v2) : Calls Tryd.prog 80 #[.agg #[v0, v1, v2, .slice none 0 0]] w fun e w' => e = .returned (.int .i64 0) ∧ G w w' none := by
  have he : flE ls1 lc1 lv1 0 = 0 := by unfold flE; rw [if_pos st1, if_pos cl1, if_pos vh1]
  have := checkFleet_c v0 v1 v2 (.slice none 0 0) ls1 lc1 lv1 0 w h.1 ls1_ok (by decide) h.2.1 lc1_ok (by decide) h.2.2 lv1_ok (by decide) (fun _ _ _ w1 _ => checkPlates0_c v0 v1 v2 w1)
  rw [he] at this
  exact this
theorem hasV1_c (v0 v1 v2 v3 : Value) (w : World) (h : Fl1 w v0 v1 v2) : Calls Tryd.prog 70 #[.agg #[v0, v1, v2, v3], .string ⟨#[118]⟩] w fun e w' => e = .returned (.bool true) ∧ G w w' none :=
  by
  have hk : hasK (lv1.map (·.1)) sV = true := by decide +kernel
  have := hasVehicle_c v0 v1 v2 v3 lv1 sV w h.2.2 (by decide) (by simp [lv1, Rise])
  rw [hk] at this
  exact this
theorem hasS1_c (v0 v1 v2 v3 : Value) (w : World) (h : Fl1 w v0 v1 v2) : Calls Tryd.prog 93 #[.agg #[v0, v1, v2, v3], .string ⟨#[115]⟩] w fun e w' => e = .returned (.bool true) ∧ G w w' none :=
  by
  have hk : hasK (ls1.map (·.1)) sS = true := by decide +kernel
  have := hasStation_c v0 v1 v2 v3 ls1 sS w h.1 (by decide) (by simp [ls1, Rise])
  rw [hk] at this
  exact this

/-- The one event. -/
def ev1 : Array Value := #[.int .i64 5, .string ⟨#[118]⟩, .string ⟨#[115]⟩, .int .i64 1, .string ⟨#[]⟩]
theorem ev_info : (Tryd.prog.info? 107).map (·.size) = some (#[.int .i64 5, .string ⟨#[118]⟩, .string ⟨#[115]⟩, .int .i64 1, .string ⟨#[]⟩] : Array Value).size := by kernel_rfl
set_option maxRecDepth 100000 in
set_option maxHeartbeats 2000000 in
theorem checkEvent1_c (v0 v1 v2 : Value) (w : World) (h : Fl1 w v0 v1 v2) : Calls Tryd.prog 81 #[.agg #[v0, v1, v2, .slice none 0 0], .agg #[.int .i64 5, .string ⟨#[118]⟩, .string ⟨#[115]⟩, .int .i64 1, .string ⟨#[]⟩]] w fun e w' => e = .returned (.int .i64 0) ∧ G w w' none := by
  have H := Lib.hid (fun w' hg => hasV1_c v0 v1 v2 (.slice none 0 0) w' (h.quiet hg))
  have H2 := Lib.hid (fun w' hg => hasS1_c v0 v1 v2 (.slice none 0 0) w' (h.quiet hg))
  clear h
  have hF0 := (Bk.new w 101 #[v0, v1, v2, .slice none 0 0]).alloc (.cells #[.int .i64 5, .string ⟨#[118]⟩, .string ⟨#[115]⟩, .int .i64 1, .string ⟨#[]⟩] 107)
  have hE0 := Bk.newAt (w := w.alloc (.cells #[v0, v1, v2, .slice none 0 0] 101)) (b := w.heap.size + 1) (by simp) 107 #[.int .i64 5, .string ⟨#[118]⟩, .string ⟨#[115]⟩, .int .i64 1, .string ⟨#[]⟩]
  have hG0 : G w ((w.alloc (.cells #[v0, v1, v2, .slice none 0 0] 101)).alloc (.cells #[.int .i64 5, .string ⟨#[118]⟩, .string ⟨#[115]⟩, .int .i64 1, .string ⟨#[]⟩] 107)) none := ((G.refl _ _).alloc _).alloc _
  have hmo : Hid (momB 5 = true) := Lib.hid (by decide)
  go_enter Tryd.func81, Tryd.ntmps81
  go_wp2_with fail
  refine (isMoment_c _ _).mono ?_; rintro e w' ⟨rfl, rfl⟩
  rw [hmo.out]
  go_wp2_with (refine wpList_load_row rfl 101 _ rfl w.heap.size rfl 101 #[v0, v1, v2, .slice none 0 0] (0, 0) _ hF0 Tryd.underlying101 rfl (fl_info _ _ _ _) ?_)
  refine (H.out _ hG0).mono ?_; rintro e w1 ⟨rfl, hG1⟩
  have hF1 := hF0.quiet hG1
  have hE1 := hE0.quiet hG1
  have hG01 := hG0.trans hG1
  clear hG0 hG1 hF0 hE0
  have c2 : w1.cell? ⟨w.heap.size + 1, 2, none⟩ = some (.string ⟨#[115]⟩) := hE1.cell 2
  have HA := Lib.hid (hF1.at_)
  go_wp2_with (refine wpList_load_at_g rfl 101 _ rfl ⟨w.heap.size, 0, none⟩ rfl #[v0, v1, v2, .slice none 0 0] _ HA.out Tryd.underlying101 rfl (fl_info _ _ _ _) ?_)
  refine (H2.out _ hG01).mono ?_; rintro e w2 ⟨rfl, hG2⟩
  have hE2 := hE1.quiet hG2
  have hG02 := hG01.trans hG2
  clear hG01 hG2 hF1 hE1 c2
  have c2 : w2.cell? ⟨w.heap.size + 1, 2, none⟩ = some (.string ⟨#[115]⟩) := hE2.cell 2
  have c3 : w2.cell? ⟨w.heap.size + 1, 3, none⟩ = some (.int .i64 1) := hE2.cell 3
  have c4 : w2.cell? ⟨w.heap.size + 1, 4, none⟩ = some (.string ⟨#[]⟩) := hE2.cell 4
  go_wp2_with fail
  go_ret
  exact ⟨rfl, hG02⟩

/-! ### Check, checkVehicle at the one event -/
def Ev1 (w : World) (g : Nat) : Prop := Bk w g 107 #[.int .i64 5, .string ⟨#[118]⟩, .string ⟨#[115]⟩, .int .i64 1, .string ⟨#[]⟩]
set_option maxRecDepth 100000 in
set_option maxHeartbeats 2000000 in
theorem check1_c (v0 v1 v2 : Value) (g : Nat) (w : World) (h : Fl1 w v0 v1 v2) (he : Ev1 w g) : Calls Tryd.prog 69 #[.agg #[v0, v1, v2, .slice none 0 0], .slice (some ⟨g, 0, none⟩) 1 1] w fun e w' => e = .returned (.int .i64 0) ∧ G w w' none := by
  have hF0 := (Bk.new w 101 #[v0, v1, v2, .slice none 0 0])
  have hG0 : G w (w.alloc (.cells #[v0, v1, v2, .slice none 0 0] 101)) none := (G.refl _ _).alloc _
  have hgl := Bk.lt he
  go_enter Tryd.func69, Tryd.ntmps69
  go_wp2_with (refine wpList_load_row rfl 101 _ rfl w.heap.size rfl 101 #[v0, v1, v2, .slice none 0 0] (0, 0) _ hF0 Tryd.underlying101 rfl (fl_info _ _ _ _) ?_)
  refine (checkFleet1_c v0 v1 v2 _ (h.quiet hG0)).mono ?_; rintro e w1 ⟨rfl, hG1⟩
  have hF1 := hF0.quiet hG1
  have hG01 := hG0.trans hG1
  have he1 : Ev1 w1 g := Bk.quiet he hG01
  clear hG0 hG1 hF0
  go_wp2_with fail
  refine wp_loop_rounds 2 ?_
  rw [rounds_succ]
  have HA := Lib.hid (Bk.at_ he1)
  have hF1' := hF1.alloc (.cells #[.int .i64 5, .string ⟨#[118]⟩, .string ⟨#[115]⟩, .int .i64 1, .string ⟨#[]⟩] 107)
  have hE1' := Bk.new w1 107 #[.int .i64 5, .string ⟨#[118]⟩, .string ⟨#[115]⟩, .int .i64 1, .string ⟨#[]⟩]
  have hG1' := hG01.alloc (.cells #[.int .i64 5, .string ⟨#[118]⟩, .string ⟨#[115]⟩, .int .i64 1, .string ⟨#[]⟩] 107)
  clear hG01 he1 hF1
  go_wp2_with (first | (refine wpList_load_at rfl 107 _ rfl ⟨g, 0, none⟩ rfl #[.int .i64 5, .string ⟨#[118]⟩, .string ⟨#[115]⟩, .int .i64 1, .string ⟨#[]⟩] _ HA.out Tryd.underlying107 rfl ev_info ?_) | (refine wpList_load_row rfl 101 _ rfl w.heap.size rfl 101 #[v0, v1, v2, .slice none 0 0] (0, 0) _ hF1' Tryd.underlying101 rfl (fl_info _ _ _ _) ?_) | (refine wpList_load_row rfl 107 _ rfl w1.heap.size rfl 107 #[.int .i64 5, .string ⟨#[118]⟩, .string ⟨#[115]⟩, .int .i64 1, .string ⟨#[]⟩] (0, 0) _ hE1' Tryd.underlying107 rfl ev_info ?_))
  refine (checkEvent1_c v0 v1 v2 _ (h.quiet hG1')).mono ?_; rintro e w2 ⟨rfl, hG2⟩
  have hG02 := hG1'.trans hG2
  clear hG1' hG2 hF1' hE1'
  go_wp2_with fail
  go_quiet (fail)
  go_wp2_with fail
  rw [rounds_succ]
  go_wp2_with fail
  go_ret
  exact ⟨rfl, hG02.drewN _⟩
end Go.Proofs.YtlnoafkepfgooaaDoor

/- The law's own 'lots': checkVehicle, follow, statesAt, StateOf, lots. -/
namespace Go.Proofs.YtlnoafkepfgooaaDoor
open Go.RowKit

/-- Two results, the first a struct that lies in memory. -/
theorem results_cell_row2 {P : Program} {fn : Func} {p u : Tmp} {ty : TypeId} (h : fn.results = #[.cell p ty, .tmp u]) (tmps : Array Value) (w : World) (g : Nat) (t : TypeId) (cs : Array Value) (fr : Nat × Nat) (d : TypeDesc)
    (hp : tmps.getD p undef = .pointer (some ⟨g, 0, none⟩)) (hg : w.heap[g]? = some (.cells cs t fr))
    (hu : P.underlying ty = some d) (hd : (match d with | .struct _ | .array _ _ => true | _ => false) = true) (hi : (P.info? ty).map (·.size) = some cs.size) :
    (results fn tmps).run P w = .ok (.tuple #[.agg cs, tmps.getD u undef]) w := by
  have hp' : tmps[p]?.getD undef = .pointer (some ⟨g, 0, none⟩) := by simpa using hp
  simp [results, h, hp', asAddr, run_loadVar_row w g t ty cs fr d hg hu hd hi]

set_option maxRecDepth 100000 in
set_option maxHeartbeats 2000000 in
theorem checkVehicle1_c (v0 v1 v2 : Value) (g : Nat) (w : World) (h : Fl1 w v0 v1 v2) (he : Ev1 w g) : Calls Tryd.prog 62 #[.agg #[v0, v1, v2, .slice none 0 0], .slice (some ⟨g, 0, none⟩) 1 1, .string ⟨#[118]⟩] w fun e w' => e = .returned (.int .i64 0) ∧ G w w' none := by
  have hF0 := (Bk.new w 101 #[v0, v1, v2, .slice none 0 0])
  have hG0 : G w (w.alloc (.cells #[v0, v1, v2, .slice none 0 0] 101)) none := (G.refl _ _).alloc _
  go_enter Tryd.func62, Tryd.ntmps62
  go_wp2_with (refine wpList_load_row rfl 101 _ rfl w.heap.size rfl 101 #[v0, v1, v2, .slice none 0 0] (0, 0) _ hF0 Tryd.underlying101 rfl (fl_info _ _ _ _) ?_)
  refine (check1_c v0 v1 v2 g _ (h.quiet hG0) (Bk.quiet he hG0)).mono ?_; rintro e w1 ⟨rfl, hG1⟩
  have hF1 := hF0.quiet hG1
  have hG01 := hG0.trans hG1
  clear hG0 hG1 hF0
  go_wp2_with (refine wpList_load_row rfl 101 _ rfl w.heap.size rfl 101 #[v0, v1, v2, .slice none 0 0] (0, 0) _ hF1 Tryd.underlying101 rfl (fl_info _ _ _ _) ?_)
  refine (hasV1_c v0 v1 v2 _ _ (h.quiet hG01)).mono ?_; rintro e w2 ⟨rfl, hG2⟩
  go_wp2_with fail
  go_ret
  exact ⟨rfl, hG01.trans hG2⟩

/-- What the table of the changes says at the first kind. -/
def Gl (w : World) : Prop := w.cell? ⟨0, 2, none⟩ = some (.int .i64 0) ∧ w.cell? ⟨0, 3, none⟩ = some (.int .i64 1) ∧ 0 < w.heap.size
theorem Gl.grown {w w' : World} {s : Option Nat} (h : Gl w) (hg : G w w' s) (hs : s ≠ some 0) : Gl w' := by
  obtain ⟨h1, h2, h3⟩ := h
  have e := hg.block _ h3 (by exact fun q => hs q.symm)
  exact ⟨(World.cell?_of_block (w := w) e).trans h1, (World.cell?_of_block (w := w) e).trans h2, Nat.lt_of_lt_of_le h3 hg.size⟩
theorem Gl.quiet {w w' : World} (h : Gl w) (hg : G w w' none) : Gl w' := h.grown hg (by simp)
theorem ss_info (a b : Int) (s : ByteArray) : (Tryd.prog.info? 103).map (·.size) = some (#[.int .i64 a, .string s, .int .i64 b] : Array Value).size := (by kernel_rfl : (Tryd.prog.info? 103).map (·.size) = some 3)
theorem ss_one (a b : Int) (s : ByteArray) : (#[.int .i64 a, .string s, .int .i64 b] : Array Value).all (·.oneCell') = true := by simp [Value.oneCell']
set_option maxRecDepth 100000 in
set_option maxHeartbeats 2000000 in
theorem follow1_c (w : World) (h : Gl w) : Calls Tryd.prog 72 #[.agg #[.int .i64 0, .string ⟨#[]⟩, .int .i64 0], .agg #[.int .i64 5, .string ⟨#[118]⟩, .string ⟨#[115]⟩, .int .i64 1, .string ⟨#[]⟩]] w fun e w' => e = .returned (.tuple #[.agg #[.int .i64 1, .string ⟨#[115]⟩, .int .i64 5], .bool true]) ∧ G w w' none := by
  obtain ⟨h1, h2, h3⟩ := h
  go_enter Tryd.func72, Tryd.ntmps72
  go_wp2_with fail
  refine bodyPost_ret (v := .tuple #[.agg #[.int .i64 1, .string ⟨#[115]⟩, .int .i64 5], .bool true]) (by simp [results, Tryd.results72, go_sem]) rfl ⟨rfl, ?_⟩
  repeat (first | exact G.refl _ _ | apply G.alloc)

abbrev SMap (w : World) (b c : Nat) (f : Fn) : Prop := OwnM Tryd.prog 9 w b c f
def st1V : Value := .agg #[.int .i64 1, .string ⟨#[115]⟩, .int .i64 5]
def StPost (w : World) (e : Ending) (w' : World) : Prop := ∃ b c : Nat, e = .returned (.map (some b)) ∧ SMap w' b c (fput eF ⟨#[118]⟩ st1V) ∧ G w w' none
theorem zt_run (w : World) : (zeroValue 103).run Tryd.prog w = .ok (.agg #[.int .i64 0, .string ⟨#[]⟩, .int .i64 0]) w := by kernel_rfl
theorem eF_get (s : ByteArray) (z : Value) : (eF s).getD z = z := rfl
theorem zltm : 0 < maxLen := by show 0 < 2 ^ 63 - 1; omega
theorem fput_get (s : ByteArray) (v z : Value) : (fput eF s v s).getD z = v := by simp [fput]
theorem sz118 : (⟨#[118]⟩ : ByteArray).size ≤ maxLen := by show (1 : Nat) ≤ 2 ^ 63 - 1; omega
set_option maxRecDepth 100000 in
set_option maxHeartbeats 2000000 in
theorem statesAt1_c (g : Nat) (w : World) (h : Gl w) (he : Ev1 w g) : Calls Tryd.prog 64 #[.slice (some ⟨g, 0, none⟩) 1 1, .int .i64 7] w (StPost w) := by
  have hmm := @run_makeMap Tryd.prog
  have hM0 : SMap (w.alloc (.map #[] 0)) w.heap.size 0 eF := OwnM.made w Tryd.prog 9 rfl
  have hG0 : G w (w.alloc (.map #[] 0)) none := (G.refl _ _).alloc _
  have HA := Lib.hid (Bk.at_ (Bk.alloc he (.map #[] 0)))
  have hgl := Bk.lt he
  have hM1 := hM0.alloc (.cells #[.int .i64 5, .string ⟨#[118]⟩, .string ⟨#[115]⟩, .int .i64 1, .string ⟨#[]⟩] 107)
  have hE1 := Bk.newAt (w := w.alloc (.map #[] 0)) (b := w.heap.size + 1) (by simp) 107 #[.int .i64 5, .string ⟨#[118]⟩, .string ⟨#[115]⟩, .int .i64 1, .string ⟨#[]⟩]
  have hG1 := hG0.alloc (.cells #[.int .i64 5, .string ⟨#[118]⟩, .string ⟨#[115]⟩, .int .i64 1, .string ⟨#[]⟩] 107)
  clear hM0 hG0
  go_enter Tryd.func64, Tryd.ntmps64
  go_wp2_with fail
  refine wp_loop_rounds 2 ?_
  rw [rounds_succ]
  go_wp2_with (first | (refine wpList_load_at rfl 107 _ rfl ⟨g, 0, none⟩ rfl #[.int .i64 5, .string ⟨#[118]⟩, .string ⟨#[115]⟩, .int .i64 1, .string ⟨#[]⟩] _ HA.out Tryd.underlying107 rfl ev_info ?_) | (at_lookup; refine wpM_look rfl _ _ 115 rfl 9 103 Tryd.underlying9 Tryd.underlying115 _ (zt_run _) w.heap.size _ _ rfl hM1 ⟨#[118]⟩ rfl sz118 ?_; rw [eF_get]))
  refine (follow1_c _ (h.quiet hG1)).mono ?_; rintro e w1 ⟨rfl, hG2⟩
  have hM2 := (hM1.quiet hG2).alloc (.cells #[.int .i64 1, .string ⟨#[115]⟩, .int .i64 5] 103)
  have hE2 := (hE1.quiet hG2).alloc (.cells #[.int .i64 1, .string ⟨#[115]⟩, .int .i64 5] 103)
  have hG3 := (hG1.trans hG2).alloc (.cells #[.int .i64 1, .string ⟨#[115]⟩, .int .i64 5] 103)
  have c1 : w1.cell? ⟨w.heap.size + 1, 1, none⟩ = some (.string ⟨#[118]⟩) := (hE1.quiet hG2).cell 1
  have hz := (hE1.quiet hG2).lt
  have hBn := Bk.new w1 103 #[.int .i64 1, .string ⟨#[115]⟩, .int .i64 5]
  clear hM1 hE1 hG1 hG2
  go_wp2_with (first | (refine wpList_load_row rfl 103 _ rfl w1.heap.size rfl 103 #[.int .i64 1, .string ⟨#[115]⟩, .int .i64 5] (0, 0) _ hBn Tryd.underlying103 rfl (ss_info _ _ _) ?_) | (at_mapUpdate; refine wpM_store rfl _ _ _ 115 rfl 9 103 Tryd.underlying9 Tryd.underlying115 w.heap.size _ _ rfl hM2 zltm ⟨#[118]⟩ rfl sz118 st1V rfl ?_; intro w2 hM3 hG4))
  rw [rounds_succ]
  go_wp2_with fail
  go_ret
  exact ⟨_, _, rfl, hM3, hG3.other hG4 (fun j e => .inl (by obtain rfl := Option.some.inj e; exact Nat.le_refl _))⟩

set_option maxRecDepth 100000 in
set_option maxHeartbeats 2000000 in
theorem stateOf1_c (v0 v1 v2 : Value) (g : Nat) (w : World) (h : Fl1 w v0 v1 v2) (he : Ev1 w g) (hg : Gl w) :
    Calls Tryd.prog 56 #[.agg #[v0, v1, v2, .slice none 0 0], .slice (some ⟨g, 0, none⟩) 1 1, .string ⟨#[118]⟩, .int .i64 7] w fun e w' => e = .returned (.tuple #[.agg #[.int .i64 1, .string ⟨#[115]⟩, .int .i64 5], .int .i64 0]) ∧ G w w' none := by
  have hF0 := (Bk.new w 101 #[v0, v1, v2, .slice none 0 0]).alloc (.cells #[.int .i64 0, .string ⟨#[]⟩, .int .i64 0] 103)
  have hR0 := Bk.newAt (w := w.alloc (.cells #[v0, v1, v2, .slice none 0 0] 101)) (b := w.heap.size + 1) (by simp) 103 #[.int .i64 0, .string ⟨#[]⟩, .int .i64 0]
  have hG0 : G w ((w.alloc (.cells #[v0, v1, v2, .slice none 0 0] 101)).alloc (.cells #[.int .i64 0, .string ⟨#[]⟩, .int .i64 0] 103)) none := ((G.refl _ _).alloc _).alloc _
  have hmo : Hid (momE 7 = 0) := Lib.hid (by decide)
  go_enter Tryd.func56, Tryd.ntmps56
  go_wp2_with (refine wpList_load_row rfl 101 _ rfl w.heap.size rfl 101 #[v0, v1, v2, .slice none 0 0] (0, 0) _ hF0 Tryd.underlying101 rfl (fl_info _ _ _ _) ?_)
  refine (checkVehicle1_c v0 v1 v2 g _ (h.quiet hG0) (Bk.quiet he hG0)).mono ?_; rintro e w1 ⟨rfl, hG1⟩
  have hR1 := hR0.quiet hG1
  have hG01 := hG0.trans hG1
  clear hG0 hG1 hR0 hF0
  go_wp2_with fail
  refine (checkMoment_c _ _).mono ?_; rintro e w' ⟨rfl, rfl⟩
  rw [hmo.out]
  go_wp2_with fail
  refine (statesAt1_c g _ (hg.quiet hG01) (Bk.quiet he hG01)).mono ?_; rintro e w2 ⟨b, c, rfl, hM, hG2⟩
  have hR2 := hR1.quiet hG2
  have hG02 := hG01.trans hG2
  clear hG01 hG2 hR1
  go_wp2_with (first | (at_lookup; refine wpM_look rfl _ _ 115 rfl 9 103 Tryd.underlying9 Tryd.underlying115 _ (zt_run _) b c _ rfl hM ⟨#[118]⟩ rfl sz118 ?_; rw [fput_get]; unfold st1V) | (refine wpList_store_row rfl 103 _ _ rfl (w.heap.size + 1) #[.int .i64 1, .string ⟨#[115]⟩, .int .i64 5] rfl rfl 103 _ hR2 (ss_info _ _ _) rfl (ss_one _ _ _) ?_))
  refine bodyPost_ret (results_cell_row2 rfl _ _ (w.heap.size + 1) 103 #[.int .i64 1, .string ⟨#[115]⟩, .int .i64 5] (0, 0) _ rfl (hR2.setRow _) Tryd.underlying103 rfl (ss_info _ _ _)) rfl ?_
  exact ⟨rfl, hG02.setRow (.inl (by omega)) _⟩
end Go.Proofs.YtlnoafkepfgooaaDoor

/- The law's own 'lots' returns true. -/
namespace Go.Proofs.YtlnoafkepfgooaaDoor
open Go.RowKit

theorem fl1_new (w : World) (d e : Obj) : Fl1 (((((w.alloc (.cells #[.string ⟨#[115]⟩, .int .i64 0, .int .i64 0, .int .i64 0, .int .i64 0, .int .i64 0, .int .i64 0, .int .i64 0, .int .i64 0, .int .i64 0, .int .i64 0, .int .i64 0, .int .i64 0, .int .i64 0, .int .i64 0] 94)).alloc
      (.cells #[.string ⟨#[99]⟩, .string ⟨#[]⟩] 82)).alloc (.cells #[.string ⟨#[118]⟩, .string ⟨#[99]⟩] 97)).alloc d).alloc e)
    (.slice (some ⟨w.heap.size, 0, none⟩) 1 1) (.slice (some ⟨w.heap.size + 1, 0, none⟩) 1 1) (.slice (some ⟨w.heap.size + 1 + 1, 0, none⟩) 1 1) := by
  refine ⟨?_, ?_, ?_⟩
  · refine Rd.quiet (w := w.alloc (.cells (stC sS (fun _ => 0)) 94)) ?_ (((((G.refl _ _).alloc _).alloc _).alloc _).alloc _)
    exact Rd.newAt (stC sS (fun _ => 0)) rfl rfl (by decide)
  · refine Rd.quiet (w := (w.alloc (.cells (stC sS (fun _ => 0)) 94)).alloc (.cells (clC (sC, eS)) 82)) ?_ ((((G.refl _ _).alloc _).alloc _).alloc _)
    exact Rd.newAt (clC (sC, eS)) (by simp) rfl (by decide)
  · refine Rd.quiet (w := ((w.alloc (.cells (stC sS (fun _ => 0)) 94)).alloc (.cells (clC (sC, eS)) 82)).alloc (.cells (clC (sV, sC)) 97)) ?_ (((G.refl _ _).alloc _).alloc _)
    exact Rd.newAt (clC (sV, sC)) (by simp) rfl (by decide)
set_option maxRecDepth 100000 in
set_option maxHeartbeats 2000000 in
theorem lots_c (w : World) (hg : Gl w) : Calls Tryd.prog 29 #[] w fun e w' => e = .returned (.bool true) ∧ G w w' none := by
  have heq : ∀ w : World, (binOp .eql 103 (.agg #[.int .i64 1, .string ⟨#[115]⟩, .int .i64 5]) (.agg #[.int .i64 1, .string ⟨#[115]⟩, .int .i64 5])).run Tryd.prog w = .ok (.bool true) w := fun _ => by kernel_rfl
  go_enter Tryd.func29, Tryd.ntmps29
  go_wp2_with fail
  refine (stateOf1_c _ _ _ _ _ (fl1_new w _ _) (Bk.newAt (by simp) _ _) (hg.quiet (((((G.refl _ _).alloc _).alloc _).alloc _).alloc _ |>.alloc _))).mono ?_; rintro e w1 ⟨rfl, hG1⟩
  have hG : G w w1 none := (((((G.refl w none).alloc _).alloc _).alloc _).alloc _ |>.alloc _).trans hG1
  clear hG1
  have hBn := Bk.new w1 103 #[.int .i64 1, .string ⟨#[115]⟩, .int .i64 5]
  have HA := Lib.hid (hBn.at_)
  go_wp2_with (refine wpList_load_at_g rfl 103 _ rfl ⟨w1.heap.size, 0, none⟩ rfl #[.int .i64 1, .string ⟨#[115]⟩, .int .i64 5] _ HA.out Tryd.underlying103 rfl (ss_info _ _ _) ?_)
  go_ret
  exact ⟨rfl, hG.alloc _⟩
end Go.Proofs.YtlnoafkepfgooaaDoor

/- basic.Has: is a moment in a window. -/
namespace Go.Proofs.YtlnoafkepfgooaaDoor
open Go.RowKit

def hasB (x y t : Int) : Bool := decide (x ≤ t) && decide (t < y)
end Go.Proofs.YtlnoafkepfgooaaDoor

/- checkStationAt, IsOpen, NextOpen; OpenAt, NextOpenOf. -/
namespace Go.Proofs.YtlnoafkepfgooaaDoor
open Go.RowKit

/-- The error of one station and a moment. -/
def atE (r : ByteArray) (h : Nat → Int) (t : Int) : Int := if stErr [(r, h)] = 0 then momE t else stErr [(r, h)]
theorem rd_one {w : World} {b : Nat} (r : ByteArray) (h : Nat → Int) (hb : w.heap.size = b) : Rd (w.alloc (.cells (stC r h) 94)) 15 (.slice (some ⟨b, 0, none⟩) 1 1) [(r, h)].length (stL [(r, h)]) := by
  have := Rd.newAt (w := w) (z := 15) (n := 1) (T := 94) (stC r h) hb rfl (by decide)
  rw [show stL [(r, h)] = (stC r h).toList from by simp [stL]]
  exact this
theorem staErr_le (b : ByteArray) (l : List Sta) : 0 ≤ staErr b l ∧ staErr b l ≤ 10 := by
  induction l generalizing b with
  | nil => simp [staErr]
  | cons p r ih =>
    unfold staErr
    split
    · omega
    · split
      · omega
      · split
        · omega
        · exact ih _
/-- Whether it is open at a moment. -/
def opB (h : Nat → Int) (t : Nat) : Bool := decide (dFrom h (t / 1440) ≤ (t : Int)) && decide ((t : Int) < dTo h (t / 1440))
theorem atE_mom {r : ByteArray} {h : Nat → Int} {t : Int} (h0 : atE r h t = 0) : 0 ≤ t ∧ t < 5761440 ∧ stErr [(r, h)] = 0 := by
  unfold atE at h0
  split at h0
  · rename_i hs
    unfold momE at h0
    split at h0
    · rename_i hm
      simp only [momB, Bool.and_eq_true, decide_eq_true_eq] at hm
      exact ⟨hm.1, hm.2, hs⟩
    · omega
  · exact absurd h0 (by assumption)
theorem okHrs_of {r : ByteArray} {h : Nat → Int} (h0 : stErr [(r, h)] = 0) : okHrs h = true := by
  simp only [stErr, staErr, List.length_singleton, show ¬ 50 < 1 by omega, if_false] at h0
  split at h0
  · omega
  · split at h0
    · omega
    · split at h0
      · omega
      · rename_i hx
        simpa using hx
theorem okDay_of {h : Nat → Int} (hh : okHrs h = true) (d : Nat) : 0 ≤ h (d % 7 * 2) ∧ h (d % 7 * 2) ≤ h (d % 7 * 2 + 1) ∧ h (d % 7 * 2 + 1) ≤ 1440 := by
  have := List.all_eq_true.1 hh (d % 7) (List.mem_range.2 (Nat.mod_lt _ (by omega)))
  simp only [okDay, inB, Bool.and_eq_true, decide_eq_true_eq] at this
  exact ⟨this.1.1, this.1.2, this.2⟩
def isOpenR (r : ByteArray) (h : Nat → Int) (t : Int) : Bool := if atE r h t = 0 then opB h t.toNat else false
end Go.Proofs.YtlnoafkepfgooaaDoor

/- NextOpen; OpenAt, NextOpenOf. -/
namespace Go.Proofs.YtlnoafkepfgooaaDoor
open Go.RowKit

/-- The first of so many days at which something is so. -/
def find (c : Nat → Bool) (v : Nat → Int) : Nat → Nat → Option Int
  | 0, _ => none
  | n + 1, d => if c d = true then some (v d) else find c v n (d + 1)
def cC (h : Nat → Int) (t : Nat) (d : Nat) : Bool := decide (max (t : Int) (dFrom h d) < dTo h d)
def vC (h : Nat → Int) (t : Nat) (d : Nat) : Int := max (t : Int) (dFrom h d)
def kC (t : Nat) : Nat := min 7 (4000 - t / 1440) + 1
def nextO (h : Nat → Int) (t : Nat) : Option Int := find (cC h t) (vC h t) (kC t) (t / 1440)
/-- What NextOpen returns. -/
def nextR (r : ByteArray) (h : Nat → Int) (t : Int) : Int × Int :=
  if atE r h t = 0 then (match nextO h t.toNat with | some n => (n, 0) | none => (0, 8)) else (0, atE r h t)
theorem dFrom_bd {h : Nat → Int} (hb : HB h) (d : Nat) : (d : Int) * 1440 - 1099511627776 ≤ dFrom h d ∧ dFrom h d ≤ (d : Int) * 1440 + 1099511627776 := by
  have := hb (d % 7 * 2); unfold dFrom; omega
theorem dTo_bd {h : Nat → Int} (hb : HB h) (d : Nat) : (d : Int) * 1440 - 1099511627776 ≤ dTo h d ∧ dTo h d ≤ (d : Int) * 1440 + 1099511627776 := by
  have := hb (d % 7 * 2 + 1); unfold dTo; omega
def NextRel (w : World) (r : ByteArray) (h : Nat → Int) (t d0 : Nat) (i : Value) (wr : World) : Prop :=
  ∃ k : Nat, k ≤ kC t ∧ i = .int .i64 ((d0 : Int) + (k : Int)) ∧ nextO h t = find (cC h t) (vC h t) (kC t - k) (d0 + k) ∧ G w wr none ∧ Bk wr w.heap.size 94 (stC r h)
/-! ### The reference's -/
end Go.Proofs.YtlnoafkepfgooaaDoor

/- NextOpenOf, OpenMinutes, OpenIn. -/
namespace Go.Proofs.YtlnoafkepfgooaaDoor
open Go.RowKit

def cR (h : Nat → Int) (t : Nat) (d : Nat) : Bool := decide ((t : Int) < dFrom h d) && decide (dFrom h d < 5761440) && decide (h (d % 7 * 2) < h (d % 7 * 2 + 1))
def refO (h : Nat → Int) (t : Nat) : Option Int := if opB h t = true then some (t : Int) else find (cR h t) (dFrom h) 8 (t / 1440)
theorem find_congr {c c' : Nat → Bool} {v v' : Nat → Int} (n : Nat) : ∀ d, (∀ i, i < n → c (d + i) = c' (d + i) ∧ (c' (d + i) = true → v (d + i) = v' (d + i))) → find c v n d = find c' v' n d := by
  induction n with
  | zero => intro d _; rfl
  | succ n ih =>
    intro d hd
    obtain ⟨h1, h2⟩ := hd 0 (by omega)
    have h3 := ih (d + 1) (fun i hi => by have := hd (i + 1) (by omega); rw [show d + 1 + i = d + (i + 1) by omega]; exact this)
    simp only [Nat.add_zero] at h1 h2
    unfold find
    rw [h1, h3]
    by_cases hc : c' d = true
    · rw [if_pos hc, if_pos hc, h2 hc]
    · rw [if_neg hc, if_neg hc]
theorem find_more {c : Nat → Bool} {v : Nat → Int} (n m : Nat) : ∀ d, (∀ i, n ≤ i → i < n + m → c (d + i) = false) → find c v (n + m) d = find c v n d := by
  induction n with
  | zero =>
    induction m with
    | zero => intro d _; rfl
    | succ m ihm =>
      intro d hd
      have h0 := hd 0 (by omega) (by omega)
      simp only [Nat.add_zero] at h0
      rw [show 0 + (m + 1) = (0 + m) + 1 by omega]
      unfold find
      rw [if_neg (by simp [h0]), ihm (d + 1) (fun i _ hi => by have := hd (i + 1) (by omega) (by omega); rw [show d + 1 + i = d + (i + 1) by omega]; exact this)]
      rfl
  | succ n ih =>
    intro d hd
    rw [show n + 1 + m = (n + m) + 1 by omega]
    unfold find
    rw [ih (d + 1) (fun i h1 h2 => by have := hd (i + 1) (by omega) (by omega); rw [show d + 1 + i = d + (i + 1) by omega]; exact this)]
theorem nextO_ref (h : Nat → Int) (t : Nat) (hh : okHrs h = true) (ht : t < 5761440) : nextO h t = refO h t := by
  have hK : kC t = min 7 (4000 - t / 1440) + 1 := rfl
  unfold nextO refO
  by_cases ho : opB h t = true
  · rw [if_pos ho]
    simp only [opB, Bool.and_eq_true, decide_eq_true_eq] at ho
    rw [hK]
    unfold find
    rw [if_pos (by unfold cC; exact decide_eq_true (by omega))]
    unfold vC
    congr 1
    omega
  · rw [if_neg ho]
    have hno : ¬ (dFrom h (t / 1440) ≤ (t : Int) ∧ (t : Int) < dTo h (t / 1440)) := by
      intro hc; apply ho; simp [opB, hc.1, hc.2]
    obtain ⟨m, hm⟩ : ∃ m, 8 = kC t + m := ⟨8 - kC t, by omega⟩
    rw [hm, find_more (kC t) m (t / 1440) (fun i h1 h2 => ?_)]
    · refine find_congr _ _ fun i hi => ?_
      have hd := okDay_of hh (t / 1440 + i)
      have hF : dFrom h (t / 1440 + i) = ((t / 1440 + i : Nat) : Int) * 1440 + h ((t / 1440 + i) % 7 * 2) := rfl
      have hT : dTo h (t / 1440 + i) = ((t / 1440 + i : Nat) : Int) * 1440 + h ((t / 1440 + i) % 7 * 2 + 1) := rfl
      have hle : t / 1440 + i ≤ 4000 := by omega
      have hno' : i = 0 → ¬ (dFrom h (t / 1440 + i) ≤ (t : Int) ∧ (t : Int) < dTo h (t / 1440 + i)) := by
        intro h0; subst h0; exact hno
      unfold cC cR vC
      generalize h ((t / 1440 + i) % 7 * 2) = x at hd hF ⊢
      generalize h ((t / 1440 + i) % 7 * 2 + 1) = y at hd hT ⊢
      generalize dFrom h (t / 1440 + i) = F at hF hno' ⊢
      generalize dTo h (t / 1440 + i) = T at hT hno' ⊢
      have hiff : (max (t : Int) F < T) ↔ ((t : Int) < F ∧ F < 5761440 ∧ x < y) := by
        rcases Nat.eq_zero_or_pos i with h0 | h0
        · have := hno' h0; omega
        · omega
      constructor
      · rw [Bool.eq_iff_iff]
        simp only [decide_eq_true_eq, Bool.and_eq_true]
        omega
      · simp only [decide_eq_true_eq, Bool.and_eq_true]
        omega
    · have hd := okDay_of hh (t / 1440 + i)
      have hF : dFrom h (t / 1440 + i) = ((t / 1440 + i : Nat) : Int) * 1440 + h ((t / 1440 + i) % 7 * 2) := rfl
      have hge : 4001 ≤ t / 1440 + i := by omega
      unfold cR
      have : ¬ dFrom h (t / 1440 + i) < 5761440 := by omega
      simp [this]
end Go.Proofs.YtlnoafkepfgooaaDoor

/- Regions that draw their order and whose calls make memory: one walk in the order of the text, over the class of the worlds in which nothing old has turned. No program. -/
namespace Go.Proofs.YtlnoafkepfgooaaDoor
open Go.RowKit
section
variable {P : Program} {o : Oper} {a : Act} {C : World → Prop} {K : Act → Prop}
theorem quiet_value (v : Value) (hv : ∀ w, C w → (execOp a.eval o).run P w = .ok (.value v) w) (hK : K (a.put o.dst v)) : o.quiet P a C K :=
  ⟨v, fun w hw => by unfold Oper.quietAt; rw [hv w hw]; exact ⟨rfl, rfl⟩, hK⟩
theorem quiet_call (f : FuncId) (args : Array Value) (v : Value) (hrun : ∀ w, (execOp a.eval o).run P w = .ok (.enter f args) w) (hc : ∀ w, C w → Calls P f args w fun e w' => e = .returned v ∧ C w') (hK : K (a.put o.dst v)) : o.quiet P a C K :=
  ⟨v, fun w hw => by unfold Oper.quietAt; rw [hrun w]; exact ⟨rfl, hc w hw⟩, hK⟩
theorem quiet_load_row (ty : TypeId) (x : Operand) (ho : o.op = .load ty x) (g : Nat) (hx : a.eval x = .pointer (some ⟨g, 0, none⟩)) (t : TypeId) (cs : Array Value) (d : TypeDesc) (hg : ∀ w, C w → Bk w g t cs)
    (hu : P.underlying ty = some d) (hd : (match d with | .struct _ | .array _ _ => true | _ => false) = true) (hi : (P.info? ty).map (·.size) = some cs.size) (hK : K (a.put o.dst (.agg cs))) : o.quiet P a C K :=
  quiet_value _ (fun w hw => by
    unfold execOp
    simp only [ho, hx, Instr.loadAt, Instr.sureAddr, Sem.run_bind, Sem.run_pure, Result.andThen_ok, run_loadVar_row w g t ty cs (0, 0) d (hg w hw) hu hd hi]) hK
theorem G.callNone {A w : World} {f : FuncId} {args : Array Value} {v : Value} (hG : G A w none) (h : Calls P f args w fun e w' => e = .returned v ∧ G w w' none) : Calls P f args w fun e w' => e = .returned v ∧ G A w' none :=
  h.mono fun _ _ ⟨he, hg⟩ => ⟨he, hG.trans hg⟩
theorem wpQuiet_op {ops : Array Oper} {Q : Act → Prop} {rest : List Oper} (hg : o.guard = none) (h : ∀ K : Act → Prop, (∀ a, wpQuiet P ops C Q rest a → K a) → o.quiet P a C K) : wpQuiet P ops C Q (o :: rest) a :=
  wpQuiet_step fun K hK => by
    rw [if_pos (by simp [Region.wanted, hg])]
    exact h K hK
end
end Go.Proofs.YtlnoafkepfgooaaDoor

/- The walks of NextOpenOf, OpenIn, OpenMinutes. -/
namespace Go.Proofs.YtlnoafkepfgooaaDoor
open Go.RowKit

/-- What the reference's NextOpenOf returns. -/
def nofV (o : Option Int) : Value := match o with | some n => .tuple #[.int .i64 n, .bool true] | none => .tuple #[.int .i64 0, .bool false]
def NofRel (w : World) (r : ByteArray) (h : Nat → Int) (t d0 : Nat) (o : Option Int) (i : Value) (wr : World) : Prop :=
  ∃ k : Nat, k ≤ 8 ∧ i = .int .i64 ((d0 : Int) + (k : Int)) ∧ o = find (cR h t) (dFrom h) (8 - k) (d0 + k) ∧ G w wr none ∧ Bk wr w.heap.size 94 (stC r h)
/-! ### The minutes of a window -/
/-- How many moments it is open in the first so many days of a window. -/
def accD (h : Nat → Int) (a b : Int) (d0 : Nat) : Nat → Int
  | 0 => 0
  | k + 1 => accD h a b d0 k + ovl (dFrom h (d0 + k)) (dTo h (d0 + k)) a b
def nD (a b : Nat) : Nat := (b + 1439) / 1440 - a / 1440
def openIn (h : Nat → Int) (a b : Nat) : Int := accD h a b (a / 1440) (nD a b)
theorem accD_bd (h : Nat → Int) (a b : Nat) (d0 k : Nat) (hab : a ≤ b) : 0 ≤ accD h a b d0 k ∧ accD h a b d0 k ≤ (k : Int) * ((b : Int) - (a : Int)) := by
  induction k with
  | zero => simp [accD]
  | succ k ih =>
    have h1 : 0 ≤ ovl (dFrom h (d0 + k)) (dTo h (d0 + k)) a b ∧ ovl (dFrom h (d0 + k)) (dTo h (d0 + k)) a b ≤ (b : Int) - (a : Int) := by unfold ovl; omega
    unfold accD
    have h2 : ((k + 1 : Nat) : Int) * ((b : Int) - (a : Int)) = (k : Int) * ((b : Int) - (a : Int)) + ((b : Int) - (a : Int)) := by
      rw [Int.natCast_add, Int.add_mul]; simp
    omega
theorem accD_le (h : Nat → Int) (a b : Nat) (d0 k : Nat) (hab : a ≤ b) (hb : b ≤ 5761440) (hk : k ≤ 4010) : 0 ≤ accD h a b d0 k ∧ accD h a b d0 k ≤ 100000000000 := by
  have h1 := accD_bd h a b d0 k hab
  have h2 : (k : Int) * ((b : Int) - (a : Int)) ≤ 4010 * 5761440 := by
    have h3 : (k : Int) * ((b : Int) - (a : Int)) ≤ 4010 * ((b : Int) - (a : Int)) := Int.mul_le_mul_of_nonneg_right (by omega) (by omega)
    omega
  omega
theorem nD_lt {a b : Nat} (k : Nat) : k < nD a b ↔ (a / 1440 + k) * 1440 < b := by unfold nD; omega
theorem nD_le {a b : Nat} (hb : b ≤ 5761440) : nD a b ≤ 4001 := by unfold nD; omega
def MinRel (w : World) (r : ByteArray) (h : Nat → Int) (a b d0 : Nat) (v i : Value) (wr : World) : Prop :=
  ∃ k : Nat, k ≤ nD a b ∧ i = .int .i64 ((d0 : Int) + (k : Int)) ∧ v = .int .i64 (accD h a b d0 k) ∧ G w wr none ∧ Bk wr w.heap.size 94 (stC r h) ∧ Bk wr (w.heap.size + 1) 31 #[.int .i64 (a : Int), .int .i64 (b : Int)]
def minE (r : ByteArray) (h : Nat → Int) (a b : Int) : Int := if stErr [(r, h)] = 0 then winE a b else stErr [(r, h)]
def minR (r : ByteArray) (h : Nat → Int) (a b : Int) : Int := if minE r h a b = 0 then openIn h a.toNat b.toNat else 0
end Go.Proofs.YtlnoafkepfgooaaDoor

/- The law's own 'errs'. -/
namespace Go.Proofs.YtlnoafkepfgooaaDoor
open Go.RowKit

/-- The first error of some. -/
def errsOf : List Int → Int
  | [] => 0
  | e :: r => if e = 0 then errsOf r else e
def ErrsRel (es : List Int) (i : Value) : Prop := ∃ k : Nat, k ≤ es.length ∧ i = .int .i64 k ∧ errsOf es = errsOf (es.drop k)
set_option maxRecDepth 100000 in
set_option maxHeartbeats 1000000 in
theorem errs_c (es : List Int) (v : Value) (w : World) (hr : Rd w 1 v es.length (es.map (Value.int .i64))) (hn : es.length ≤ 1000) :
    Calls Tryd.prog 12 #[v] w fun e w' => e = .returned (.int .i64 (errsOf es)) ∧ w = w' := by
  obtain ⟨a, cap, rfl, hcap, hm, hlen, hnil, hcell⟩ := hr
  go_enter Tryd.func12, Tryd.ntmps12
  go_wp2_with fail
  go_loop [7] (ErrsRel es) (fun i => es.length - (intOf i).toNat)
  case atStart => exact ⟨0, by omega, rfl, rfl⟩
  case round =>
    obtain ⟨k, hk, rfl, heq⟩ := hrel
    have HE := Lib.hid heq
    clear heq
    by_cases hlt : k < es.length
    · obtain ⟨x, hx⟩ : ∃ x, es[k]? = some x := ⟨_, List.getElem?_eq_getElem hlt⟩
      have HD : Hid (errsOf es = if x = 0 then errsOf (es.drop (k + 1)) else x) := Lib.hid (by
        rw [HE.out, List.drop_eq_getElem_cons hlt, (List.getElem?_eq_some_iff.1 hx).2]; rfl)
      cases a with
      | none => have := (hnil rfl).1; omega
      | some ad =>
        obtain ⟨bb, bo, bs⟩ := ad
        obtain ⟨e1, e2, e3⟩ := hcell _ rfl
        dsimp only at e1 e2 e3
        subst e1
        have hc := e3 k (.int .i64 x) (by rw [List.getElem?_map, hx]; rfl)
        clear hcell e3 hnil hx
        by_cases h0 : x = 0
        · subst h0
          have HF : Hid (errsOf es = errsOf (es.drop (k + 1))) := Lib.hid (by rw [HD.out, if_pos rfl])
          go_wp2_with fail
          go_round
          case rel => exact ⟨k + 1, by omega, by go_num, HF.out⟩
          case measure => simp [intOf]; omega
        · have HF : Hid (errsOf es = x) := Lib.hid (by rw [HD.out, if_neg h0])
          have h1 : (x != 0) = true := by rw [bne_iff_ne]; exact h0
          clear h0
          go_wp2_with fail
          go_ret
          exact ⟨ret_int HF.out.symm, rfl⟩
    · obtain rfl : k = es.length := by omega
      have HF : Hid (errsOf es = 0) := Lib.hid (by rw [HE.out, List.drop_length]; rfl)
      go_wp2_with fail
      go_ret
      exact ⟨ret_int HF.out.symm, rfl⟩
theorem errs_at (r : ByteArray) (h : Nat → Int) (t : Int) : errsOf [stErr [(r, h)], momE t] = atE r h t := by
  unfold atE
  show (if stErr [(r, h)] = 0 then (if momE t = 0 then 0 else momE t) else stErr [(r, h)]) = _
  by_cases h1 : stErr [(r, h)] = 0
  · rw [if_pos h1, if_pos h1]
    split
    · omega
    · rfl
  · rw [if_neg h1, if_neg h1]
theorem errs_min (r : ByteArray) (h : Nat → Int) (x y : Int) : errsOf [stErr [(r, h)], winE x y] = minE r h x y := by
  unfold minE
  show (if stErr [(r, h)] = 0 then (if winE x y = 0 then 0 else winE x y) else stErr [(r, h)]) = _
  by_cases h1 : stErr [(r, h)] = 0
  · rw [if_pos h1, if_pos h1]
    split
    · omega
    · rfl
  · rw [if_neg h1, if_neg h1]
end Go.Proofs.YtlnoafkepfgooaaDoor

/- The plain mathematics of classes: chains of ups; no more different keys than there are. No program. -/
namespace Go.Proofs.YtlnoafkepfgooaaDoor
open Go.RowKit

theorem nodup_len {α : Type} [DecidableEq α] : ∀ (xs ks : List α), xs.Nodup → (∀ x ∈ xs, x ∈ ks) → xs.length ≤ ks.length
  | [], _, _, _ => Nat.zero_le _
  | x :: r, ks, hn, hs => by
    have hx := hs x (by simp)
    obtain ⟨h1, h2⟩ := List.nodup_cons.1 hn
    have h3 := nodup_len r (ks.erase x) h2 (fun y hy => (List.mem_erase_of_ne (fun e => h1 (by rw [← e]; exact hy))).2 (hs y (List.mem_cons_of_mem _ hy)))
    rw [List.length_erase_of_mem hx] at h3
    have h4 := List.length_pos_of_mem hx
    simp only [List.length_cons]
    omega
theorem eS_toList : eS.toList = [] := by rw [ByteArray.toList_eq]; rfl
theorem isE_iff {t : ByteArray} : t.toList.isEmpty = true ↔ t = eS := by
  constructor
  · intro h
    have h2 : eqB t eS = true := by
      unfold eqB
      rw [List.isEmpty_iff.1 h, eS_toList]
      rfl
    exact eqB_iff.1 h2
  · rintro rfl
    rw [eS_toList]
    rfl
/-- The class above, or the empty string. -/
def nx (u : Up) (s : ByteArray) : ByteArray := (u s).getD eS
def it (u : Up) : Nat → ByteArray → ByteArray
  | 0, s => s
  | n + 1, s => it u n (nx u s)
theorem it_add (u : Up) (a b : Nat) (s : ByteArray) : it u (a + b) s = it u b (it u a s) := by
  induction a generalizing s with
  | zero => rw [Nat.zero_add]; rfl
  | succ a ih => rw [show a + 1 + b = (a + b) + 1 by omega]; exact ih _
theorem it_eS {u : Up} (hu : u eS = none) (n : Nat) : it u n eS = eS := by
  induction n with
  | zero => rfl
  | succ n ih =>
    show it u n (nx u eS) = eS
    rw [show nx u eS = eS by unfold nx; rw [hu]; rfl]
    exact ih
theorem it_stays {u : Up} (hu : u eS = none) {n m : Nat} {s : ByteArray} (h : it u n s = eS) (hm : n ≤ m) : it u m s = eS := by
  rw [show m = n + (m - n) by omega, it_add, h, it_eS hu]
theorem cbk_iff (u : Up) (key : ByteArray) : ∀ (n : Nat) (s : ByteArray), cbk u key n s = true ↔ ∃ k, k < n ∧ it u k s = key
  | 0, s => by constructor
               · intro h; cases h
               · rintro ⟨k, h, _⟩; omega
  | n + 1, s => by
    unfold cbk
    split
    · rename_i h
      exact ⟨fun _ => ⟨0, by omega, eqB_iff.1 h⟩, fun _ => rfl⟩
    · rename_i h
      rw [cbk_iff u key n]
      constructor
      · rintro ⟨k, h1, h2⟩
        exact ⟨k + 1, by omega, h2⟩
      · rintro ⟨k, h1, h2⟩
        cases k with
        | zero => exact absurd (eqB_iff.2 h2) h
        | succ k => exact ⟨k, by omega, h2⟩
theorem cbB_iff (u : Up) (c : Nat) (key : ByteArray) : cbB u c key = true ↔ ∃ k, 1 ≤ k ∧ k ≤ c ∧ it u k key = key := by
  unfold cbB
  rw [cbk_iff]
  constructor
  · rintro ⟨k, h1, h2⟩
    exact ⟨k + 1, by omega, by omega, h2⟩
  · rintro ⟨k, h1, h2, h3⟩
    cases k with
    | zero => omega
    | succ k => exact ⟨k, by omega, h3⟩
theorem pigeon (u : Up) (ks : List ByteArray) (s : ByteArray) (h : ∀ i, i ≤ ks.length → it u i s ∈ ks) : ∃ x ∈ ks, cbB u ks.length x = true := by
  by_cases hd : ∃ i j, i < j ∧ j ≤ ks.length ∧ it u i s = it u j s
  · obtain ⟨i, j, h1, h2, h3⟩ := hd
    refine ⟨it u i s, h i (by omega), (cbB_iff _ _ _).2 ⟨j - i, by omega, by omega, ?_⟩⟩
    rw [← it_add, show i + (j - i) = j by omega]
    exact h3.symm
  · exfalso
    have hn : ((List.range (ks.length + 1)).map (fun i => it u i s)).Nodup := by
      unfold List.Nodup
      rw [List.pairwise_iff_getElem]
      intro i j hi hj hij e
      simp only [List.length_map, List.length_range] at hi hj
      simp only [List.getElem_map, List.getElem_range] at e
      exact hd ⟨i, j, hij, by omega, e⟩
    have h2 := nodup_len _ ks hn (fun x hx => by
      obtain ⟨i, hi, rfl⟩ := List.mem_map.1 hx
      exact h i (by have := List.mem_range.1 hi; omega))
    simp only [List.length_map, List.length_range] at h2
    omega
theorem key_before {u : Up} (hu : u eS = none) {k i : Nat} {s : ByteArray} (h : it u k s ≠ eS) (hi : i < k) : ∃ t, u (it u i s) = some t := by
  cases hk : u (it u i s) with
  | some t => exact ⟨t, rfl⟩
  | none =>
    exfalso
    apply h
    refine it_stays hu (n := i + 1) ?_ hi
    rw [it_add]
    show nx u (it u i s) = eS
    unfold nx
    rw [hk]
    rfl
/-! The map of a list of classes. -/
def ksC (l : List Cla) : List ByteArray := l.map (·.1)
theorem upS_mem {l : List Cla} {s t : ByteArray} (h : upS l s = some t) : s ∈ ksC l := by
  induction l generalizing t with
  | nil => cases h
  | cons p r ih =>
    rw [upS_cons] at h
    cases hr : upS r s with
    | some v => exact List.mem_cons_of_mem _ (ih hr)
    | none =>
      rw [hr] at h
      dsimp only at h
      split at h
      · rename_i e; subst e; exact List.mem_cons_self ..
      · cases h
theorem upS_none {l : List Cla} {s : ByteArray} (h : s ∉ ksC l) : upS l s = none := by
  cases hu : upS l s with
  | none => rfl
  | some t => exact absurd (upS_mem hu) h
theorem upS_at {l : List Cla} (hr : Rise (ksC l)) {p : Cla} (hp : p ∈ l) : upS l p.1 = some p.2 := by
  induction l with
  | nil => cases hp
  | cons q r ih =>
    obtain ⟨h1, h2⟩ := List.pairwise_cons.1 hr
    rw [upS_cons]
    rcases List.mem_cons.1 hp with rfl | hp
    · rw [upS_none (fun hm => by have h3 : cmpI p.1 p.1 < 0 := h1 _ hm; have h4 := cmpI_eq.2 (rfl : p.1 = p.1); omega)]
      simp
    · rw [ih h2 hp]
theorem upS_isSome (l : List Cla) (s : ByteArray) : (upS l s).isSome = hasK (ksC l) s := by
  induction l with
  | nil => rfl
  | cons q r ih =>
    rw [upS_cons]
    show _ = (eqB q.1 s || hasK (ksC r) s)
    rw [← ih]
    cases hr : upS r s with
    | some v => simp
    | none =>
      dsimp only
      by_cases e : s = q.1
      · rw [if_pos e, eqB_iff.2 e.symm]; rfl
      · rw [if_neg e]
        cases hb : eqB q.1 s with
        | true => exact absurd (eqB_iff.1 hb).symm e
        | false => rfl
theorem upC_len (c : Nat) (f : Fn) (l : List Cla) (hr : Rise (ksC l)) (hf : ∀ p ∈ l, f p.1 = none) : upC c f l = c + l.length := by
  induction l generalizing c f with
  | nil => rfl
  | cons p r ih =>
    obtain ⟨h1, h2⟩ := List.pairwise_cons.1 hr
    show upC (cput c f p.1) (fput f p.1 (.string p.2)) r = _
    rw [ih _ _ h2]
    · have : cput c f p.1 = c + 1 := by unfold cput; rw [hf p (List.mem_cons_self ..)]; rfl
      rw [this]
      simp only [List.length_cons]
      omega
    · intro q hq
      have hne : q.1 ≠ p.1 := fun e => by
        have h3 : cmpI p.1 q.1 < 0 := h1 q.1 (List.mem_map.2 ⟨q, hq, rfl⟩)
        have h4 := cmpI_eq.2 e.symm
        omega
      unfold fput
      rw [if_neg hne]
      exact hf q (List.mem_cons_of_mem _ hq)
theorem ck_ne {l : List Cla} (h : ckErr ⟨#[]⟩ l = 0) : eS ∉ ksC l := by
  intro hm
  obtain ⟨p, hp, e⟩ := List.mem_map.1 hm
  have h1 := (ck_rise _ _ h).2 p hp
  have h2 := cmpI_eq.2 (e.symm : eS = p.1)
  have h3 : cmpI eS p.1 < 0 := h1
  omega
/-! What the law's own text looks at. -/
def upsK (u : Up) : Nat → ByteArray → List ByteArray
  | 0, _ => []
  | n + 1, s => match u s with | none => [] | some t => if t.toList.isEmpty = true then [] else t :: upsK u n t
theorem upsK_sub {u : Up} : ∀ {n : Nat} {s t : ByteArray}, t ∈ upsK u n s → ∃ k, 1 ≤ k ∧ k ≤ n ∧ it u k s = t
  | 0, s, t, h => by cases h
  | n + 1, s, t, h => by
    unfold upsK at h
    cases hu : u s with
    | none => rw [hu] at h; cases h
    | some x =>
      rw [hu] at h
      dsimp only at h
      split at h
      · cases h
      · have hx : nx u s = x := by unfold nx; rw [hu]; rfl
        rcases List.mem_cons.1 h with rfl | h
        · exact ⟨1, by omega, by omega, hx⟩
        · obtain ⟨k, h1, h2, h3⟩ := upsK_sub h
          exact ⟨k + 1, by omega, by omega, by show it u k (nx u s) = t; rw [hx]; exact h3⟩
theorem upsK_mem {u : Up} (hu : u eS = none) : ∀ {n k : Nat} {s t : ByteArray}, 1 ≤ k → k ≤ n → it u k s = t → t ≠ eS → t ∈ upsK u n s
  | 0, k, s, t, h1, h2, _, _ => by omega
  | n + 1, k, s, t, h1, h2, h3, h4 => by
    cases k with
    | zero => omega
    | succ k =>
      have h3' : it u k (nx u s) = t := h3
      unfold upsK
      cases hs : u s with
      | none =>
        exfalso
        rw [show nx u s = eS by unfold nx; rw [hs]; rfl, it_eS hu] at h3'
        exact h4 h3'.symm
      | some x =>
        have hx : nx u s = x := by unfold nx; rw [hs]; rfl
        rw [hx] at h3'
        dsimp only
        split
        · rename_i he
          exfalso
          rw [isE_iff.1 he, it_eS hu] at h3'
          exact h4 h3'.symm
        · cases k with
          | zero =>
            have : x = t := h3'
            rw [this]
            exact List.mem_cons_self ..
          | succ k => exact List.mem_cons_of_mem _ (upsK_mem hu (by omega) (by omega) h3' h4)
theorem loop_eq {l : List Cla} (h0 : ckErr ⟨#[]⟩ l = 0) : l.any (fun p => cbB (upS l) (upC 0 eF l) p.1) = l.any (fun p => hasK (upsK (upS l) (l.length + 1) p.1) p.1) := by
  have hr : Rise (ksC l) := (ck_rise _ _ h0).1
  have hne := ck_ne h0
  have hu : upS l eS = none := upS_none hne
  have hc : upC 0 eF l = l.length := by rw [upC_len 0 eF l hr (fun _ _ => rfl), Nat.zero_add]
  have hkl : (ksC l).length = l.length := List.length_map _
  rw [hc, Bool.eq_iff_iff, List.any_eq_true, List.any_eq_true]
  constructor
  · rintro ⟨p, hp, h⟩
    obtain ⟨k, h1, h2, h3⟩ := (cbB_iff _ _ _).1 h
    exact ⟨p, hp, hasK_iff.2 (upsK_mem hu h1 (by omega) h3 (fun e => hne (e ▸ List.mem_map.2 ⟨p, hp, rfl⟩)))⟩
  · rintro ⟨p, hp, h⟩
    obtain ⟨k, h1, h2, h3⟩ := upsK_sub (hasK_iff.1 h)
    by_cases hk : k ≤ l.length
    · exact ⟨p, hp, (cbB_iff _ _ _).2 ⟨k, h1, hk, h3⟩⟩
    · have hpe : it (upS l) k p.1 ≠ eS := by rw [h3]; exact fun e => hne (e ▸ List.mem_map.2 ⟨p, hp, rfl⟩)
      obtain ⟨x, hx, hcb⟩ := pigeon (upS l) (ksC l) p.1 (fun i hi => by
        obtain ⟨t, ht⟩ := key_before hu hpe (show i < k by omega)
        exact upS_mem ht)
      obtain ⟨q, hq, rfl⟩ := List.mem_map.1 hx
      rw [hkl] at hcb
      exact ⟨q, hq, hcb⟩
theorem clErr_parts {l : List Cla} (h : clErr l = 0) : ckErr ⟨#[]⟩ l = 0 ∧ l.length ≤ 30 ∧ l.any (fun p => cbB (upS l) (upC 0 eF l) p.1) = false := by
  unfold clErr at h
  split at h
  · omega
  · split at h
    · rename_i h30 hck
      unfold clTail at h
      split at h
      · omega
      · split at h
        · omega
        · rename_i hcb
          exact ⟨hck, by omega, by simpa using hcb⟩
    · contradiction
/-- Every ladder ends. -/
theorem it_ends {l : List Cla} (h : clErr l = 0) (s : ByteArray) : it (upS l) (l.length + 1) s = eS := by
  obtain ⟨hck, _, hcb⟩ := clErr_parts h
  have hr : Rise (ksC l) := (ck_rise _ _ hck).1
  have hu : upS l eS = none := upS_none (ck_ne hck)
  have hc : upC 0 eF l = l.length := by rw [upC_len 0 eF l hr (fun _ _ => rfl), Nat.zero_add]
  have hkl : (ksC l).length = l.length := List.length_map _
  by_cases he : it (upS l) (l.length + 1) s = eS
  · exact he
  · exfalso
    obtain ⟨x, hx, h2⟩ := pigeon (upS l) (ksC l) s (fun i hi => by
      obtain ⟨t, ht⟩ := key_before hu he (show i < l.length + 1 by omega)
      exact upS_mem ht)
    obtain ⟨q, hq, rfl⟩ := List.mem_map.1 hx
    rw [hkl] at h2
    rw [hc] at hcb
    have h3 : l.any (fun p => cbB (upS l) l.length p.1) = true := List.any_eq_true.2 ⟨q, hq, h2⟩
    rw [hcb] at h3
    cases h3
/-- A class, and those above it. -/
def ladK (u : Up) : Nat → ByteArray → List ByteArray
  | 0, _ => []
  | n + 1, s => if s.toList.isEmpty = true then [] else s :: ladK u n ((u s).getD eS)
theorem ladK_eS (u : Up) (n : Nat) : ladK u n eS = [] := by
  cases n with
  | zero => rfl
  | succ n => unfold ladK; rw [if_pos (isE_iff.2 rfl)]
theorem ladK_eq (u : Up) : ∀ (n : Nat) (s : ByteArray), s ≠ eS → ladK u (n + 1) s = s :: upsK u n s
  | 0, s, h => by
    unfold ladK
    rw [if_neg (fun e => h (isE_iff.1 e))]
    rfl
  | n + 1, s, h => by
    unfold ladK
    rw [if_neg (fun e => h (isE_iff.1 e))]
    congr 1
    unfold upsK
    cases hu : u s with
    | none => exact ladK_eS u _
    | some t =>
      dsimp only [Option.getD_some]
      split
      · rename_i he
        rw [isE_iff.1 he]
        exact ladK_eS u _
      · rename_i he
        exact ladK_eq u n t (fun e => he (isE_iff.2 e))
theorem upsK_len (u : Up) : ∀ (n : Nat) (s : ByteArray), (upsK u n s).length ≤ n
  | 0, s => Nat.le_refl _
  | n + 1, s => by
    unfold upsK
    split
    · simp
    · split
      · simp
      · simp only [List.length_cons]
        have := upsK_len u n ‹_›
        omega
end Go.Proofs.YtlnoafkepfgooaaDoor

/- What was picked; a block as a row; 'when' at literals. -/
namespace Go.Proofs.YtlnoafkepfgooaaDoor
open Go.RowKit

theorem small_of {s : ByteArray} (h : s.size ≤ 100) : Small s := by unfold Small; omega
theorem bnd_pick {zs : List Int} {r : Int} (h : r ∈ zs) (hz : zs.all (fun z => decide (-1099511627776 ≤ z ∧ z ≤ 1099511627776)) = true) : bnd r := by
  unfold bnd
  exact of_decide_eq_true (List.all_eq_true.1 hz r h)
theorem small_pick {zs : List ByteArray} {r : ByteArray} (h : r ∈ zs) (hz : zs.all (fun z => decide (z.size ≤ 100)) = true) : Small r := small_of (of_decide_eq_true (List.all_eq_true.1 hz r h))
theorem Bk.rd {w : World} {g : Nat} {T : TypeId} {cs : Array Value} (h : Bk w g T cs) (z n : Nat) (hc : cs.size = n * z) (hn : n ≤ 1000) : Rd w z (.slice (some ⟨g, 0, none⟩) n n) n cs.toList := by
  refine ⟨_, n, rfl, Nat.le_refl _, by unfold maxLen; omega, by simpa using hc, (fun e => by cases e), fun b hb => ?_⟩
  obtain rfl := Option.some.inj hb
  refine ⟨rfl, h.lt, fun j u hj => ?_⟩
  rw [Nat.zero_add, h.cell]
  simpa using hj
theorem when_t (n : Int) (w : World) : Calls Tryd.prog 14 #[.bool true, .int .i64 n] w fun e w' => e = .returned (.int .i64 n) ∧ w = w' := by simpa using when_c true n w
theorem when_f (n : Int) (w : World) : Calls Tryd.prog 14 #[.bool false, .int .i64 n] w fun e w' => e = .returned (.int .i64 0) ∧ w = w' := by simpa using when_c false n w
end Go.Proofs.YtlnoafkepfgooaaDoor

/- Generators: Classes, ClassKey. -/
namespace Go.Proofs.YtlnoafkepfgooaaDoor
open Go.RowKit

/-- Four classes: their keys, their ups. -/
def cellsC (k u : Nat → ByteArray) : Array Value := #[.string (k 0), .string (u 0), .string (k 1), .string (u 1), .string (k 2), .string (u 2), .string (k 3), .string (u 3)]
def clsC (k u : Nat → ByteArray) : List Cla := [(k 0, u 0), (k 1, u 1), (k 2, u 2), (k 3, u 3)]
theorem clsC_cells (k u : Nat → ByteArray) : clL (clsC k u) = (cellsC k u).toList := rfl
def updS (f : Nat → ByteArray) (i : Nat) (x : ByteArray) : Nat → ByteArray := fun j => if j = i then x else f j
theorem cellsC_key (k u : Nat → ByteArray) (i : Nat) (hi : i < 4) : (cellsC k u)[i * 2]? = some (.string (k i)) := by
  match i, hi with
  | 0, _ => rfl
  | 1, _ => rfl
  | 2, _ => rfl
  | 3, _ => rfl
theorem cellsC_up (k u : Nat → ByteArray) (i : Nat) (hi : i < 4) : (cellsC k u)[i * 2 + 1]? = some (.string (u i)) := by
  match i, hi with
  | 0, _ => rfl
  | 1, _ => rfl
  | 2, _ => rfl
  | 3, _ => rfl
theorem cellsC_setUp (k u : Nat → ByteArray) (i : Nat) (hi : i < 4) (x : ByteArray) : (cellsC k u).setIfInBounds (i * 2 + 1) (.string x) = cellsC k (updS u i x) := by
  match i, hi with
  | 0, _ => rfl
  | 1, _ => rfl
  | 2, _ => rfl
  | 3, _ => rfl
theorem cellsC_setKey (k u : Nat → ByteArray) (i : Nat) (hi : i < 4) (x : ByteArray) : (cellsC k u).setIfInBounds (i * 2) (.string x) = cellsC (updS k i x) u := by
  match i, hi with
  | 0, _ => rfl
  | 1, _ => rfl
  | 2, _ => rfl
  | 3, _ => rfl
def SmF (f : Nat → ByteArray) : Prop := ∀ i, Small (f i)
theorem SmF.upd {f : Nat → ByteArray} (h : SmF f) (i : Nat) {x : ByteArray} (hx : Small x) : SmF (updS f i x) := fun j => by
  unfold updS
  split
  · exact hx
  · exact h j
theorem clsC_ok {k u : Nat → ByteArray} (hk : SmF k) (hu : SmF u) : ClsOk (clsC k u) := by
  intro p hp
  simp only [clsC, List.mem_cons, List.mem_nil_iff, or_false] at hp
  rcases hp with rfl | rfl | rfl | rfl <;> exact ⟨hk _, hu _⟩
def kB : Nat → ByteArray
  | 0 => ⟨#[98, 105, 103]⟩
  | 1 => ⟨#[109, 97, 120, 105]⟩
  | 2 => ⟨#[109, 105, 100, 105]⟩
  | _ => ⟨#[109, 105, 110, 105]⟩
theorem kB_small : SmF kB := fun i => small_of (by
  match i with
  | 0 => decide
  | 1 => decide
  | 2 => decide
  | n + 3 => exact (by decide : (⟨#[109, 105, 110, 105]⟩ : ByteArray).size ≤ 100))
theorem eS_small : SmF fun _ => eS := fun _ => Small.eS
def ClassesPost (s K d : Nat) (w : World) (e : Ending) (w' : World) : Prop :=
  ∃ (g : Nat) (k u : Nat → ByteArray), e = .returned (.slice (some ⟨g, 0, none⟩) 4 4) ∧ w.heap.size ≤ g ∧ Bk w' g 82 (cellsC k u) ∧ SmF k ∧ SmF u ∧ SB w' s (K + d) ∧ G w w' (some s)
def ClassesRel (w : World) (s K : Nat) (i : Value) (wr : World) : Prop :=
  ∃ (n : Nat) (u : Nat → ByteArray), n ≤ 4 ∧ i = .int .i64 n ∧ Bk wr w.heap.size 82 (cellsC kB u) ∧ SmF u ∧ SB wr s (K + 2 * n) ∧ G w wr (some s)
set_option maxRecDepth 100000 in
set_option maxHeartbeats 4000000 in
theorem classes_c (w : World) (s : Nat) (K : Nat) (hs : SB w s K) (hk : K ≤ 900000000000) :
    Calls Tryd.prog 47 #[.pointer (some ⟨s, 0, none⟩)] w (ClassesPost s K 8 w) := by
  have hslt := hs.lt
  go_enter Tryd.func47, Tryd.ntmps47
  go_wp2_with fail
  go_loopw [12] (ClassesRel w s K) (fun i _ => 4 - (intOf i).toNat)
  case atStart =>
    exact ⟨0, fun _ => eS, by omega, rfl, Bk.new w _ _, eS_small, hs.alloc _, (G.refl _ _).alloc _⟩
  case round =>
    obtain ⟨n, u, hn, rfl, hB, hu, hSB, hG⟩ := hrel
    have hwl := hB.lt
    by_cases hn4 : n < 4
    · by_cases hn0 : n = 0
      · subst hn0
        go_wp2_with fail
        go_roundw
        case rel => exact ⟨1, u, by omega, rfl, hB, hu, hSB.le (by omega), hG⟩
        case measure => simp [intOf]
      · have hn0' : 0 < n := by omega
        go_wp2_with fail
        refine (flip_c _ _ _ _ hSB (by omega) (by omega)).mono ?_; rintro e w3 ⟨b, rfl, hSB3, hG3⟩
        have hB3 := hB.grown hG3 (by simp; omega)
        have hG03 := hG.trans hG3
        clear hB hG hG3 hSB
        cases b with
        | true =>
          go_wp2_with fail
          go_roundw
          case rel => exact ⟨n + 1, u, by omega, by go_num, hB3, hu, hSB3.le (by omega), hG03⟩
          case measure => simp [intOf]; omega
        | false =>
          go_wp2_with fail
          refine (next_c _ _ _ _ hSB3 (by omega) (by omega)).mono ?_; rintro e w4 ⟨j, rfl, hj, hSB4, hG4⟩
          obtain ⟨j0, j1⟩ := hj
          obtain ⟨j, rfl⟩ := Int.eq_ofNat_of_zero_le j0
          have j4 : j < n := by omega
          clear j1
          have hB4 := hB3.grown hG4 (by simp; omega)
          have hG04 := hG03.trans hG4
          clear hB3 hG03 hG4 hSB3
          have c1 : w4.cell? ⟨w.heap.size, j * 2, none⟩ = some (.string (kB j)) := by rw [hB4.cell]; exact cellsC_key _ _ _ (by omega)
          have c2 : w4.cell? ⟨w.heap.size, n * 2 + 1, none⟩ = some (.string (u n)) := by rw [hB4.cell]; exact cellsC_up _ _ _ (by omega)
          have f2 := hB4.free (n * 2 + 1)
          go_wp2_with fail
          go_roundw
          case rel =>
            refine ⟨n + 1, updS u n (kB j), by omega, by go_num, ?_, hu.upd _ (kB_small j), (hSB4.setCell (by show s < w.heap.size; omega) _).le (by omega), hG04.setCell (.inl (Nat.le_refl _)) _⟩
            rw [← cellsC_setUp _ _ _ (by omega)]
            exact hB4.set _ _
          case measure => simp [intOf]; omega
    · obtain rfl : n = 4 := by omega
      go_wp2_with fail
      go_ret
      exact ⟨w.heap.size, kB, u, rfl, Nat.le_refl _, hB, kB_small, hu, hSB.le (by omega), hG⟩
def ClassKeyPost (s K : Nat) (w : World) (e : Ending) (w' : World) : Prop := ∃ r : ByteArray, e = .returned (.string r) ∧ Small r ∧ SB w' s (K + 1) ∧ G w w' (some s)
set_option maxRecDepth 100000 in
set_option maxHeartbeats 1000000 in
theorem classKey_c (w : World) (s : Nat) (K : Nat) (hs : SB w s K) (hk : K ≤ 900000000000) :
    Calls Tryd.prog 21 #[.pointer (some ⟨s, 0, none⟩)] w (ClassKeyPost s K w) := by
  have hslt := hs.lt
  go_enter Tryd.func21, Tryd.ntmps21
  go_wp2_with fail
  refine (some_c _ _ _ [⟨#[109, 105, 110, 105]⟩, ⟨#[109, 105, 110, 105]⟩, ⟨#[109, 105, 100, 105]⟩, ⟨#[109, 97, 120, 105]⟩, ⟨#[98, 105, 103]⟩, ⟨#[109, 105, 110, 105]⟩, ⟨#[110, 111, 110, 101]⟩, ⟨#[]⟩, ⟨#[65]⟩] _ _ K (hs.alloc _) (by omega) (by decide) (by decide) (Rd.newAt _ rfl rfl (by decide)) (hs.newAt _ _ _ (by omega))).mono ?_
  rintro e w2 ⟨r, rfl, hr, hp2, hg2⟩
  have hsm : Small r := small_of (by
    simp only [List.mem_cons, List.mem_nil_iff, or_false] at hr
    rcases hr with rfl | rfl | rfl | rfl | rfl | rfl | rfl | rfl | rfl <;> decide)
  go_wp2_with fail
  go_ret
  exact ⟨r, rfl, hsm, hp2, ((G.refl w (some s)).alloc _).trans hg2⟩
end Go.Proofs.YtlnoafkepfgooaaDoor

/- Steps of a region that draws its order, by hand. No program. -/
namespace Go.Proofs.YtlnoafkepfgooaaDoor
open Go.RowKit
section
variable {P : Program} {ops : Array Oper} {o : Oper} {a : Act} {w : World} {K : Act → World → Prop} {Q : Exit → Act → World → Prop} {E : Prop}
theorem st_val (hg : o.guard = none) {v : Value} {w' : World} (hr : (execOp a.eval o).run P w = .ok (.value v) w') (hK : K (a.put o.dst v) w') : if Region.wanted o (yielded ops a.tmps) = true then Oper.wp P o a w K Q else E := by
  rw [if_pos (by simp [Region.wanted, hg])]
  unfold Oper.wp
  rw [hr]
  exact hK
theorem st_wp (hg : o.guard = none) (h : Oper.wp P o a w K Q) : if Region.wanted o (yielded ops a.tmps) = true then Oper.wp P o a w K Q else E := by
  rw [if_pos (by simp [Region.wanted, hg])]
  exact h
theorem st_call (hg : o.guard = none) {f : FuncId} {args : Array Value} {w1 : World} (hr : (execOp a.eval o).run P w = .ok (.enter f args) w1) (hc : Calls P f args w1 fun e w' => ∃ v, e = .returned v ∧ K (a.put o.dst v) w') : if Region.wanted o (yielded ops a.tmps) = true then Oper.wp P o a w K Q else E := by
  rw [if_pos (by simp [Region.wanted, hg])]
  unfold Oper.wp
  rw [hr]
  refine hc.mono ?_
  rintro e w' ⟨v, rfl, hK⟩
  exact hK
theorem run_load_row {ty : TypeId} {x : Operand} (ho : o.op = .load ty x) (g : Nat) (hx : a.eval x = .pointer (some ⟨g, 0, none⟩)) (t : TypeId) (cs : Array Value) (d : TypeDesc) (hg : Bk w g t cs)
    (hu : P.underlying ty = some d) (hd : (match d with | .struct _ | .array _ _ => true | _ => false) = true) (hi : (P.info? ty).map (·.size) = some cs.size) : (execOp a.eval o).run P w = .ok (.value (.agg cs)) w := by
  unfold execOp
  simp only [ho, hx, Instr.loadAt, Instr.sureAddr, Sem.run_bind, Sem.run_pure, Result.andThen_ok, run_loadVar_row w g t ty cs (0, 0) d hg hu hd hi]
/-- One that may come up, and it alone. -/
theorem ready_one {md : Region.Mode} {fuel : Nat} {listed : Array Bool} {i : Nat} (hr : Region.ready md ops listed = [i]) (ho : ops[i]? = some o)
    (h : ∀ K' : Act → World → Prop, (∀ a w, wpAny P md ops Q fuel (listed.setIfInBounds i true) a w → K' a w) → if Region.wanted o (yielded ops a.tmps) = true then Oper.wp P o a w K' Q else K' (a.put o.dst undef) w) : wpAny P md ops Q (fuel + 1) listed a w :=
  wpAny_ready hr (by simp) (AllReady.cons ho h AllReady.nil)
theorem ready_two {md : Region.Mode} {fuel : Nat} {listed : Array Bool} {i j : Nat} {o2 : Oper} (hr : Region.ready md ops listed = [i, j]) (ho : ops[i]? = some o) (ho2 : ops[j]? = some o2)
    (h : ∀ K' : Act → World → Prop, (∀ a w, wpAny P md ops Q fuel (listed.setIfInBounds i true) a w → K' a w) → if Region.wanted o (yielded ops a.tmps) = true then Oper.wp P o a w K' Q else K' (a.put o.dst undef) w)
    (h2 : ∀ K' : Act → World → Prop, (∀ a w, wpAny P md ops Q fuel (listed.setIfInBounds j true) a w → K' a w) → if Region.wanted o2 (yielded ops a.tmps) = true then Oper.wp P o2 a w K' Q else K' (a.put o2.dst undef) w) : wpAny P md ops Q (fuel + 1) listed a w :=
  wpAny_ready hr (by simp) (AllReady.cons ho h (AllReady.cons ho2 h2 AllReady.nil))
end
end Go.Proofs.YtlnoafkepfgooaaDoor

/- A region that draws its order, whose loads are taken first: what they read holds until one store comes up, and that store waits for each of them. No program. -/
namespace Go.Proofs.YtlnoafkepfgooaaDoor
open Go.RowKit
section
variable {P : Program} {ops : Array Oper} {Q : Exit → Act → World → Prop} {md : Region.Mode} {S : World → Prop} {k : Nat}
/-- Whatever order is picked from here on; 'S' holds behind every operation, until number 'k' has come up. -/
def wpAnyK (P : Program) (md : Region.Mode) (ops : Array Oper) (Q : Exit → Act → World → Prop) (S : World → Prop) (k : Nat) : Nat → Array Bool → Act → World → Prop
  | 0, listed, a, w => Region.ready md ops listed = [] ∧ Q .normal a w
  | fuel + 1, listed, a, w =>
    (Region.ready md ops listed = [] → Q .normal a w) ∧
    ∀ i ∈ Region.ready md ops listed, wpOp P ops Q i (fun a' w' => (i ≠ k → listed.getD k true = false → S w') ∧ wpAnyK P md ops Q S k fuel (listed.setIfInBounds i true) a' w') a w
theorem wpAny_of_K : ∀ (fuel : Nat) (listed : Array Bool) (a : Act) (w : World), wpAnyK P md ops Q S k fuel listed a w → wpAny P md ops Q fuel listed a w
  | 0, _, _, _, h => h
  | fuel + 1, _, _, _, h => ⟨h.1, fun i hi => wpOp_mono (fun a' w' h' => wpAny_of_K fuel _ a' w' h'.2) (h.2 i hi)⟩
/-- Once 'k' has come up nothing more is asked. -/
theorem wpAnyK_of_any : ∀ (fuel : Nat) (listed : Array Bool) (a : Act) (w : World), listed.getD k true = true → wpAny P md ops Q fuel listed a w → wpAnyK P md ops Q S k fuel listed a w
  | 0, _, _, _, _, h => h
  | fuel + 1, listed, a, w, hk, h => by
    refine ⟨h.1, fun i hi => ?_⟩
    have hk' : (listed.setIfInBounds i true).getD k true = true := by
      by_cases e : i = k
      · subst e
        by_cases hlt : i < listed.size
        · simp [hlt]
        · simp [hlt]
      · rw [getD_set_ne true e]; exact hk
    refine wpOp_mono (K := wpAny P md ops Q fuel (listed.setIfInBounds i true)) (fun a' w' h' => ?_) (h.2 i hi)
    refine ⟨fun _ h0 => ?_, wpAnyK_of_any fuel _ a' w' hk' h'⟩
    rw [hk] at h0
    cases h0
theorem wpAnyK_first {i : Nat} {oi : Oper} {v : Value} {S' : World → Prop} (hi : ops[i]? = some oi) (hsel : ∀ (j : Nat) (o : Oper) cs b, ops[j]? = some o → o.op ≠ .select cs b) (hik : i ≠ k)
    (hQ : ∀ c a w, Q (.panic c) (a.put oi.dst v) w → Q (.panic c) a w) (hw : (∀ w, S' w) ∨ (S' = S ∧ ∃ ok, ops[k]? = some ok ∧ ∃ e ∈ ok.after, Region.binds md e = true ∧ e.on = i)) :
    ∀ (fuel : Nat) (listed : Array Bool) (a : Act) (w : World),
      (∀ j oj, ops[j]? = some oj → j ≠ i → listed.getD j true = false → (∀ e ∈ oj.after, Region.binds md e = true → e.on ≠ i) → oi.apart ops oj = true) →
      i ∈ Region.ready md ops listed → listed.getD k true = false ∨ (∀ w, S' w) → YieldsIf P ops S' oi v a → (listed.getD k true = false → S w) → S' w →
      wpAnyK P md ops Q S k fuel (listed.setIfInBounds i true) (a.put oi.dst v) w → wpAnyK P md ops Q S k (fuel + 1) listed a w := by
  intro fuel
  induction fuel with
  | zero =>
    intro listed a w _ hr _ hy hS hS' H
    refine ⟨fun h => (by rw [h] at hr; cases hr), fun j hj => ?_⟩
    by_cases hji : j = i
    · subst hji; exact hy.wpOp hi hS' ⟨fun _ h0 => hS h0, H⟩
    · have := ready_mono hj hji
      rw [H.1] at this
      cases this
  | succ fuel ih =>
    intro listed a w hfree hr hun0 hy hS hS' H
    refine ⟨fun h => (by rw [h] at hr; cases hr), fun j hj => ?_⟩
    by_cases hji : j = i
    · subst hji; exact hy.wpOp hi hS' ⟨fun _ h0 => hS h0, H⟩
    · have h1 := H.2 j (ready_mono hj hji)
      obtain ⟨hjun, oj, hoj, hall⟩ := mem_ready.1 hj
      have hnot : ∀ e ∈ oj.after, Region.binds md e = true → e.on ≠ i := fun e he hb heq => by
        have h1 := hall e he hb
        have h0 := (mem_ready.1 hr).1
        rw [heq] at h1
        rcases Nat.lt_or_ge i listed.size with h' | h'
        · simp [h'] at h0 h1; rw [h0] at h1; cases h1
        · simp [Array.getElem?_eq_none h'] at h1
      have h2 := wpOp_putIf hoj (hfree j oj hoj hji hjun hnot) (fun cs b => hsel i oi cs b hi) (fun cs b => hsel j oj cs b hoj) hQ hy h1
      have hfree' : ∀ k ok, ops[k]? = some ok → k ≠ i → (listed.setIfInBounds j true).getD k true = false →
          (∀ e ∈ ok.after, Region.binds md e = true → e.on ≠ i) → oi.apart ops ok = true := fun k ok hk hki hun hno => by
        refine hfree k ok hk hki ?_ hno
        by_cases hjk : j = k
        · subst hjk; exact hjun
        · rw [getD_set_ne true hjk] at hun; exact hun
      refine wpOp_mono (fun a' w' h3 => ?_) h2
      obtain ⟨hy', hT, hrest⟩ := h3
      have hTj : j ≠ k → listed.getD k true = false → S w' := fun hjk h0 => hT hjk (by rw [getD_set_ne true hik]; exact h0)
      refine ⟨hTj, ?_⟩
      have hrest' : wpAnyK P md ops Q S k fuel ((listed.setIfInBounds j true).setIfInBounds i true) (a'.put oi.dst v) w' := by
        rw [Array.setIfInBounds_comm _ _ hji]
        exact hrest
      rcases hw with hw | ⟨rfl, ok, hok, e, he, hb, hei⟩
      · refine ih (listed.setIfInBounds j true) a' w' hfree' (ready_mono hr (Ne.symm hji)) (.inr hw) hy' (fun h0 => ?_) (hw w') hrest'
        by_cases hjk : j = k
        · subst hjk
          exfalso
          have hjs : j < listed.size := by
            rcases Nat.lt_or_ge j listed.size with h' | h'
            · exact h'
            · have := (mem_ready.1 hj).1
              simp [Array.getElem?_eq_none h'] at this
          simp [hjs] at h0
        · exact hTj hjk (by rw [getD_set_ne true hjk] at h0; exact h0)
      · have hjk : j ≠ k := by
          rintro rfl
          rw [hoj] at hok
          obtain rfl := Option.some.inj hok
          exact hnot e he hb hei
        rcases hun0 with h0 | hall'
        · have hs' := hTj hjk h0
          exact ih (listed.setIfInBounds j true) a' w' hfree' (ready_mono hr (Ne.symm hji)) (.inl (by rw [getD_set_ne true hjk]; exact h0)) hy' (fun _ => hs') hs' hrest'
        · exact ih (listed.setIfInBounds j true) a' w' hfree' (ready_mono hr (Ne.symm hji)) (.inr hall') hy' (fun _ => hall' w') (hall' w') hrest'
/-- Take first what yields in whatever world. -/
theorem wpAnyK_take {i : Nat} {oi : Oper} {v : Value} {fuel : Nat} {listed : Array Bool} {a : Act} {w : World} (hi : ops[i]? = some oi) (hik : i ≠ k)
    (hs : Region.noSelect ops = true) (hf : Region.free md ops listed i = true) (hr : (Region.ready md ops listed).contains i = true)
    (hQ : ∀ c a w, Q (.panic c) (a.put oi.dst v) w → Q (.panic c) a w) (hy : YieldsIf P ops (fun _ => True) oi v a) (hS : S w)
    (h : wpAnyK P md ops Q S k fuel (listed.setIfInBounds i true) (a.put oi.dst v) w) : wpAnyK P md ops Q S k (fuel + 1) listed a w :=
  wpAnyK_first (S' := fun _ => True) hi (Region.noSelect_spec hs) hik hQ (.inl fun _ => trivial) fuel listed a w (Region.free_spec hi hf) (by simpa using hr) (.inr fun _ => trivial) hy (fun _ => hS) trivial h
def waitsB (md : Region.Mode) (ops : Array Oper) (k i : Nat) : Bool := match ops[k]? with | some o => o.after.any fun e => Region.binds md e && e.on == i | none => false
/-- Take first what yields in every world that meets S; 'k' waits for it. -/
theorem wpAnyK_load {i : Nat} {oi : Oper} {v : Value} {fuel : Nat} {listed : Array Bool} {a : Act} {w : World} (hi : ops[i]? = some oi) (hik : i ≠ k)
    (hs : Region.noSelect ops = true) (hf : Region.free md ops listed i = true) (hr : (Region.ready md ops listed).contains i = true) (hwt : waitsB md ops k i = true) (hun : listed.getD k true = false)
    (hQ : ∀ c a w, Q (.panic c) (a.put oi.dst v) w → Q (.panic c) a w) (hy : YieldsIf P ops S oi v a) (hS : S w)
    (h : wpAnyK P md ops Q S k fuel (listed.setIfInBounds i true) (a.put oi.dst v) w) : wpAnyK P md ops Q S k (fuel + 1) listed a w := by
  refine wpAnyK_first hi (Region.noSelect_spec hs) hik hQ (.inr ⟨rfl, ?_⟩) fuel listed a w (Region.free_spec hi hf) (by simpa using hr) (.inl hun) hy (fun _ => hS) hS h
  unfold waitsB at hwt
  split at hwt
  · rename_i ok hok
    rw [Array.any_eq_true'] at hwt
    obtain ⟨e, he, h2⟩ := hwt
    rw [Bool.and_eq_true, beq_iff_eq] at h2
    exact ⟨ok, hok, e, he, h2.1, h2.2⟩
  · cases hwt
theorem wpAnyK_all {rs : List Nat} {fuel : Nat} {listed : Array Bool} {a : Act} {w : World} (hr : Region.ready md ops listed = rs) (hne : rs ≠ [])
    (h : ∀ i ∈ rs, wpOp P ops Q i (fun a' w' => (i ≠ k → listed.getD k true = false → S w') ∧ wpAnyK P md ops Q S k fuel (listed.setIfInBounds i true) a' w') a w) : wpAnyK P md ops Q S k (fuel + 1) listed a w :=
  ⟨fun h0 => absurd (hr ▸ h0) hne, hr ▸ h⟩
theorem k_one {fuel : Nat} {listed : Array Bool} {a : Act} {w : World} {i : Nat} {o : Oper} (hr : Region.ready md ops listed = [i]) (ho : ops[i]? = some o)
    (h : ∀ K' : Act → World → Prop, (∀ a w, (i ≠ k → S w) → wpAnyK P md ops Q S k fuel (listed.setIfInBounds i true) a w → K' a w) → if Region.wanted o (yielded ops a.tmps) = true then Oper.wp P o a w K' Q else K' (a.put o.dst undef) w) : wpAnyK P md ops Q S k (fuel + 1) listed a w :=
  wpAnyK_all hr (by simp) fun j hj => by
    obtain rfl := List.mem_singleton.1 hj
    exact wpOp_step ho (fun K' hK => h K' (fun a w hS hW => hK a w ⟨fun h1 _ => hS h1, hW⟩))
theorem k_two {fuel : Nat} {listed : Array Bool} {a : Act} {w : World} {i j : Nat} {o o2 : Oper} (hr : Region.ready md ops listed = [i, j]) (ho : ops[i]? = some o) (ho2 : ops[j]? = some o2)
    (h : ∀ K' : Act → World → Prop, (∀ a w, (i ≠ k → S w) → wpAnyK P md ops Q S k fuel (listed.setIfInBounds i true) a w → K' a w) → if Region.wanted o (yielded ops a.tmps) = true then Oper.wp P o a w K' Q else K' (a.put o.dst undef) w)
    (h2 : ∀ K' : Act → World → Prop, (∀ a w, (j ≠ k → S w) → wpAnyK P md ops Q S k fuel (listed.setIfInBounds j true) a w → K' a w) → if Region.wanted o2 (yielded ops a.tmps) = true then Oper.wp P o2 a w K' Q else K' (a.put o2.dst undef) w) : wpAnyK P md ops Q S k (fuel + 1) listed a w :=
  wpAnyK_all hr (by simp) fun x hx => by
    rcases List.mem_cons.1 hx with rfl | hx
    · exact wpOp_step ho (fun K' hK => h K' (fun a w hS hW => hK a w ⟨fun h1 _ => hS h1, hW⟩))
    · obtain rfl := List.mem_singleton.1 hx
      exact wpOp_step ho2 (fun K' hK => h2 K' (fun a w hS hW => hK a w ⟨fun h1 _ => hS h1, hW⟩))
end
end Go.Proofs.YtlnoafkepfgooaaDoor

/- Generator: AnyClasses. -/
namespace Go.Proofs.YtlnoafkepfgooaaDoor
open Go.RowKit

theorem mem5 {r a b c d e : ByteArray} (h : r ∈ [a, b, c, d, e]) (ha : Small a) (hb : Small b) (hc : Small c) (hd : Small d) (he : Small e) : Small r := by
  simp only [List.mem_cons, List.mem_nil_iff, or_false] at h
  rcases h with rfl | rfl | rfl | rfl | rfl <;> assumption
theorem smA : Small ⟨#[65]⟩ := small_of (by decide)
theorem smZed : Small ⟨#[122, 101, 100]⟩ := small_of (by decide)
theorem smMini : Small ⟨#[109, 105, 110, 105]⟩ := small_of (by decide)
theorem smNone : Small ⟨#[110, 111, 110, 101]⟩ := small_of (by decide)
set_option maxRecDepth 100000 in
set_option maxHeartbeats 8000000 in
theorem anyClasses_c (w : World) (s : Nat) (K : Nat) (hs : SB w s K) (hk : K ≤ 800000000000) :
    Calls Tryd.prog 20 #[.pointer (some ⟨s, 0, none⟩)] w (ClassesPost s K 12 w) := by
  have hslt := hs.lt
  go_enter Tryd.func20, Tryd.ntmps20
  go_wp2_with fail
  refine (classes_c w s K hs (by omega)).mono ?_; rintro e w1 ⟨g, k, u, rfl, hgw, hB1, hkk, huu, hSB1, hG1⟩
  go_wp2_with fail
  refine (flip_c _ _ _ _ hSB1 (by omega) (by omega)).mono ?_; rintro e w2 ⟨b, rfl, hSB2, hG2⟩
  have hB2 := hB1.grown hG2 (by simp; omega)
  have hG02 := hG1.trans hG2
  clear hB1 hG1 hG2 hSB1
  cases b with
  | false =>
    go_wp2_with fail
    go_ret
    exact ⟨g, k, u, rfl, hgw, hB2, hkk, huu, hSB2.le (by omega), hG02⟩
  | true =>
    go_wp2_with fail
    refine (next_c _ _ _ _ hSB2 (by omega) (by omega)).mono ?_; rintro e w3 ⟨j, rfl, hj, hSB3, hG3⟩
    obtain ⟨j0, j1⟩ := hj
    obtain ⟨j, rfl⟩ := Int.eq_ofNat_of_zero_le j0
    have j4 : j < 4 := by omega
    clear j1
    have hB3 := hB2.grown hG3 (by simp; omega)
    have hG03 := hG02.trans hG3
    clear hB2 hG02 hG3 hSB2 hs
    have ck := cellsC_key k u j j4
    have cu := cellsC_up k u j j4
    go_wp2_with fail
    refine wp_region_any (by kernel_rfl) ?_
    change wpAny _ _ _ _ _ _ _ (World.drew _)
    have hBd := hB3.quiet ((G.refl w3 none).drew)
    have hSBd := hSB3.quiet ((G.refl w3 none).drew)
    have hGd := hG03.drew
    clear hB3 hSB3 hG03
    generalize w3.drew = w5 at hBd hSBd hGd ⊢
    refine wpAny_of_K (S := fun w' => Bk w' g 82 (cellsC k u)) (k := 26) _ _ _ _ ?_
    refine wpAnyK_take (i := 0) (v := .pointer (some ⟨g, j * 2, none⟩)) rfl (by decide) (by kernel_rfl) (by kernel_rfl) (by kernel_rfl) (fun _ _ _ h => h) (Or.inl ⟨by rfl, fun w _ => by go_simp⟩) hBd ?_
    refine wpAnyK_take (i := 1) (v := .pointer (some ⟨g, j * 2, none⟩)) rfl (by decide) (by kernel_rfl) (by kernel_rfl) (by kernel_rfl) (fun _ _ _ h => h) (Or.inl ⟨by rfl, fun w _ => by go_simp⟩) hBd ?_
    refine wpAnyK_take (i := 2) (v := .pointer (some ⟨s, 0, none⟩)) rfl (by decide) (by kernel_rfl) (by kernel_rfl) (by kernel_rfl) (fun _ _ _ h => h) (Or.inl ⟨by rfl, fun w _ => by go_simp⟩) hBd ?_
    refine wpAnyK_take (i := 3) (v := .pointer (some ⟨g, j * 2, none⟩)) rfl (by decide) (by kernel_rfl) (by kernel_rfl) (by kernel_rfl) (fun _ _ _ h => h) (Or.inl ⟨by rfl, fun w _ => by go_simp⟩) hBd ?_
    refine wpAnyK_take (i := 4) (v := .pointer (some ⟨g, j * 2, none⟩)) rfl (by decide) (by kernel_rfl) (by kernel_rfl) (by kernel_rfl) (fun _ _ _ h => h) (Or.inl ⟨by rfl, fun w _ => by go_simp⟩) hBd ?_
    refine wpAnyK_take (i := 5) (v := .pointer (some ⟨g, j * 2, none⟩)) rfl (by decide) (by kernel_rfl) (by kernel_rfl) (by kernel_rfl) (fun _ _ _ h => h) (Or.inl ⟨by rfl, fun w _ => by go_simp⟩) hBd ?_
    refine wpAnyK_load (i := 6) (v := .string (k j)) rfl (by decide) (by kernel_rfl) (by kernel_rfl) (by kernel_rfl) (by kernel_rfl) (by kernel_rfl) (fun _ _ _ h => h) (Or.inl ⟨by rfl, fun w hw => by have hc : w.cell? ⟨g, j * 2, none⟩ = some (.string (k j)) := (hw.cell _).trans ck; go_simp⟩) hBd ?_
    refine wpAnyK_take (i := 7) (v := .pointer (some ⟨g, j * 2, none⟩)) rfl (by decide) (by kernel_rfl) (by kernel_rfl) (by kernel_rfl) (fun _ _ _ h => h) (Or.inl ⟨by rfl, fun w _ => by go_simp⟩) hBd ?_
    refine wpAnyK_take (i := 8) (v := .pointer (some ⟨g, j * 2, none⟩)) rfl (by decide) (by kernel_rfl) (by kernel_rfl) (by kernel_rfl) (fun _ _ _ h => h) (Or.inl ⟨by rfl, fun w _ => by go_simp⟩) hBd ?_
    refine wpAnyK_take (i := 9) (v := .pointer (some ⟨g, j * 2, none⟩)) rfl (by decide) (by kernel_rfl) (by kernel_rfl) (by kernel_rfl) (fun _ _ _ h => h) (Or.inl ⟨by rfl, fun w _ => by go_simp⟩) hBd ?_
    refine wpAnyK_load (i := 10) (v := .string (k j)) rfl (by decide) (by kernel_rfl) (by kernel_rfl) (by kernel_rfl) (by kernel_rfl) (by kernel_rfl) (fun _ _ _ h => h) (Or.inl ⟨by rfl, fun w hw => by have hc : w.cell? ⟨g, j * 2, none⟩ = some (.string (k j)) := (hw.cell _).trans ck; go_simp⟩) hBd ?_
    refine wpAnyK_take (i := 13) (v := .pointer (some ⟨s, 0, none⟩)) rfl (by decide) (by kernel_rfl) (by kernel_rfl) (by kernel_rfl) (fun _ _ _ h => h) (Or.inl ⟨by rfl, fun w _ => by go_simp⟩) hBd ?_
    refine wpAnyK_take (i := 14) (v := .pointer (some ⟨g, j * 2, none⟩)) rfl (by decide) (by kernel_rfl) (by kernel_rfl) (by kernel_rfl) (fun _ _ _ h => h) (Or.inl ⟨by rfl, fun w _ => by go_simp⟩) hBd ?_
    refine wpAnyK_take (i := 15) (v := .pointer (some ⟨g, j * 2, none⟩)) rfl (by decide) (by kernel_rfl) (by kernel_rfl) (by kernel_rfl) (fun _ _ _ h => h) (Or.inl ⟨by rfl, fun w _ => by go_simp⟩) hBd ?_
    refine wpAnyK_take (i := 16) (v := .pointer (some ⟨g, j * 2 + 1, none⟩)) rfl (by decide) (by kernel_rfl) (by kernel_rfl) (by kernel_rfl) (fun _ _ _ h => h) (Or.inl ⟨by rfl, fun w _ => by go_simp⟩) hBd ?_
    refine wpAnyK_load (i := 17) (v := .string (u j)) rfl (by decide) (by kernel_rfl) (by kernel_rfl) (by kernel_rfl) (by kernel_rfl) (by kernel_rfl) (fun _ _ _ h => h) (Or.inl ⟨by rfl, fun w hw => by have hc : w.cell? ⟨g, j * 2 + 1, none⟩ = some (.string (u j)) := (hw.cell _).trans cu; go_simp⟩) hBd ?_
    refine wpAnyK_take (i := 18) (v := .pointer (some ⟨g, j * 2, none⟩)) rfl (by decide) (by kernel_rfl) (by kernel_rfl) (by kernel_rfl) (fun _ _ _ h => h) (Or.inl ⟨by rfl, fun w _ => by go_simp⟩) hBd ?_
    refine wpAnyK_take (i := 19) (v := .pointer (some ⟨g, j * 2, none⟩)) rfl (by decide) (by kernel_rfl) (by kernel_rfl) (by kernel_rfl) (fun _ _ _ h => h) (Or.inl ⟨by rfl, fun w _ => by go_simp⟩) hBd ?_
    refine wpAnyK_take (i := 20) (v := .pointer (some ⟨g, j * 2, none⟩)) rfl (by decide) (by kernel_rfl) (by kernel_rfl) (by kernel_rfl) (fun _ _ _ h => h) (Or.inl ⟨by rfl, fun w _ => by go_simp⟩) hBd ?_
    refine wpAnyK_load (i := 21) (v := .string (k j)) rfl (by decide) (by kernel_rfl) (by kernel_rfl) (by kernel_rfl) (by kernel_rfl) (by kernel_rfl) (fun _ _ _ h => h) (Or.inl ⟨by rfl, fun w hw => by have hc : w.cell? ⟨g, j * 2, none⟩ = some (.string (k j)) := (hw.cell _).trans ck; go_simp⟩) hBd ?_
    have hsg : s < g := by omega
    have hBw5 := hBd
    have hSBw5 := hSBd
    have hGw5 := hGd
    clear hBd hSBd hGd
    refine k_two (i := 11) (j := 22) (by kernel_rfl) rfl rfl (fun K' hK => ?_) (fun K' hK => ?_)
    · skip
      refine st_val rfl (v := .slice (some ⟨w5.heap.size, 0, none⟩) 5 5) (w' := w5.alloc (.cells #[.string (k j), .string (k j), .string ⟨#[]⟩, .string ⟨#[65]⟩, .string ⟨#[122, 101, 100]⟩] 9)) (by go_simp) ?_
      refine hK _ _ (fun _ => hBw5.alloc _) ?_
      have hBwb0 := hBw5.alloc (.cells #[.string (k j), .string (k j), .string ⟨#[]⟩, .string ⟨#[65]⟩, .string ⟨#[122, 101, 100]⟩] 9)
      have hSBwb0 := hSBw5.alloc (.cells #[.string (k j), .string (k j), .string ⟨#[]⟩, .string ⟨#[65]⟩, .string ⟨#[122, 101, 100]⟩] 9)
      have hGwb0 := hGw5.alloc (.cells #[.string (k j), .string (k j), .string ⟨#[]⟩, .string ⟨#[65]⟩, .string ⟨#[122, 101, 100]⟩] 9)
      have hR1 : Rd (w5.alloc (.cells #[.string (k j), .string (k j), .string ⟨#[]⟩, .string ⟨#[65]⟩, .string ⟨#[122, 101, 100]⟩] 9)) 1 (.slice (some ⟨w5.heap.size, 0, none⟩) 5 5) 5 (([k j, k j, ⟨#[]⟩, ⟨#[65]⟩, ⟨#[122, 101, 100]⟩] : List ByteArray).map Value.string) := Rd.newAt #[.string (k j), .string (k j), .string ⟨#[]⟩, .string ⟨#[65]⟩, .string ⟨#[122, 101, 100]⟩] rfl rfl (by decide)
      have hN1 : (Value.slice (some ⟨w5.heap.size, 0, none⟩) 5 5).ownBlock ≠ some s := hSBw5.newAt _ _ _ (Nat.le_refl _)
      clear hK K' hBw5 hSBw5 hGw5
      generalize w5.alloc (.cells #[.string (k j), .string (k j), .string ⟨#[]⟩, .string ⟨#[65]⟩, .string ⟨#[122, 101, 100]⟩] 9) = wb0 at hBwb0 hSBwb0 hGwb0 hR1 ⊢
      generalize w5.heap.size = b1 at hR1 hN1 ⊢
      refine k_two (i := 12) (j := 22) (by kernel_rfl) rfl rfl (fun K' hK => ?_) (fun K' hK => ?_)
      · skip
        refine st_call rfl (f := 31) (args := #[.pointer (some ⟨s, 0, none⟩), .slice (some ⟨b1, 0, none⟩) 5 5]) (w1 := wb0) (by go_simp) ?_
        refine (some_c _ _ _ [k j, k j, ⟨#[]⟩, ⟨#[65]⟩, ⟨#[122, 101, 100]⟩] wb0 s (K + 8 + 1 + 1) hSBwb0 (by omega) (by decide) (by decide) hR1 hN1).mono ?_; rintro e wb1 ⟨r1, rfl, hr1, hSBwb1, hGx⟩
        have hBwb1 := hBwb0.grown hGx (by simp; omega)
        have hGwb1 := hGwb0.trans hGx
        refine ⟨_, rfl, hK _ _ (fun _ => hBwb1) ?_⟩
        clear hK K' hGx hBwb0 hSBwb0 hGwb0 hR1 hN1
        refine k_one (i := 22) (by kernel_rfl) rfl fun K' hK => ?_
        refine st_val rfl (v := .slice (some ⟨wb1.heap.size, 0, none⟩) 5 5) (w' := wb1.alloc (.cells #[.string (u j), .string ⟨#[109, 105, 110, 105]⟩, .string ⟨#[110, 111, 110, 101]⟩, .string ⟨#[65]⟩, .string (k j)] 9)) (by go_simp) ?_
        refine hK _ _ (fun _ => hBwb1.alloc _) ?_
        have hBwb2 := hBwb1.alloc (.cells #[.string (u j), .string ⟨#[109, 105, 110, 105]⟩, .string ⟨#[110, 111, 110, 101]⟩, .string ⟨#[65]⟩, .string (k j)] 9)
        have hSBwb2 := hSBwb1.alloc (.cells #[.string (u j), .string ⟨#[109, 105, 110, 105]⟩, .string ⟨#[110, 111, 110, 101]⟩, .string ⟨#[65]⟩, .string (k j)] 9)
        have hGwb2 := hGwb1.alloc (.cells #[.string (u j), .string ⟨#[109, 105, 110, 105]⟩, .string ⟨#[110, 111, 110, 101]⟩, .string ⟨#[65]⟩, .string (k j)] 9)
        have hR2 : Rd (wb1.alloc (.cells #[.string (u j), .string ⟨#[109, 105, 110, 105]⟩, .string ⟨#[110, 111, 110, 101]⟩, .string ⟨#[65]⟩, .string (k j)] 9)) 1 (.slice (some ⟨wb1.heap.size, 0, none⟩) 5 5) 5 (([u j, ⟨#[109, 105, 110, 105]⟩, ⟨#[110, 111, 110, 101]⟩, ⟨#[65]⟩, k j] : List ByteArray).map Value.string) := Rd.newAt #[.string (u j), .string ⟨#[109, 105, 110, 105]⟩, .string ⟨#[110, 111, 110, 101]⟩, .string ⟨#[65]⟩, .string (k j)] rfl rfl (by decide)
        have hN2 : (Value.slice (some ⟨wb1.heap.size, 0, none⟩) 5 5).ownBlock ≠ some s := hSBwb1.newAt _ _ _ (Nat.le_refl _)
        clear hK K' hBwb1 hSBwb1 hGwb1
        generalize wb1.alloc (.cells #[.string (u j), .string ⟨#[109, 105, 110, 105]⟩, .string ⟨#[110, 111, 110, 101]⟩, .string ⟨#[65]⟩, .string (k j)] 9) = wb2 at hBwb2 hSBwb2 hGwb2 hR2 ⊢
        generalize wb1.heap.size = b2 at hR2 hN2 ⊢
        refine k_one (i := 23) (by kernel_rfl) rfl fun K' hK => ?_
        refine st_call rfl (f := 31) (args := #[.pointer (some ⟨s, 0, none⟩), .slice (some ⟨b2, 0, none⟩) 5 5]) (w1 := wb2) (by go_simp) ?_
        refine (some_c _ _ _ [u j, ⟨#[109, 105, 110, 105]⟩, ⟨#[110, 111, 110, 101]⟩, ⟨#[65]⟩, k j] wb2 s (K + 8 + 1 + 1 + 1) hSBwb2 (by omega) (by decide) (by decide) hR2 hN2).mono ?_; rintro e wb3 ⟨r2, rfl, hr2, hSBwb3, hGx⟩
        have hBwb3 := hBwb2.grown hGx (by simp; omega)
        have hGwb3 := hGwb2.trans hGx
        refine ⟨_, rfl, hK _ _ (fun _ => hBwb3) ?_⟩
        clear hK K' hGx hBwb2 hSBwb2 hGwb2 hR2 hN2
        refine wpAnyK_take (i := 24) (v := .pointer (some ⟨g, j * 2, none⟩)) rfl (by decide) (by kernel_rfl) (by kernel_rfl) (by kernel_rfl) (fun _ _ _ h => h) (Or.inl ⟨by rfl, fun w _ => by go_simp⟩) hBwb3 ?_
        refine wpAnyK_take (i := 25) (v := .pointer (some ⟨g, j * 2, none⟩)) rfl (by decide) (by kernel_rfl) (by kernel_rfl) (by kernel_rfl) (fun _ _ _ h => h) (Or.inl ⟨by rfl, fun w _ => by go_simp⟩) hBwb3 ?_
        have hc1 : wb3.cell? ⟨g, j * 2, none⟩ = some (.string (k j)) := (hBwb3.cell _).trans ck
        have hf1 := hBwb3.free (j * 2)
        refine k_one (i := 26) (by kernel_rfl) rfl fun K' hK => ?_
        rw [if_pos (by rfl)]
        go_simp
        refine hK _ _ (fun h => absurd rfl h) ?_
        clear hK K' hc1 hf1
        have hBs1 : Bk (wb3.setCell ⟨g, j * 2, none⟩ (.string r1)) g 82 (cellsC (updS k j r1) u) := by rw [← cellsC_setKey _ _ _ j4]; exact hBwb3.set _ _
        have hSBs1 := hSBwb3.setCell (p := ⟨g, j * 2, none⟩) hsg (.string r1)
        have hGs1 := hGwb3.setCell (p := ⟨g, j * 2, none⟩) (.inl hgw) (.string r1)
        generalize wb3.setCell ⟨g, j * 2, none⟩ (.string r1) = ws1 at *
        refine wpAnyK_of_any _ _ _ _ (by kernel_rfl) ?_
        refine wpAny_take (i := 27) (v := .pointer (some ⟨g, j * 2, none⟩)) rfl (by kernel_rfl) (by kernel_rfl) (by kernel_rfl) (fun _ _ _ h => h) (Or.inl ⟨by rfl, ?_⟩) ?_
        · intro w; go_simp
        refine wpAny_take (i := 28) (v := .pointer (some ⟨g, j * 2 + 1, none⟩)) rfl (by kernel_rfl) (by kernel_rfl) (by kernel_rfl) (fun _ _ _ h => h) (Or.inl ⟨by rfl, ?_⟩) ?_
        · intro w; go_simp
        have hc2 : ws1.cell? ⟨g, j * 2 + 1, none⟩ = some (.string (u j)) := (hBs1.cell _).trans (cellsC_up _ _ _ j4)
        have hf2 := hBs1.free (j * 2 + 1)
        refine ready_one (i := 29) (by kernel_rfl) rfl fun K' hK => ?_
        rw [if_pos (by rfl)]
        go_simp
        refine hK _ _ ?_
        clear hK K'
        have hBs2 : Bk (ws1.setCell ⟨g, j * 2 + 1, none⟩ (.string r2)) g 82 (cellsC (updS k j r1) (updS u j r2)) := by rw [← cellsC_setUp _ _ _ j4]; exact hBs1.set _ _
        have hSBs2 := hSBs1.setCell (p := ⟨g, j * 2 + 1, none⟩) hsg (.string r2)
        have hGs2 := hGs1.setCell (p := ⟨g, j * 2 + 1, none⟩) (.inl hgw) (.string r2)
        refine wpAny_done (by kernel_rfl) ?_ _
        go_wp2_with fail
        go_ret
        exact ⟨g, _, _, rfl, hgw, hBs2, hkk.upd _ (mem5 hr1 (hkk j) (hkk j) Small.eS smA smZed), huu.upd _ (mem5 hr2 (huu j) smMini smNone smA (hkk j)), hSBs2.le (by omega), hGs2⟩
      · skip
        refine st_val rfl (v := .slice (some ⟨wb0.heap.size, 0, none⟩) 5 5) (w' := wb0.alloc (.cells #[.string (u j), .string ⟨#[109, 105, 110, 105]⟩, .string ⟨#[110, 111, 110, 101]⟩, .string ⟨#[65]⟩, .string (k j)] 9)) (by go_simp) ?_
        refine hK _ _ (fun _ => hBwb0.alloc _) ?_
        have hBwb4 := hBwb0.alloc (.cells #[.string (u j), .string ⟨#[109, 105, 110, 105]⟩, .string ⟨#[110, 111, 110, 101]⟩, .string ⟨#[65]⟩, .string (k j)] 9)
        have hSBwb4 := hSBwb0.alloc (.cells #[.string (u j), .string ⟨#[109, 105, 110, 105]⟩, .string ⟨#[110, 111, 110, 101]⟩, .string ⟨#[65]⟩, .string (k j)] 9)
        have hGwb4 := hGwb0.alloc (.cells #[.string (u j), .string ⟨#[109, 105, 110, 105]⟩, .string ⟨#[110, 111, 110, 101]⟩, .string ⟨#[65]⟩, .string (k j)] 9)
        have hR2 : Rd (wb0.alloc (.cells #[.string (u j), .string ⟨#[109, 105, 110, 105]⟩, .string ⟨#[110, 111, 110, 101]⟩, .string ⟨#[65]⟩, .string (k j)] 9)) 1 (.slice (some ⟨wb0.heap.size, 0, none⟩) 5 5) 5 (([u j, ⟨#[109, 105, 110, 105]⟩, ⟨#[110, 111, 110, 101]⟩, ⟨#[65]⟩, k j] : List ByteArray).map Value.string) := Rd.newAt #[.string (u j), .string ⟨#[109, 105, 110, 105]⟩, .string ⟨#[110, 111, 110, 101]⟩, .string ⟨#[65]⟩, .string (k j)] rfl rfl (by decide)
        have hN2 : (Value.slice (some ⟨wb0.heap.size, 0, none⟩) 5 5).ownBlock ≠ some s := hSBwb0.newAt _ _ _ (Nat.le_refl _)
        have hR1x := hR1.quiet ((G.refl wb0 none).alloc (.cells #[.string (u j), .string ⟨#[109, 105, 110, 105]⟩, .string ⟨#[110, 111, 110, 101]⟩, .string ⟨#[65]⟩, .string (k j)] 9))
        clear hK K' hBwb0 hSBwb0 hGwb0 hR1
        generalize wb0.alloc (.cells #[.string (u j), .string ⟨#[109, 105, 110, 105]⟩, .string ⟨#[110, 111, 110, 101]⟩, .string ⟨#[65]⟩, .string (k j)] 9) = wb4 at hBwb4 hSBwb4 hGwb4 hR2 hR1x ⊢
        generalize wb0.heap.size = b2 at hR2 hN2 ⊢
        have hR1 := hR1x
        clear hR1x
        refine k_one (i := 12) (by kernel_rfl) rfl fun K' hK => ?_
        refine st_call rfl (f := 31) (args := #[.pointer (some ⟨s, 0, none⟩), .slice (some ⟨b1, 0, none⟩) 5 5]) (w1 := wb4) (by go_simp) ?_
        refine (some_c _ _ _ [k j, k j, ⟨#[]⟩, ⟨#[65]⟩, ⟨#[122, 101, 100]⟩] wb4 s (K + 8 + 1 + 1) hSBwb4 (by omega) (by decide) (by decide) hR1 hN1).mono ?_; rintro e wb5 ⟨r1, rfl, hr1, hSBwb5, hGx⟩
        have hBwb5 := hBwb4.grown hGx (by simp; omega)
        have hGwb5 := hGwb4.trans hGx
        have hR2 := hR2.grown hGx (fun q e => by cases e; exact hN2)
        refine ⟨_, rfl, hK _ _ (fun _ => hBwb5) ?_⟩
        clear hK K' hGx hBwb4 hSBwb4 hGwb4 hR1 hN1
        refine k_one (i := 23) (by kernel_rfl) rfl fun K' hK => ?_
        refine st_call rfl (f := 31) (args := #[.pointer (some ⟨s, 0, none⟩), .slice (some ⟨b2, 0, none⟩) 5 5]) (w1 := wb5) (by go_simp) ?_
        refine (some_c _ _ _ [u j, ⟨#[109, 105, 110, 105]⟩, ⟨#[110, 111, 110, 101]⟩, ⟨#[65]⟩, k j] wb5 s (K + 8 + 1 + 1 + 1) hSBwb5 (by omega) (by decide) (by decide) hR2 hN2).mono ?_; rintro e wb6 ⟨r2, rfl, hr2, hSBwb6, hGx⟩
        have hBwb6 := hBwb5.grown hGx (by simp; omega)
        have hGwb6 := hGwb5.trans hGx
        refine ⟨_, rfl, hK _ _ (fun _ => hBwb6) ?_⟩
        clear hK K' hGx hBwb5 hSBwb5 hGwb5 hR2 hN2
        refine wpAnyK_take (i := 24) (v := .pointer (some ⟨g, j * 2, none⟩)) rfl (by decide) (by kernel_rfl) (by kernel_rfl) (by kernel_rfl) (fun _ _ _ h => h) (Or.inl ⟨by rfl, fun w _ => by go_simp⟩) hBwb6 ?_
        refine wpAnyK_take (i := 25) (v := .pointer (some ⟨g, j * 2, none⟩)) rfl (by decide) (by kernel_rfl) (by kernel_rfl) (by kernel_rfl) (fun _ _ _ h => h) (Or.inl ⟨by rfl, fun w _ => by go_simp⟩) hBwb6 ?_
        have hc1 : wb6.cell? ⟨g, j * 2, none⟩ = some (.string (k j)) := (hBwb6.cell _).trans ck
        have hf1 := hBwb6.free (j * 2)
        refine k_one (i := 26) (by kernel_rfl) rfl fun K' hK => ?_
        rw [if_pos (by rfl)]
        go_simp
        refine hK _ _ (fun h => absurd rfl h) ?_
        clear hK K' hc1 hf1
        have hBs1 : Bk (wb6.setCell ⟨g, j * 2, none⟩ (.string r1)) g 82 (cellsC (updS k j r1) u) := by rw [← cellsC_setKey _ _ _ j4]; exact hBwb6.set _ _
        have hSBs1 := hSBwb6.setCell (p := ⟨g, j * 2, none⟩) hsg (.string r1)
        have hGs1 := hGwb6.setCell (p := ⟨g, j * 2, none⟩) (.inl hgw) (.string r1)
        generalize wb6.setCell ⟨g, j * 2, none⟩ (.string r1) = ws1 at *
        refine wpAnyK_of_any _ _ _ _ (by kernel_rfl) ?_
        refine wpAny_take (i := 27) (v := .pointer (some ⟨g, j * 2, none⟩)) rfl (by kernel_rfl) (by kernel_rfl) (by kernel_rfl) (fun _ _ _ h => h) (Or.inl ⟨by rfl, ?_⟩) ?_
        · intro w; go_simp
        refine wpAny_take (i := 28) (v := .pointer (some ⟨g, j * 2 + 1, none⟩)) rfl (by kernel_rfl) (by kernel_rfl) (by kernel_rfl) (fun _ _ _ h => h) (Or.inl ⟨by rfl, ?_⟩) ?_
        · intro w; go_simp
        have hc2 : ws1.cell? ⟨g, j * 2 + 1, none⟩ = some (.string (u j)) := (hBs1.cell _).trans (cellsC_up _ _ _ j4)
        have hf2 := hBs1.free (j * 2 + 1)
        refine ready_one (i := 29) (by kernel_rfl) rfl fun K' hK => ?_
        rw [if_pos (by rfl)]
        go_simp
        refine hK _ _ ?_
        clear hK K'
        have hBs2 : Bk (ws1.setCell ⟨g, j * 2 + 1, none⟩ (.string r2)) g 82 (cellsC (updS k j r1) (updS u j r2)) := by rw [← cellsC_setUp _ _ _ j4]; exact hBs1.set _ _
        have hSBs2 := hSBs1.setCell (p := ⟨g, j * 2 + 1, none⟩) hsg (.string r2)
        have hGs2 := hGs1.setCell (p := ⟨g, j * 2 + 1, none⟩) (.inl hgw) (.string r2)
        refine wpAny_done (by kernel_rfl) ?_ _
        go_wp2_with fail
        go_ret
        exact ⟨g, _, _, rfl, hgw, hBs2, hkk.upd _ (mem5 hr1 (hkk j) (hkk j) Small.eS smA smZed), huu.upd _ (mem5 hr2 (huu j) smMini smNone smA (hkk j)), hSBs2.le (by omega), hGs2⟩
    · skip
      refine st_val rfl (v := .slice (some ⟨w5.heap.size, 0, none⟩) 5 5) (w' := w5.alloc (.cells #[.string (u j), .string ⟨#[109, 105, 110, 105]⟩, .string ⟨#[110, 111, 110, 101]⟩, .string ⟨#[65]⟩, .string (k j)] 9)) (by go_simp) ?_
      refine hK _ _ (fun _ => hBw5.alloc _) ?_
      have hBwb7 := hBw5.alloc (.cells #[.string (u j), .string ⟨#[109, 105, 110, 105]⟩, .string ⟨#[110, 111, 110, 101]⟩, .string ⟨#[65]⟩, .string (k j)] 9)
      have hSBwb7 := hSBw5.alloc (.cells #[.string (u j), .string ⟨#[109, 105, 110, 105]⟩, .string ⟨#[110, 111, 110, 101]⟩, .string ⟨#[65]⟩, .string (k j)] 9)
      have hGwb7 := hGw5.alloc (.cells #[.string (u j), .string ⟨#[109, 105, 110, 105]⟩, .string ⟨#[110, 111, 110, 101]⟩, .string ⟨#[65]⟩, .string (k j)] 9)
      have hR2 : Rd (w5.alloc (.cells #[.string (u j), .string ⟨#[109, 105, 110, 105]⟩, .string ⟨#[110, 111, 110, 101]⟩, .string ⟨#[65]⟩, .string (k j)] 9)) 1 (.slice (some ⟨w5.heap.size, 0, none⟩) 5 5) 5 (([u j, ⟨#[109, 105, 110, 105]⟩, ⟨#[110, 111, 110, 101]⟩, ⟨#[65]⟩, k j] : List ByteArray).map Value.string) := Rd.newAt #[.string (u j), .string ⟨#[109, 105, 110, 105]⟩, .string ⟨#[110, 111, 110, 101]⟩, .string ⟨#[65]⟩, .string (k j)] rfl rfl (by decide)
      have hN2 : (Value.slice (some ⟨w5.heap.size, 0, none⟩) 5 5).ownBlock ≠ some s := hSBw5.newAt _ _ _ (Nat.le_refl _)
      clear hK K' hBw5 hSBw5 hGw5
      generalize w5.alloc (.cells #[.string (u j), .string ⟨#[109, 105, 110, 105]⟩, .string ⟨#[110, 111, 110, 101]⟩, .string ⟨#[65]⟩, .string (k j)] 9) = wb7 at hBwb7 hSBwb7 hGwb7 hR2 ⊢
      generalize w5.heap.size = b2 at hR2 hN2 ⊢
      refine k_one (i := 11) (by kernel_rfl) rfl fun K' hK => ?_
      refine st_val rfl (v := .slice (some ⟨wb7.heap.size, 0, none⟩) 5 5) (w' := wb7.alloc (.cells #[.string (k j), .string (k j), .string ⟨#[]⟩, .string ⟨#[65]⟩, .string ⟨#[122, 101, 100]⟩] 9)) (by go_simp) ?_
      refine hK _ _ (fun _ => hBwb7.alloc _) ?_
      have hBwb8 := hBwb7.alloc (.cells #[.string (k j), .string (k j), .string ⟨#[]⟩, .string ⟨#[65]⟩, .string ⟨#[122, 101, 100]⟩] 9)
      have hSBwb8 := hSBwb7.alloc (.cells #[.string (k j), .string (k j), .string ⟨#[]⟩, .string ⟨#[65]⟩, .string ⟨#[122, 101, 100]⟩] 9)
      have hGwb8 := hGwb7.alloc (.cells #[.string (k j), .string (k j), .string ⟨#[]⟩, .string ⟨#[65]⟩, .string ⟨#[122, 101, 100]⟩] 9)
      have hR1 : Rd (wb7.alloc (.cells #[.string (k j), .string (k j), .string ⟨#[]⟩, .string ⟨#[65]⟩, .string ⟨#[122, 101, 100]⟩] 9)) 1 (.slice (some ⟨wb7.heap.size, 0, none⟩) 5 5) 5 (([k j, k j, ⟨#[]⟩, ⟨#[65]⟩, ⟨#[122, 101, 100]⟩] : List ByteArray).map Value.string) := Rd.newAt #[.string (k j), .string (k j), .string ⟨#[]⟩, .string ⟨#[65]⟩, .string ⟨#[122, 101, 100]⟩] rfl rfl (by decide)
      have hN1 : (Value.slice (some ⟨wb7.heap.size, 0, none⟩) 5 5).ownBlock ≠ some s := hSBwb7.newAt _ _ _ (Nat.le_refl _)
      have hR2x := hR2.quiet ((G.refl wb7 none).alloc (.cells #[.string (k j), .string (k j), .string ⟨#[]⟩, .string ⟨#[65]⟩, .string ⟨#[122, 101, 100]⟩] 9))
      clear hK K' hBwb7 hSBwb7 hGwb7 hR2
      generalize wb7.alloc (.cells #[.string (k j), .string (k j), .string ⟨#[]⟩, .string ⟨#[65]⟩, .string ⟨#[122, 101, 100]⟩] 9) = wb8 at hBwb8 hSBwb8 hGwb8 hR1 hR2x ⊢
      generalize wb7.heap.size = b1 at hR1 hN1 ⊢
      have hR2 := hR2x
      clear hR2x
      refine k_one (i := 12) (by kernel_rfl) rfl fun K' hK => ?_
      refine st_call rfl (f := 31) (args := #[.pointer (some ⟨s, 0, none⟩), .slice (some ⟨b1, 0, none⟩) 5 5]) (w1 := wb8) (by go_simp) ?_
      refine (some_c _ _ _ [k j, k j, ⟨#[]⟩, ⟨#[65]⟩, ⟨#[122, 101, 100]⟩] wb8 s (K + 8 + 1 + 1) hSBwb8 (by omega) (by decide) (by decide) hR1 hN1).mono ?_; rintro e wb9 ⟨r1, rfl, hr1, hSBwb9, hGx⟩
      have hBwb9 := hBwb8.grown hGx (by simp; omega)
      have hGwb9 := hGwb8.trans hGx
      have hR2 := hR2.grown hGx (fun q e => by cases e; exact hN2)
      refine ⟨_, rfl, hK _ _ (fun _ => hBwb9) ?_⟩
      clear hK K' hGx hBwb8 hSBwb8 hGwb8 hR1 hN1
      refine k_one (i := 23) (by kernel_rfl) rfl fun K' hK => ?_
      refine st_call rfl (f := 31) (args := #[.pointer (some ⟨s, 0, none⟩), .slice (some ⟨b2, 0, none⟩) 5 5]) (w1 := wb9) (by go_simp) ?_
      refine (some_c _ _ _ [u j, ⟨#[109, 105, 110, 105]⟩, ⟨#[110, 111, 110, 101]⟩, ⟨#[65]⟩, k j] wb9 s (K + 8 + 1 + 1 + 1) hSBwb9 (by omega) (by decide) (by decide) hR2 hN2).mono ?_; rintro e wb10 ⟨r2, rfl, hr2, hSBwb10, hGx⟩
      have hBwb10 := hBwb9.grown hGx (by simp; omega)
      have hGwb10 := hGwb9.trans hGx
      refine ⟨_, rfl, hK _ _ (fun _ => hBwb10) ?_⟩
      clear hK K' hGx hBwb9 hSBwb9 hGwb9 hR2 hN2
      refine wpAnyK_take (i := 24) (v := .pointer (some ⟨g, j * 2, none⟩)) rfl (by decide) (by kernel_rfl) (by kernel_rfl) (by kernel_rfl) (fun _ _ _ h => h) (Or.inl ⟨by rfl, fun w _ => by go_simp⟩) hBwb10 ?_
      refine wpAnyK_take (i := 25) (v := .pointer (some ⟨g, j * 2, none⟩)) rfl (by decide) (by kernel_rfl) (by kernel_rfl) (by kernel_rfl) (fun _ _ _ h => h) (Or.inl ⟨by rfl, fun w _ => by go_simp⟩) hBwb10 ?_
      have hc1 : wb10.cell? ⟨g, j * 2, none⟩ = some (.string (k j)) := (hBwb10.cell _).trans ck
      have hf1 := hBwb10.free (j * 2)
      refine k_one (i := 26) (by kernel_rfl) rfl fun K' hK => ?_
      rw [if_pos (by rfl)]
      go_simp
      refine hK _ _ (fun h => absurd rfl h) ?_
      clear hK K' hc1 hf1
      have hBs1 : Bk (wb10.setCell ⟨g, j * 2, none⟩ (.string r1)) g 82 (cellsC (updS k j r1) u) := by rw [← cellsC_setKey _ _ _ j4]; exact hBwb10.set _ _
      have hSBs1 := hSBwb10.setCell (p := ⟨g, j * 2, none⟩) hsg (.string r1)
      have hGs1 := hGwb10.setCell (p := ⟨g, j * 2, none⟩) (.inl hgw) (.string r1)
      generalize wb10.setCell ⟨g, j * 2, none⟩ (.string r1) = ws1 at *
      refine wpAnyK_of_any _ _ _ _ (by kernel_rfl) ?_
      refine wpAny_take (i := 27) (v := .pointer (some ⟨g, j * 2, none⟩)) rfl (by kernel_rfl) (by kernel_rfl) (by kernel_rfl) (fun _ _ _ h => h) (Or.inl ⟨by rfl, ?_⟩) ?_
      · intro w; go_simp
      refine wpAny_take (i := 28) (v := .pointer (some ⟨g, j * 2 + 1, none⟩)) rfl (by kernel_rfl) (by kernel_rfl) (by kernel_rfl) (fun _ _ _ h => h) (Or.inl ⟨by rfl, ?_⟩) ?_
      · intro w; go_simp
      have hc2 : ws1.cell? ⟨g, j * 2 + 1, none⟩ = some (.string (u j)) := (hBs1.cell _).trans (cellsC_up _ _ _ j4)
      have hf2 := hBs1.free (j * 2 + 1)
      refine ready_one (i := 29) (by kernel_rfl) rfl fun K' hK => ?_
      rw [if_pos (by rfl)]
      go_simp
      refine hK _ _ ?_
      clear hK K'
      have hBs2 : Bk (ws1.setCell ⟨g, j * 2 + 1, none⟩ (.string r2)) g 82 (cellsC (updS k j r1) (updS u j r2)) := by rw [← cellsC_setUp _ _ _ j4]; exact hBs1.set _ _
      have hSBs2 := hSBs1.setCell (p := ⟨g, j * 2 + 1, none⟩) hsg (.string r2)
      have hGs2 := hGs1.setCell (p := ⟨g, j * 2 + 1, none⟩) (.inl hgw) (.string r2)
      refine wpAny_done (by kernel_rfl) ?_ _
      go_wp2_with fail
      go_ret
      exact ⟨g, _, _, rfl, hgw, hBs2, hkk.upd _ (mem5 hr1 (hkk j) (hkk j) Small.eS smA smZed), huu.upd _ (mem5 hr2 (huu j) smMini smNone smA (hkk j)), hSBs2.le (by omega), hGs2⟩
end Go.Proofs.YtlnoafkepfgooaaDoor

/- slices.Index, Contains, Equal at lists of strings; the classes' own IndexFunc. -/
namespace Go.Proofs.YtlnoafkepfgooaaDoor
open Go.RowKit

/-- A list of strings. -/
abbrev RdS (w : World) (v : Value) (l : List ByteArray) : Prop := Rd w 1 v l.length (l.map Value.string)
theorem rdS_cell {w : World} {a : Addr} {l : List ByteArray} {n c : Nat} (h : Rd w 1 (.slice (some a) n c) n (l.map Value.string)) : ∃ b o, a = ⟨b, o, none⟩ ∧ b < w.heap.size ∧ ∀ (j : Nat) (s : ByteArray), l[j]? = some s → w.cell? ⟨b, o + j, none⟩ = some (.string s) := by
  obtain ⟨a', c', e', _, _, _, _, h5⟩ := h
  injection e' with e1 e2 e3
  subst e1
  obtain ⟨b, o, sp⟩ := a
  obtain ⟨q1, q2, q3⟩ := h5 _ rfl
  dsimp only at q1 q2 q3
  subst q1
  exact ⟨b, o, rfl, q2, fun j s hj => q3 j _ (by rw [List.getElem?_map, hj]; rfl)⟩
/-- The first place of a string, from 'k' on counted; -1: none. -/
def idxF (t : ByteArray) : List ByteArray → Int → Int
  | [], _ => -1
  | s :: r, k => if eqB t s = true then k else idxF t r (k + 1)
def IxRel (l : List ByteArray) (t : ByteArray) (i : Value) : Prop := ∃ k : Nat, k ≤ l.length ∧ i = .int .i64 k ∧ idxF t l 0 = idxF t (l.drop k) k
set_option maxRecDepth 100000 in
set_option maxHeartbeats 1000000 in
theorem sIndex_c (v : Value) (l : List ByteArray) (t : ByteArray) (w : World) (hr : RdS w v l) (hn : l.length ≤ 1000000) :
    Calls Tryd.prog 50 #[v, .string t] w fun e w' => e = .returned (.int .i64 (idxF t l 0)) ∧ w = w' := by
  have hr0 := hr
  obtain ⟨a, cap, rfl, hcap, hm, hlen, hnil, _⟩ := hr
  go_enter Tryd.func50, Tryd.ntmps50
  go_wp2_with fail
  go_loop [8] (IxRel l t) (fun i => l.length - (intOf i).toNat)
  case atStart => exact ⟨0, by omega, rfl, rfl⟩
  case round =>
    obtain ⟨k, hk, rfl, heq⟩ := hrel
    have HE := Lib.hid heq
    clear heq
    by_cases hlt : k < l.length
    · obtain ⟨s, hs⟩ : ∃ s, l[k]? = some s := ⟨_, List.getElem?_eq_getElem hlt⟩
      have HD : Hid (idxF t l 0 = if eqB t s = true then (k : Int) else idxF t (l.drop (k + 1)) ((k : Int) + 1)) := Lib.hid (by
        rw [HE.out, List.drop_eq_getElem_cons hlt, (List.getElem?_eq_some_iff.1 hs).2]; rfl)
      cases a with
      | none => have := (hnil rfl).1; omega
      | some ad =>
        obtain ⟨bb, bo, rfl, hbb, hcell⟩ := rdS_cell hr0
        have hc := hcell k s hs
        clear hcell hnil hs hr0
        cases he : eqB t s with
        | true =>
          have HF : Hid (idxF t l 0 = k) := Lib.hid (by rw [HD.out, if_pos he])
          unfold eqB at he
          go_wp2_with fail
          go_ret
          exact ⟨ret_int HF.out.symm, rfl⟩
        | false =>
          have HF : Hid (idxF t l 0 = idxF t (l.drop (k + 1)) ((k + 1 : Nat) : Int)) := Lib.hid (by rw [HD.out, if_neg (by simp [he])]; rfl)
          unfold eqB at he
          go_wp2_with fail
          go_round
          case rel => exact ⟨k + 1, by omega, by go_num, HF.out⟩
          case measure => simp [intOf]; omega
    · obtain rfl : k = l.length := by omega
      have HF : Hid (idxF t l 0 = -1) := Lib.hid (by rw [HE.out, List.drop_length]; rfl)
      go_wp2_with fail
      go_ret
      exact ⟨ret_int HF.out.symm, rfl⟩
theorem eqB_comm (a b : ByteArray) : eqB a b = eqB b a := by
  rw [Bool.eq_iff_iff, eqB_iff, eqB_iff]
  exact ⟨fun h => h.symm, fun h => h.symm⟩
theorem idxF_range (t : ByteArray) (l : List ByteArray) : ∀ k : Nat, idxF t l k = -1 ∨ ((k : Int) ≤ idxF t l k ∧ idxF t l k < k + l.length) := by
  induction l with
  | nil => intro k; exact .inl rfl
  | cons s r ih =>
    intro k
    unfold idxF
    split
    · right; simp; omega
    · rcases ih (k + 1) with h | h
      · left; exact h
      · right
        have e : idxF t r ((k : Int) + 1) = idxF t r ((k + 1 : Nat) : Int) := rfl
        rw [e]
        simp only [List.length_cons]
        omega
theorem idxF_has (t : ByteArray) (l : List ByteArray) : ∀ k : Nat, (0 ≤ idxF t l k) ↔ hasK l t = true := by
  induction l with
  | nil => intro k; simp [idxF, hasK]
  | cons s r ih =>
    intro k
    unfold idxF hasK
    rw [List.any_cons, eqB_comm t s]
    cases he : eqB s t with
    | true => simp
    | false =>
      have := ih (k + 1)
      unfold hasK at this
      simpa using this
theorem sContains_c (v : Value) (l : List ByteArray) (t : ByteArray) (w : World) (hr : RdS w v l) (hn : l.length ≤ 1000000) :
    Calls Tryd.prog 51 #[v, .string t] w fun e w' => e = .returned (.bool (hasK l t)) ∧ w = w' := by
  have hh := idxF_has t l 0
  have hg := idxF_range t l 0
  have HX := Lib.hid (sIndex_c v l t w hr hn)
  have h0 : idxF t l 0 = idxF t l ((0 : Nat) : Int) := rfl
  rw [← h0] at hh hg
  clear hr h0
  generalize idxF t l 0 = x at hh HX hg
  cases hb : hasK l t with
  | true =>
    have hx := hh.2 hb
    clear hh hb
    go_enter Tryd.func51, Tryd.ntmps51
    go_wp2_with fail
    refine HX.out.mono ?_; rintro e w' ⟨rfl, rfl⟩
    go_wp2_with fail
    go_ret
    exact ⟨rfl, rfl⟩
  | false =>
    have hx : x < 0 := by
      rcases Int.lt_or_le x 0 with h | h
      · exact h
      · rw [hh.1 h] at hb; cases hb
    clear hh hb
    go_enter Tryd.func51, Tryd.ntmps51
    go_wp2_with fail
    refine HX.out.mono ?_; rintro e w' ⟨rfl, rfl⟩
    go_wp2_with fail
    go_ret
    exact ⟨ret_bool (decide_eq_false (by omega)), rfl⟩
def EqRel (n : Nat) (w : World) (i : Value) (wr : World) : Prop := ∃ k m : Nat, k ≤ n ∧ i = .int .i64 k ∧ wr = w.drewN m
set_option maxRecDepth 100000 in
set_option maxHeartbeats 1000000 in
/-- Of two lists that are equal. -/
theorem sEqual_c (v u : Value) (a : List ByteArray) (w : World) (hr : RdS w v a) (hs : RdS w u a) (hn : a.length ≤ 1000000) :
    Calls Tryd.prog 27 #[v, u] w fun e w' => e = .returned (.bool true) ∧ G w w' none := by
  have hr0 := hr
  have hs0 := hs
  obtain ⟨ad, cap, rfl, hcap, hm, hlen, hnil, hx⟩ := hr
  obtain ⟨ad2, cap2, rfl, hcap2, hm2, hlen2, hnil2, hx2⟩ := hs
  clear hx hx2 hlen hlen2
  have HR := Lib.hid hr0
  have HS := Lib.hid hs0
  have HN := Lib.hid hnil
  have HN2 := Lib.hid hnil2
  clear hr0 hs0 hnil hnil2
  go_enter Tryd.func27, Tryd.ntmps27
  go_wp2_with fail
  go_loopw [13] (EqRel a.length w) (fun i _ => a.length - (intOf i).toNat)
  case atStart => exact ⟨0, 0, by omega, rfl, rfl⟩
  case round =>
    obtain ⟨k, n, hk, rfl, rfl⟩ := hrel
    by_cases hlt : k < a.length
    · obtain ⟨s, hs⟩ : ∃ s, a[k]? = some s := ⟨_, List.getElem?_eq_getElem hlt⟩
      cases ad with
      | none => have := (HN.out rfl).1; omega
      | some ad =>
        cases ad2 with
        | none => have := (HN2.out rfl).1; omega
        | some ad2 =>
          obtain ⟨bb, bo, rfl, hbb, hcell⟩ := rdS_cell HR.out
          obtain ⟨b2, o2, rfl, hb2, hcell2⟩ := rdS_cell HS.out
          have hc := hcell k s hs
          have hc2 := hcell2 k s hs
          clear hcell hcell2 hs
          go_wp2_with fail
          go_quiet (fail)
          go_wp2_with fail
          go_roundw
          case rel => exact ⟨k + 1, _, by omega, by go_num, rfl⟩
          case measure => simp [intOf]; omega
    · obtain rfl : k = a.length := by omega
      go_wp2_with fail
      go_ret
      exact ⟨rfl, (G.refl _ _).drewN _⟩
end Go.Proofs.YtlnoafkepfgooaaDoor

/- lot.ladder, Above, Steps. -/
namespace Go.Proofs.YtlnoafkepfgooaaDoor
open Go.RowKit

/-- A row of strings that the call owns. -/
abbrev OwnSs (w : World) (base : Nat) (v : Value) (l : List ByteArray) : Prop := w.ownsRow base 9 1 v l.length (l.map Value.string)
theorem ss_row : (Tryd.prog.info? 9).map (fun i => (i.zero, i.size, i.bytes)) = some (some (.string ⟨#[]⟩), 1, 16) := by kernel_rfl
theorem OwnSs.rd {w : World} {base : Nat} {v : Value} {l : List ByteArray} (h : OwnSs w base v l) : RdS w v l := Rd.of_owns h
/-- A string more behind a row of the call's own. -/
theorem wpList_append_ss {w : World} {ops : Array Oper} {rest : List Oper} {o : Oper} {a : Act} {Q : Exit → Act → World → Prop} (hgd : o.guard = none) (s x : Operand)
    (ho : o.op = .call { callee := .builtin .append, args := #[s, x], argTypes := #[57, 57] }) (base : Nat) (v : Value) (l : List ByteArray) (hs : a.eval s = v) (hown : OwnSs w base v l)
    (g : Nat) (r : ByteArray) (hx : a.eval x = .slice (some ⟨g, 0, none⟩) 1 1) (hb : Bk w g 9 #[.string r]) (hl : l.length ≤ 1000) (hbase : base ≤ w.heap.size)
    (hK : ∀ v' w', OwnSs w' base v' (l ++ [r]) → w.grownBy w' v.ownBlock → wpList Tryd.prog ops Q rest (a.put o.dst v') w') : wpList Tryd.prog ops Q (o :: rest) a w := by
  obtain ⟨i0, hi, hz0, hz1, hz2⟩ := info_parts ss_row
  refine wpList_append_own w hgd s x 57 ho base 9 i0 _ 1 16 Tryd.underlying57 hi hz0 hz1 hz2 rfl (by decide) v l.length (l.map Value.string) hs hown ⟨g, 0, none⟩ 1 1 [.string r] hx rfl hb.at_ (by simp [Value.oneCell']) (by unfold maxLen; omega) (by omega) hbase ?_
  intro v' w' h1 h2 _
  refine hK v' w' ?_ h2
  unfold OwnSs
  rw [List.length_append, List.map_append]
  exact h1
theorem OwnSs.alloc {w : World} {base : Nat} {v : Value} {l : List ByteArray} (h : OwnSs w base v l) (o : Obj) : OwnSs (w.alloc o) base v l := World.ownsRow.alloc h o
theorem OwnSs.quiet {w w' : World} {base : Nat} {v : Value} {l : List ByteArray} (h : OwnSs w base v l) (hg : G w w' none) : OwnSs w' base v l := World.ownsRow.kept h (G.but hg (some w.heap.size)) (.inr fun e => by have := (World.ownsRow.lt h _ e).2; omega)
def LadRel (w : World) (u : Up) (b c N : Nat) (key : ByteArray) (kx : Nat) (s1 s5 : Value) (wr : World) : Prop :=
  ∃ (n : Nat) (s : ByteArray) (acc : List ByteArray), n ≤ kx ∧ s1 = .string s ∧ OwnSs wr w.heap.size s5 acc ∧ Small s ∧ it u n s = eS ∧ ladK u N key = acc ++ ladK u n s ∧ acc.length + n ≤ N ∧ MapOf wr b c (sv u) ∧ G w wr none
set_option maxRecDepth 100000 in
set_option maxHeartbeats 2000000 in
theorem ladder_c (b c N : Nat) (u : Up) (key : ByteArray) (w : World) (hM : MapOf w b c (sv u)) (hu : UpOk u) (hk : Small key) (hN : N ≤ 1000) (hend : it u N key = eS) :
    Calls Tryd.prog 49 #[.map (some b), .string key] w fun e w' => ∃ v, e = .returned v ∧ OwnSs w' w.heap.size v (ladK u N key) ∧ G w w' none := by
  have hbl := hM.lt
  go_enter Tryd.func49, Tryd.ntmps49
  go_wp2_with fail
  go_loopg [1, 5] N (LadRel w u b c N key)
  case atStart => exact ⟨N, key, [], Nat.le_refl _, rfl, World.ownsRow_nil _ _ _ _, hk, hend, rfl, by simp, hM, G.refl _ _⟩
  case round =>
    clear hM hk hend
    obtain ⟨n, s, acc, hn, rfl, hown, hs, hend, hlad, hlen, hM, hG⟩ := hrel
    cases he : s.toList.isEmpty with
    | true =>
      have HF : Hid (ladK u N key = acc) := Lib.hid (by rw [hlad, isE_iff.1 he, ladK_eS, List.append_nil])
      clear hlad hend
      go_wp2_with fail
      go_ret
      exact ⟨_, rfl, by rw [HF.out]; exact hown, hG⟩
    | false =>
      cases n with
      | zero =>
        exfalso
        rw [isE_iff.2 (show s = eS from hend)] at he
        cases he
      | succ n =>
        have HF : Hid (ladK u N key = (acc ++ [s]) ++ ladK u n ((u s).getD eS)) := Lib.hid (by
          rw [hlad, List.append_assoc]
          congr 1
          show (if s.toList.isEmpty = true then [] else s :: ladK u n ((u s).getD eS)) = _
          rw [if_neg (by simp [he])]
          rfl)
        have HE : Hid (it u n ((u s).getD eS) = eS) := Lib.hid hend
        have hg1 := hu.get s
        have hob := fun r e => (World.ownsRow.lt hown r e).1
        have hsz := hG.size
        have hMb : ∀ r, u5.ownBlock = some r → b ≠ r := fun r e => by have := hob r e; omega
        clear hlad hend
        go_wp2_with (first | (at_builtin; refine wpList_append_ss rfl _ _ rfl w.heap.size u5 acc rfl (hown.alloc _) wr.heap.size s rfl (Bk.newAt rfl _ _) (by omega) (by simp; omega) ?_; intro v' w' hown' hgrow; have hM' := (hM.alloc (.cells #[.string s] 9)).grown hgrow (fun e => hMb b e.symm rfl)) | (at_lookup; refine wpS_look rfl _ _ rfl b c u rfl hM' s rfl hs ?_))
        go_roundg n
        case measure => omega
        case rel => exact ⟨n, _, acc ++ [s], Nat.le_refl _, rfl, hown', hg1, HE.out, HF.out, by simp; omega, hM', (hG.alloc _).other hgrow fun j e => .inl (hob j e)⟩
end Go.Proofs.YtlnoafkepfgooaaDoor

/- Rows of elements of whatever make, read as lists. No program. -/
namespace Go.Proofs.YtlnoafkepfgooaaDoor
open Go.RowKit

def rowL {α : Type} (c : α → Array Value) (l : List α) : List Value := l.flatMap fun p => (c p).toList
theorem rowL_cons {α : Type} (c : α → Array Value) (p : α) (l : List α) : rowL c (p :: l) = (c p).toList ++ rowL c l := rfl
theorem rowL_len {α : Type} {c : α → Array Value} {z : Nat} (hz : ∀ p, (c p).size = z) (l : List α) : (rowL c l).length = l.length * z := by
  induction l with
  | nil => simp [rowL]
  | cons p l ih =>
    rw [rowL_cons, List.length_append, ih, List.length_cons, Array.length_toList, hz, Nat.add_mul, Nat.one_mul, Nat.add_comm]
theorem rowL_snoc {α : Type} (c : α → Array Value) (l : List α) (p : α) : rowL c (l ++ [p]) = rowL c l ++ (c p).toList := by simp [rowL]
theorem rowL_at {α : Type} {c : α → Array Value} {z : Nat} (hz : ∀ p, (c p).size = z) (l : List α) (k : Nat) (p : α) (hp : l[k]? = some p) : ∀ j v, (c p).toList[j]? = some v → (rowL c l)[k * z + j]? = some v := by
  induction l generalizing k with
  | nil => simp at hp
  | cons q r ih =>
    intro j v hv
    rw [rowL_cons]
    have hl : (c q).toList.length = z := by rw [Array.length_toList, hz]
    cases k with
    | zero =>
      obtain rfl : q = p := by simpa using hp
      have hj : j < z := by rw [← hl]; exact (List.getElem?_eq_some_iff.1 hv).1
      rw [Nat.zero_mul, Nat.zero_add, List.getElem?_append_left (by rw [hl]; exact hj)]
      exact hv
    | succ k =>
      have e : (k + 1) * z + j - z = k * z + j := by rw [Nat.add_mul, Nat.one_mul]; omega
      have e2 : z ≤ (k + 1) * z + j := by rw [Nat.add_mul, Nat.one_mul]; omega
      rw [List.getElem?_append_right (by rw [hl]; exact e2), hl, e]
      exact ih k (by simpa using hp) j v hv
theorem rowL_set {α : Type} {c : α → Array Value} {z : Nat} (hz : ∀ p, (c p).size = z) (l : List α) (k : Nat) (p q : α) (hp : l[k]? = some p) (j : Nat) (u : Value) (hj : j < z) (hq : (c q).toList = (c p).toList.set j u) : (rowL c l).set (k * z + j) u = rowL c (l.set k q) := by
  induction l generalizing k with
  | nil => simp at hp
  | cons x r ih =>
    have hl : (c x).toList.length = z := by rw [Array.length_toList, hz]
    rw [rowL_cons]
    cases k with
    | zero =>
      obtain rfl : x = p := by simpa using hp
      rw [List.set_cons_zero, rowL_cons, Nat.zero_mul, Nat.zero_add, List.set_append_left _ _ (by rw [hl]; exact hj), hq]
    | succ k =>
      have e : (k + 1) * z + j - z = k * z + j := by rw [Nat.add_mul, Nat.one_mul]; omega
      have e2 : z ≤ (k + 1) * z + j := by rw [Nat.add_mul, Nat.one_mul]; omega
      rw [List.set_cons_succ, rowL_cons, List.set_append_right _ _ (by rw [hl]; exact e2), hl, e, ih k (by simpa using hp)]
theorem ownsRow_set {w : World} {base : Nat} {e : TypeId} {size g n cap : Nat} {xs : List Value} (h : w.ownsRow base e size (.slice (some ⟨g, 0, none⟩) n cap) n xs) (i : Nat) (u : Value) : (w.setCell ⟨g, i, none⟩ u).ownsRow base e size (.slice (some ⟨g, 0, none⟩) n cap) n (xs.set i u) := by
  obtain ⟨h1, h2⟩ := h
  refine ⟨by rw [List.length_set]; exact h1, .inr ?_⟩
  rcases h2 with ⟨h3, _⟩ | ⟨g', cap', cur, e1, hb, hg, hn, hm, hs, ht⟩
  · cases h3
  · obtain ⟨rfl, rfl⟩ : g = g' ∧ cap = cap' := by cases e1; exact ⟨rfl, rfl⟩
    refine ⟨g, cap, cur.setIfInBounds i u, rfl, hb, ?_, hn, hm, by simpa using hs, ?_⟩
    · simp [World.setCell, Array.getElem?_modify, hg]
    · rw [Array.toList_setIfInBounds, List.take_set, ht]
theorem ownsRow_free {w : World} {base : Nat} {e : TypeId} {size g n cap : Nat} {xs : List Value} (h : w.ownsRow base e size (.slice (some ⟨g, 0, none⟩) n cap) n xs) (i : Nat) : w.frozen? ⟨g, i, none⟩ = false := by
  rcases h.2 with ⟨h3, _⟩ | ⟨g', cap', cur, e1, hb, hg, hn, hm, hs, ht⟩
  · cases h3
  · obtain ⟨rfl, rfl⟩ : g = g' ∧ cap = cap' := by cases e1; exact ⟨rfl, rfl⟩
    simp [World.frozen?, hg]
/-- A slice that reads as a list of such elements. -/
abbrev RdR {α : Type} (w : World) (z : Nat) (c : α → Array Value) (v : Value) (l : List α) : Prop := Rd w z v l.length (rowL c l)
theorem RdR.elem {α : Type} {W w : World} {z : Nat} {c : α → Array Value} {a : Option Addr} {n cap : Nat} {l : List α} (hz : ∀ p, (c p).size = z) (h : RdR W z c (.slice a n cap) l) (hG : G W w none) {k : Nat} {p : α} (hp : l[k]? = some p) :
    ∃ bb bo, a = some ⟨bb, bo, none⟩ ∧ bb < W.heap.size ∧ ∀ j v, (c p).toList[j]? = some v → w.cell? ((⟨bb, bo + k * z, none⟩ : Addr).add j) = some v := by
  obtain ⟨a', c', e, h1, h2, h3, h4, h5⟩ := h
  obtain ⟨rfl, rfl, rfl⟩ : a = a' ∧ n = l.length ∧ cap = c' := by cases e; exact ⟨rfl, rfl, rfl⟩
  cases a with
  | none =>
    have := (h4 rfl).1
    have := (List.getElem?_eq_some_iff.1 hp).1
    omega
  | some ad =>
    obtain ⟨bb, bo, bs⟩ := ad
    obtain ⟨q1, q2, q3⟩ := h5 _ rfl
    dsimp only at q1 q2 q3
    subst q1
    refine ⟨bb, bo, rfl, q2, fun j v hv => ?_⟩
    rw [add_at]
    have := q3 (k * z + j) v (rowL_at hz l k p hp j v hv)
    rw [← Nat.add_assoc] at this
    exact ((gcell hG).1 bb _ q2).trans this
/-- The same, told cell by cell. -/
theorem RdR.cell {α : Type} {W w : World} {z : Nat} {c : α → Array Value} {bb bo n cap : Nat} {l : List α} (hz : ∀ p, (c p).size = z) (h : RdR W z c (.slice (some ⟨bb, bo, none⟩) n cap) l) (hG : G W w none) {k : Nat} {p : α} (hp : l[k]? = some p) (j : Nat) (v : Value) (hv : (c p).toList[j]? = some v) :
    w.cell? ⟨bb, bo + k * z + j, none⟩ = some v := by
  obtain ⟨b', o', e, _, h2⟩ := RdR.elem hz h hG hp
  obtain ⟨rfl, rfl⟩ : bb = b' ∧ bo = o' := by cases e; exact ⟨rfl, rfl⟩
  have := h2 j v hv
  rwa [add_at] at this
theorem RdR.form {α : Type} {W : World} {z : Nat} {c : α → Array Value} {v : Value} {l : List α} (h : RdR W z c v l) : ∃ a cap, v = .slice a l.length cap ∧ l.length ≤ cap ∧ cap ≤ maxLen := by
  obtain ⟨a', c', e, h1, h2, h3, h4, h5⟩ := h
  exact ⟨a', c', e, h1, h2⟩
theorem RdR.nil {α : Type} (w : World) (z : Nat) (c : α → Array Value) : RdR w z c (.slice none 0 0) [] := ⟨none, 0, rfl, Nat.le_refl _, Nat.zero_le _, by simp [rowL], fun _ => ⟨rfl, rfl⟩, fun b hb => by cases hb⟩
/-- The first of them. -/
theorem RdR.prefix_ {α : Type} {w : World} {z : Nat} {c : α → Array Value} {a : Option Addr} {n cap : Nat} {l : List α} (hz : ∀ p, (c p).size = z) (h : RdR w z c (.slice a n cap) l) (m : Nat) (hm : m ≤ l.length) : RdR w z c (.slice a m cap) (l.take m) := by
  obtain ⟨a', c', e, h1, h2, h3, h4, h5⟩ := h
  obtain ⟨rfl, rfl, rfl⟩ : a = a' ∧ n = l.length ∧ cap = c' := by cases e; exact ⟨rfl, rfl, rfl⟩
  have hlt : (l.take m).length = m := by rw [List.length_take]; omega
  refine ⟨a, cap, by rw [hlt], by omega, h2, rowL_len hz _, fun e => ⟨by have := (h4 e).1; omega, (h4 e).2⟩, fun b hb => ?_⟩
  obtain ⟨q1, q2, q3⟩ := h5 b hb
  refine ⟨q1, q2, fun j u hj => q3 j u ?_⟩
  have e2 : rowL c l = rowL c (l.take m) ++ rowL c (l.drop m) := by
    unfold rowL
    rw [← List.flatMap_append, List.take_append_drop]
  rw [e2, List.getElem?_append_left ((List.getElem?_eq_some_iff.1 hj).1)]
  exact hj
/-- The first place of one that is asked for, from 'k' on counted; -1: none. -/
def ixP {α : Type} (q : α → Bool) : List α → Int → Int
  | [], _ => -1
  | p :: r, k => if q p = true then k else ixP q r (k + 1)
theorem ixP_spec {α : Type} (q : α → Bool) (l : List α) : ∀ k : Nat, (ixP q l k = -1 ∧ l.any q = false) ∨ ∃ (i : Nat) (p : α), ixP q l k = ((k + i : Nat) : Int) ∧ l[i]? = some p ∧ q p = true := by
  induction l with
  | nil => intro k; exact .inl ⟨rfl, rfl⟩
  | cons p r ih =>
    intro k
    unfold ixP
    by_cases h : q p = true
    · rw [if_pos h]
      exact .inr ⟨0, p, rfl, rfl, h⟩
    · rw [if_neg h]
      rcases ih (k + 1) with ⟨h1, h2⟩ | ⟨i, p', h1, h2, h3⟩
      · left
        exact ⟨h1, by rw [List.any_cons, h2]; simp [h]⟩
      · right
        refine ⟨i + 1, p', ?_, by simpa using h2, h3⟩
        have e : ixP q r ((k : Int) + 1) = ixP q r ((k + 1 : Nat) : Int) := rfl
        rw [e, h1]
        congr 1
        omega
theorem ixP_find {α : Type} (q : α → Bool) (l : List α) : ∀ k : Nat, (ixP q l k = -1 ∧ l.find? q = none) ∨ ∃ (i : Nat) (p : α), ixP q l k = ((k + i : Nat) : Int) ∧ l[i]? = some p ∧ l.find? q = some p := by
  induction l with
  | nil => intro k; exact .inl ⟨rfl, rfl⟩
  | cons p r ih =>
    intro k
    unfold ixP
    by_cases h : q p = true
    · rw [if_pos h]
      exact .inr ⟨0, p, rfl, rfl, by rw [List.find?_cons, h]⟩
    · rw [if_neg h]
      have hf : (p :: r).find? q = r.find? q := by rw [List.find?_cons]; simp [h]
      rw [hf]
      rcases ih (k + 1) with ⟨h1, h2⟩ | ⟨i, p', h1, h2, h3⟩
      · exact .inl ⟨h1, h2⟩
      · right
        refine ⟨i + 1, p', ?_, by simpa using h2, h3⟩
        have e : ixP q r ((k : Int) + 1) = ixP q r ((k + 1 : Nat) : Int) := rfl
        rw [e, h1]
        congr 1
        omega
end Go.Proofs.YtlnoafkepfgooaaDoor

/- The reference's ClassAt (slices.IndexFunc with a closure), Ups. -/
namespace Go.Proofs.YtlnoafkepfgooaaDoor
open Go.RowKit

def clAt (l : List Cla) (s : ByteArray) : Int := ixP (fun p => eqB p.1 s) l 0
theorem clAt_spec (l : List Cla) (s : ByteArray) : (clAt l s = -1 ∧ upS l s = none) ∨ ∃ (i : Nat) (p : Cla), clAt l s = (i : Int) ∧ l[i]? = some p ∧ p.1 = s := by
  rcases ixP_spec (fun p : Cla => eqB p.1 s) l 0 with ⟨h1, h2⟩ | ⟨i, p, h1, h2, h3⟩
  · refine .inl ⟨h1, upS_none fun hm => ?_⟩
    obtain ⟨p, hp, e⟩ := List.mem_map.1 hm
    have : l.any (fun p => eqB p.1 s) = true := List.any_eq_true.2 ⟨p, hp, eqB_iff.2 e⟩
    rw [h2] at this
    cases this
  · refine .inr ⟨i, p, ?_, h2, eqB_iff.1 h3⟩
    rw [Nat.zero_add] at h1
    exact h1
theorem clAt_neg (l : List Cla) (s : ByteArray) : decide (clAt l s < 0) = !(upS l s).isSome := by
  rcases clAt_spec l s with ⟨h1, h2⟩ | ⟨i, p, h1, h2, h3⟩
  · rw [h1, h2]; rfl
  · rw [h1, upS_isSome, show hasK (ksC l) s = true from hasK_iff.2 (List.mem_map.2 ⟨p, List.mem_of_getElem? h2, h3⟩)]
    simp
theorem closure_c (p : Cla) (t : ByteArray) (g : Nat) (w : World) (hB : Bk w g 9 #[.string t]) : Calls Tryd.prog 53 #[.agg (clC p), .pointer (some ⟨g, 0, none⟩)] w fun e w' => e = .returned (.bool (eqB p.1 t)) ∧ G w w' none := by
  have hc := (Bk.new w 82 (clC p)).cell 0
  rw [show (clC p)[0]? = some (.string p.1) from rfl] at hc
  have hc2 := (hB.alloc (.cells (clC p) 82)).cell 0
  rw [show (#[Value.string t] : Array Value)[0]? = some (.string t) from rfl] at hc2
  cases he : eqB p.1 t with
  | true =>
    unfold eqB at he
    go_enter Tryd.func53, Tryd.ntmps53
    go_wp2_with fail
    go_ret
    exact ⟨rfl, (G.refl _ _).alloc _⟩
  | false =>
    unfold eqB at he
    go_enter Tryd.func53, Tryd.ntmps53
    go_wp2_with fail
    go_ret
    exact ⟨rfl, (G.refl _ _).alloc _⟩
def IxfRel (w : World) (l : List Cla) (t : ByteArray) (i : Value) (wr : World) : Prop :=
  ∃ k : Nat, k ≤ l.length ∧ i = .int .i64 k ∧ clAt l t = ixP (fun p : Cla => eqB p.1 t) (l.drop k) k ∧ G w wr none
set_option maxRecDepth 100000 in
set_option maxHeartbeats 2000000 in
theorem indexFunc_c (v : Value) (l : List Cla) (t : ByteArray) (g : Nat) (w : World) (hr : Rd w 2 v l.length (clL l)) (hn : l.length ≤ 1000) (hB : Bk w g 9 #[.string t]) :
    Calls Tryd.prog 52 #[v, .func (.func 53) #[] #[.pointer (some ⟨g, 0, none⟩)]] w fun e w' => e = .returned (.int .i64 (clAt l t)) ∧ G w w' none := by
  obtain ⟨a, cap, rfl, hcap, hm, hlen, hnil, hcell⟩ := hr
  go_enter Tryd.func52, Tryd.ntmps52
  go_wp2_with fail
  go_loopw [8] (IxfRel w l t) (fun i _ => l.length - (intOf i).toNat)
  case atStart => exact ⟨0, by omega, rfl, rfl, G.refl _ _⟩
  case round =>
    obtain ⟨k, hk, rfl, heq, hG⟩ := hrel
    have HE := Lib.hid heq
    clear heq
    by_cases hlt : k < l.length
    · obtain ⟨p, hp⟩ : ∃ p, l[k]? = some p := ⟨_, List.getElem?_eq_getElem hlt⟩
      have HD : Hid (clAt l t = if eqB p.1 t = true then (k : Int) else ixP (fun p : Cla => eqB p.1 t) (l.drop (k + 1)) ((k : Int) + 1)) := Lib.hid (by
        rw [HE.out, List.drop_eq_getElem_cons hlt, (List.getElem?_eq_some_iff.1 hp).2]; rfl)
      cases a with
      | none => have := (hnil rfl).1; omega
      | some ad =>
        obtain ⟨bb, bo, bs⟩ := ad
        obtain ⟨e1, e2, e3⟩ := hcell _ rfl
        dsimp only at e1 e2 e3
        subst e1
        have hrow : ∀ j v, (clC p).toList[j]? = some v → wr.cell? ((⟨bb, bo + k * 2, none⟩ : Addr).add j) = some v := by
          intro j v hv
          rw [add_at]
          have h1 := e3 (k * 2 + j) v (clL_at l k p hp j v hv)
          rw [← Nat.add_assoc] at h1
          exact ((gcell hG).1 bb _ e2).trans h1
        have HR := Lib.hid hrow
        clear hrow hcell e3 hnil hp
        go_wp2_with (refine wpList_load_at rfl 82 _ rfl ⟨bb, bo + k * 2, none⟩ rfl (clC p) _ HR.out Tryd.underlying82 rfl (cl_info p) ?_)
        refine (closure_c p t g _ (hB.quiet hG)).mono ?_; rintro e w1 ⟨rfl, hG1⟩
        cases he : eqB p.1 t with
        | true =>
          have HF : Hid (clAt l t = k) := Lib.hid (by rw [HD.out, if_pos he])
          clear he
          go_wp2_with fail
          go_ret
          exact ⟨ret_int HF.out.symm, hG.trans hG1⟩
        | false =>
          have HF : Hid (clAt l t = ixP (fun p : Cla => eqB p.1 t) (l.drop (k + 1)) ((k + 1 : Nat) : Int)) := Lib.hid (by rw [HD.out, if_neg (by simp [he])]; rfl)
          clear he
          go_wp2_with fail
          go_roundw
          case rel => exact ⟨k + 1, by omega, by go_num, HF.out, hG.trans hG1⟩
          case measure => simp [intOf]; omega
    · obtain rfl : k = l.length := by omega
      have HF : Hid (clAt l t = -1) := Lib.hid (by rw [HE.out, List.drop_length]; rfl)
      go_wp2_with fail
      go_ret
      exact ⟨ret_int HF.out.symm, hG⟩
set_option maxRecDepth 100000 in
set_option maxHeartbeats 1000000 in
theorem classAt_c (v : Value) (l : List Cla) (t : ByteArray) (w : World) (hr : Rd w 2 v l.length (clL l)) (hn : l.length ≤ 1000) :
    Calls Tryd.prog 25 #[v, .string t] w fun e w' => e = .returned (.int .i64 (clAt l t)) ∧ G w w' none := by
  have hmf : ∀ (fn : Go.Fn) (first cap : Array Value) (w : World), (Instr.makeFunc fn first cap).run Tryd.prog w = .ok (.func fn first cap) w := fun _ _ _ _ => rfl
  have HR := Lib.hid hr
  clear hr
  go_enter Tryd.func25, Tryd.ntmps25
  go_wp2_with fail
  refine (indexFunc_c v l t w.heap.size _ (HR.out.quiet ((G.refl _ _).alloc _)) hn (Bk.new w _ _)).mono ?_; rintro e w1 ⟨rfl, hG1⟩
  go_wp2_with fail
  go_ret
  exact ⟨rfl, ((G.refl w none).alloc _).trans hG1⟩
end Go.Proofs.YtlnoafkepfgooaaDoor
