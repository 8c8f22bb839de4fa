/- checkVehicles, CheckFleet. -/
import Derived.Test.YtjjgohainbjecaaDoorBs
namespace Go.Proofs.YtjjgohainbjecaaDoor
open Go.RowKit

/-- Whether so many vehicles are right, 'ck' being the keys of the classes. -/
def vhErr (ck : List ByteArray) (before : ByteArray) : List Veh → Int
  | [] => 0
  | p :: r => if keyB p.1 = false then 5 else if leB p.1 before = true then 7 else if hasK ck p.2 = false then 8 else vhErr ck p.1 r
def vhE (ck : List ByteArray) (l : List Veh) : Int := if 500 < l.length then 2 else vhErr ck ⟨#[]⟩ l
theorem fl_info (v0 v1 v2 v3 : Value) : (Tryd.prog.info? 73).map (·.size) = some (#[v0, v1, v2, v3] : Array Value).size := (by kernel_rfl : (Tryd.prog.info? 73).map (·.size) = some 4)
def VhRel (w : World) (ck : List ByteArray) (l : List Veh) (v0 v1 v2 v3 : Value) (v i : Value) (wr : World) : Prop :=
  ∃ (k : Nat) (b : ByteArray), k ≤ l.length ∧ i = .int .i64 k ∧ v = .string b ∧ vhErr ck ⟨#[]⟩ l = vhErr ck b (l.drop k) ∧ G w wr none ∧ Bk wr w.heap.size 73 #[v0, v1, v2, v3]
set_option maxRecDepth 100000 in
set_option maxHeartbeats 4000000 in
theorem checkVehicles_c (v0 v1 v2 v3 : Value) (lc : List Cla) (l : List Veh) (w : World) (hc : Rd w 2 v1 lc.length (clL lc)) (hcn : lc.length ≤ 1000) (hcr : Rise (lc.map (·.1))) (hr : Rd w 2 v2 l.length (clL l)) (hl : ClsOk l) (hn : l.length ≤ 1000000) :
    Calls Tryd.prog 63 #[.agg #[v0, v1, v2, v3]] w fun e w' => e = .returned (.int .i64 (vhE (lc.map (·.1)) l)) ∧ G w w' none := by
  obtain ⟨ck, hck⟩ : ∃ ck, lc.map (·.1) = ck := ⟨_, rfl⟩
  have HC := Lib.hid hc
  have HCR := Lib.hid hcr
  have HCK := Lib.hid hck
  rw [hck]
  clear hc hcr hck
  have hr0 := hr
  obtain ⟨a, cap, rfl, hcap, hm, hlen, hnil, hcell⟩ := hr
  have hf2 := (Bk.new w 73 #[v0, v1, Value.slice a l.length cap, v3]).cell 2
  rw [show (#[v0, v1, Value.slice a l.length cap, v3] : Array Value)[2]? = some (.slice a l.length cap) from rfl] at hf2
  by_cases h500 : 500 < l.length
  · have H := Lib.hid (show vhE ck l = 2 by simp [vhE, h500])
    go_enter Tryd.func63, Tryd.ntmps63
    go_wp2_with fail
    go_ret
    exact ⟨by rw [H.out]; rfl, (G.refl _ _).alloc _⟩
  · have H := Lib.hid (show vhE ck l = vhErr ck ⟨#[]⟩ l by simp [vhE, h500])
    go_enter Tryd.func63, Tryd.ntmps63
    go_wp2_with fail
    clear hf2
    go_loopw [3, 13] (VhRel w ck l v0 v1 (.slice a l.length cap) v3) (fun _ i _ => l.length - (intOf i).toNat)
    case atStart => exact ⟨0, ⟨#[]⟩, by omega, rfl, rfl, rfl, (G.refl _ _).alloc _, Bk.new _ _ _⟩
    case round =>
      obtain ⟨k, b, hkl, rfl, rfl, heq, hG, hF⟩ := hrel
      have HE := Lib.hid heq
      clear heq
      by_cases hk : k < l.length
      · obtain ⟨p, hp⟩ : ∃ p, l[k]? = some p := ⟨_, List.getElem?_eq_getElem hk⟩
        have hdrop : l.drop k = p :: l.drop (k + 1) := by rw [List.drop_eq_getElem_cons hk, ← (List.getElem?_eq_some_iff.1 hp).2]
        have hpl := hl p (List.mem_of_getElem? hp)
        cases a with
        | none => have := (hnil rfl).1; omega
        | some ad =>
          obtain ⟨bb, bo, bs⟩ := ad
          obtain ⟨e1, e2, e3⟩ := hcell _ rfl
          dsimp only at e1 e2 e3
          subst e1
          have hrow : ∀ j v, (clC p).toList[j]? = some v → wr.cell? ((⟨bb, bo + k * 2, none⟩ : Addr).add j) = some v := by
            intro j v hv
            rw [add_at]
            have h1 := e3 (k * 2 + j) v (clL_at l k p hp j v hv)
            rw [← Nat.add_assoc] at h1
            exact ((gcell hG).1 bb _ e2).trans h1
          have HR := Lib.hid hrow
          clear hrow hcell e3 hnil
          have hs1 := hpl.1
          unfold Small at hs1
          have HS : Hid (vhErr ck b (l.drop k) = if keyB p.1 = false then 5 else if leB p.1 b = true then 7 else if hasK ck p.2 = false then 8 else vhErr ck p.1 (l.drop (k + 1))) := Lib.hid (by rw [hdrop]; rfl)
          clear hdrop
          have hF' := hF.alloc (.cells #[.string p.1, .string p.2] 69)
          have hBn := Bk.new wr 69 #[.string p.1, .string p.2]
          go_wp2_with (refine wpList_load_at rfl 69 _ rfl ⟨bb, bo + k * 2, none⟩ rfl #[.string p.1, .string p.2] _ HR.out Tryd.underlying69 rfl (ve_info p) ?_)
          refine (isKey_c _ _ hs1).mono ?_; rintro e w' ⟨rfl, rfl⟩
          cases hkb : keyB p.1 with
          | false =>
            have HF : Hid (vhE ck l = 5) := Lib.hid (by rw [H.out, HE.out, HS.out, if_pos hkb])
            clear hkb
            go_wp2_with fail
            go_ret
            exact ⟨by rw [HF.out]; rfl, hG.alloc _⟩
          | true =>
            cases hle : leB p.1 b with
            | true =>
              have HF : Hid (vhE ck l = 7) := Lib.hid (by rw [H.out, HE.out, HS.out, if_neg (by simp [hkb]), if_pos hle])
              unfold leB at hle
              clear hkb
              go_wp2_with fail
              go_ret
              exact ⟨by rw [HF.out]; rfl, hG.alloc _⟩
            | false =>
              have HL := Lib.hid hle
              have HK := Lib.hid hkb
              unfold leB at hle
              clear hkb
              go_wp2_with (refine wpList_load_row rfl 73 _ rfl w.heap.size rfl 73 #[v0, v1, .slice (some ⟨bb, bo, none⟩) l.length cap, v3] (0, 0) _ hF' Tryd.underlying73 rfl (fl_info _ _ _ _) ?_)
              refine (hasClass_c v0 v1 _ v3 lc p.2 _ (HC.out.quiet (hG.alloc _)) (by omega) HCR.out).mono ?_; rintro e w2 ⟨rfl, hG2⟩
              rw [HCK.out]
              have hc0 : w2.cell? ⟨wr.heap.size, 0, none⟩ = some (.string p.1) := ((gcell hG2).1 _ 0 (by simp)).trans (hBn.cell 0)
              have hG3 := (hG.alloc (.cells #[.string p.1, .string p.2] 69)).trans hG2
              have hF3 := hF'.quiet hG2
              clear hG2 hF' hF hBn
              cases hok : hasK ck p.2 with
              | false =>
                have HF : Hid (vhE ck l = 8) := Lib.hid (by rw [H.out, HE.out, HS.out, if_neg (by simp [HK.out]), if_neg (by simp [HL.out]), if_pos hok])
                clear hok
                go_wp2_with fail
                go_ret
                exact ⟨by rw [HF.out]; rfl, hG3⟩
              | true =>
                have HF : Hid (vhErr ck ⟨#[]⟩ l = vhErr ck p.1 (l.drop (k + 1))) := Lib.hid (by rw [HE.out, HS.out, if_neg (by simp [HK.out]), if_neg (by simp [HL.out]), if_neg (by simp [hok])])
                clear hok
                go_wp2_with fail
                go_roundw
                case rel => exact ⟨k + 1, p.1, by omega, by go_num, rfl, HF.out, hG3, hF3⟩
                case measure => simp [intOf]; omega
      · obtain rfl : k = l.length := by omega
        have HE2 : Hid (vhE ck l = 0) := Lib.hid (by rw [H.out, HE.out, List.drop_length]; rfl)
        go_wp2_with fail
        go_ret
        exact ⟨by rw [HE2.out]; rfl, hG⟩

/-! ### CheckFleet: its plates by a contract that is handed in -/
def flE (ls : List Sta) (lc : List Cla) (lv : List Veh) (pe : Int) : Int :=
  if stErr ls = 0 then if clErr lc = 0 then if vhE (lc.map (·.1)) lv = 0 then pe else vhE (lc.map (·.1)) lv else clErr lc else stErr ls
theorem stErr_rise {l : List Sta} (h : stErr l = 0) : Rise (l.map (·.1)) := by
  unfold stErr at h
  split at h
  · omega
  · exact (sta_rise _ _ h).1
theorem clErr_rise {l : List Cla} (h : clErr l = 0) : Rise (l.map (·.1)) := by
  unfold clErr at h
  split at h
  · omega
  · split at h
    · rename_i hc
      exact (ck_rise _ _ hc).1
    · contradiction
set_option maxRecDepth 100000 in
set_option maxHeartbeats 4000000 in
theorem checkFleet_c (v0 v1 v2 v3 : Value) (ls : List Sta) (lc : List Cla) (lv : List Veh) (pe : Int) (w : World)
    (hs : Rd w 15 v0 ls.length (stL ls)) (hsl : KeysOk ls) (hsn : ls.length ≤ 1000) (hc : Rd w 2 v1 lc.length (clL lc)) (hcl : ClsOk lc) (hcn : lc.length ≤ 1000) (hv : Rd w 2 v2 lv.length (clL lv)) (hvl : ClsOk lv) (hvn : lv.length ≤ 1000000)
    (hp : stErr ls = 0 → clErr lc = 0 → vhE (lc.map (·.1)) lv = 0 → ∀ w1, G w w1 none → Calls Tryd.prog 64 #[.agg #[v0, v1, v2, v3]] w1 fun e w' => e = .returned (.int .i64 pe) ∧ G w1 w' none) :
    Calls Tryd.prog 52 #[.agg #[v0, v1, v2, v3]] w fun e w' => e = .returned (.int .i64 (flE ls lc lv pe)) ∧ G w w' none := by
  have HP := Lib.hid hp
  clear hp
  have hF0 := Bk.new w 73 #[v0, v1, v2, v3]
  have hf0 := hF0.cell 0
  rw [show (#[v0, v1, v2, v3] : Array Value)[0]? = some v0 from rfl] at hf0
  have hG0 : G w (w.alloc (.cells #[v0, v1, v2, v3] 73)) none := (G.refl _ _).alloc _
  by_cases h1 : stErr ls = 0
  · have H1 := Lib.hid h1
    clear h1
    by_cases h2 : clErr lc = 0
    · have H2 := Lib.hid h2
      clear h2
      by_cases h3 : vhE (lc.map (·.1)) lv = 0
      · have H : Hid (flE ls lc lv pe = pe) := Lib.hid (by simp [flE, H1.out, H2.out, h3])
        have H3 := Lib.hid h3
        clear h3
        go_enter Tryd.func52, Tryd.ntmps52
        go_wp2_with fail
        refine (checkStations_c v0 ls _ (hs.quiet hG0) hsl hsn).mono ?_; rintro e w1 ⟨rfl, hG1⟩
        rw [H1.out]
        have hF1 := hF0.quiet hG1
        have hG01 := hG0.trans hG1
        have hf1 := hF1.cell 1
        rw [show (#[v0, v1, v2, v3] : Array Value)[1]? = some v1 from rfl] at hf1
        clear hG0 hG1 hF0 hf0
        go_wp2_with fail
        refine (checkClasses_c v1 lc _ (hc.quiet hG01) hcl hcn).mono ?_; rintro e w2 ⟨rfl, hG2⟩
        rw [H2.out]
        have hF2 := hF1.quiet hG2
        have hG02 := hG01.trans hG2
        clear hG01 hG2 hF1 hf1
        go_wp2_with (refine wpList_load_row rfl 73 _ rfl w.heap.size rfl 73 #[v0, v1, v2, v3] (0, 0) _ hF2 Tryd.underlying73 rfl (fl_info _ _ _ _) ?_)
        refine (checkVehicles_c v0 v1 v2 v3 lc lv _ (hc.quiet hG02) hcn (clErr_rise H2.out) (hv.quiet hG02) hvl hvn).mono ?_; rintro e w3 ⟨rfl, hG3⟩
        rw [H3.out]
        have hF3 := hF2.quiet hG3
        have hG03 := hG02.trans hG3
        clear hG02 hG3 hF2
        go_wp2_with (refine wpList_load_row rfl 73 _ rfl w.heap.size rfl 73 #[v0, v1, v2, v3] (0, 0) _ hF3 Tryd.underlying73 rfl (fl_info _ _ _ _) ?_)
        refine (HP.out H1.out H2.out H3.out _ hG03).mono ?_; rintro e w4 ⟨rfl, hG4⟩
        go_wp2_with fail
        go_ret
        exact ⟨by rw [H.out]; rfl, hG03.trans hG4⟩
      · have H : Hid (flE ls lc lv pe = vhE (lc.map (·.1)) lv) := Lib.hid (by simp [flE, H1.out, H2.out, h3])
        have h3' : (vhE (lc.map (·.1)) lv != 0) = true := by rw [bne_iff_ne]; exact h3
        clear h3 HP
        generalize hx : vhE (lc.map (·.1)) lv = x at H h3'
        have HX := Lib.hid hx
        clear hx
        go_enter Tryd.func52, Tryd.ntmps52
        go_wp2_with fail
        refine (checkStations_c v0 ls _ (hs.quiet hG0) hsl hsn).mono ?_; rintro e w1 ⟨rfl, hG1⟩
        rw [H1.out]
        have hF1 := hF0.quiet hG1
        have hG01 := hG0.trans hG1
        have hf1 := hF1.cell 1
        rw [show (#[v0, v1, v2, v3] : Array Value)[1]? = some v1 from rfl] at hf1
        clear hG0 hG1 hF0 hf0
        go_wp2_with fail
        refine (checkClasses_c v1 lc _ (hc.quiet hG01) hcl hcn).mono ?_; rintro e w2 ⟨rfl, hG2⟩
        rw [H2.out]
        have hF2 := hF1.quiet hG2
        have hG02 := hG01.trans hG2
        clear hG01 hG2 hF1 hf1
        go_wp2_with (refine wpList_load_row rfl 73 _ rfl w.heap.size rfl 73 #[v0, v1, v2, v3] (0, 0) _ hF2 Tryd.underlying73 rfl (fl_info _ _ _ _) ?_)
        refine (checkVehicles_c v0 v1 v2 v3 lc lv _ (hc.quiet hG02) hcn (clErr_rise H2.out) (hv.quiet hG02) hvl hvn).mono ?_; rintro e w3 ⟨rfl, hG3⟩
        rw [HX.out]
        go_wp2_with fail
        go_ret
        exact ⟨by rw [H.out]; rfl, hG02.trans hG3⟩
    · have H : Hid (flE ls lc lv pe = clErr lc) := Lib.hid (by simp [flE, H1.out, h2])
      have h2' : (clErr lc != 0) = true := by rw [bne_iff_ne]; exact h2
      clear h2 HP
      go_enter Tryd.func52, Tryd.ntmps52
      go_wp2_with fail
      refine (checkStations_c v0 ls _ (hs.quiet hG0) hsl hsn).mono ?_; rintro e w1 ⟨rfl, hG1⟩
      rw [H1.out]
      have hF1 := hF0.quiet hG1
      have hG01 := hG0.trans hG1
      have hf1 := hF1.cell 1
      rw [show (#[v0, v1, v2, v3] : Array Value)[1]? = some v1 from rfl] at hf1
      clear hG0 hG1 hF0 hf0
      go_wp2_with fail
      refine (checkClasses_c v1 lc _ (hc.quiet hG01) hcl hcn).mono ?_; rintro e w2 ⟨rfl, hG2⟩
      go_wp2_with fail
      go_ret
      exact ⟨by rw [H.out]; rfl, hG01.trans hG2⟩
  · have H : Hid (flE ls lc lv pe = stErr ls) := Lib.hid (by simp [flE, h1])
    have h1' : (stErr ls != 0) = true := by rw [bne_iff_ne]; exact h1
    clear h1 HP
    go_enter Tryd.func52, Tryd.ntmps52
    go_wp2_with fail
    refine (checkStations_c v0 ls _ (hs.quiet hG0) hsl hsn).mono ?_; rintro e w1 ⟨rfl, hG1⟩
    go_wp2_with fail
    go_ret
    exact ⟨by rw [H.out]; rfl, hG0.trans hG1⟩
end Go.Proofs.YtjjgohainbjecaaDoor
