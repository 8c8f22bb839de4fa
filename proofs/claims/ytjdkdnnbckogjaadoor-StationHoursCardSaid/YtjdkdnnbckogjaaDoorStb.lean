/- The reference's StationsFault; one station alone. -/
import Derived.Test.YtjdkdnnbckogjaaDoorSta
namespace Go.Proofs.YtjdkdnnbckogjaaDoor
open Go.RowKit

set_option maxRecDepth 100000 in
set_option maxHeartbeats 2000000 in
theorem stationsFault_c (v : Value) (l : List Sta) (w : World) (hr : Rd w 15 v l.length (stL l)) (hl : KeysOk l) (hn : l.length ≤ 1000) :
    Calls Tryd.prog 12 #[v] w fun e w' => e = .returned (.int .i64 (stErr l)) ∧ G w w' none := by
  obtain ⟨a, cap, rfl, hcap, hm, hlen, hnil, hcell⟩ := hr
  by_cases h50 : 50 < l.length
  · have H := Lib.hid (show stErr l = 2 by simp [stErr, h50])
    go_enter Tryd.func12, Tryd.ntmps12
    go_wp2_with fail
    go_ret
    exact ⟨by rw [H.out]; rfl, G.refl _ _⟩
  · have H := Lib.hid (show stErr l = staErr ⟨#[]⟩ l by simp [stErr, h50])
    go_enter Tryd.func12, Tryd.ntmps12
    go_wp2_with fail
    go_loopw [3, 13] (ChkRel w l) (fun _ i _ => l.length - (intOf i).toNat)
    case atStart => exact ⟨0, ⟨#[]⟩, by omega, rfl, rfl, rfl, G.refl _ _⟩
    case round =>
      obtain ⟨k, b, hkl, rfl, rfl, heq, hG⟩ := hrel
      have HE := Lib.hid heq
      clear heq
      by_cases hk : k < l.length
      · obtain ⟨p, hp⟩ : ∃ p, l[k]? = some p := ⟨_, List.getElem?_eq_getElem hk⟩
        have hdrop : l.drop k = p :: l.drop (k + 1) := by rw [List.drop_eq_getElem_cons hk, ← (List.getElem?_eq_some_iff.1 hp).2]
        have hpl := hl p (List.mem_of_getElem? hp)
        cases a with
        | none => have := (hnil rfl).1; omega
        | some ad =>
          obtain ⟨bb, bo, bs⟩ := ad
          obtain ⟨e1, e2, e3⟩ := hcell _ rfl
          dsimp only at e1 e2 e3
          subst e1
          have hrow : ∀ j v, (stC p.1 p.2).toList[j]? = some v → wr.cell? ((⟨bb, bo + k * 15, none⟩ : Addr).add j) = some v := by
            intro j v hv
            rw [add_at]
            have h1 := e3 (k * 15 + j) v (stL_at l k p hp j v hv)
            rw [← Nat.add_assoc] at h1
            exact ((gcell hG).1 bb _ e2).trans h1
          have HR := Lib.hid hrow
          clear hrow hcell e3 hnil
          have hs1 := hpl.1
          have HS : Hid (staErr b (l.drop k) = if keyB p.1 = false then 5 else if leB p.1 b = true then 7 else if okHrs p.2 = false then 1 else staErr p.1 (l.drop (k + 1))) := Lib.hid (by rw [hdrop]; rfl)
          clear hdrop
          go_wp2_with (refine wpList_load_at rfl 30 _ rfl ⟨bb, bo + k * 15, none⟩ rfl #[.string p.1, .int .i64 (p.2 0), .int .i64 (p.2 1), .int .i64 (p.2 2), .int .i64 (p.2 3), .int .i64 (p.2 4), .int .i64 (p.2 5), .int .i64 (p.2 6), .int .i64 (p.2 7), .int .i64 (p.2 8), .int .i64 (p.2 9), .int .i64 (p.2 10), .int .i64 (p.2 11), .int .i64 (p.2 12), .int .i64 (p.2 13)] _ HR.out Tryd.underlying30 rfl (st_info _ _) ?_)
          refine (rkey_c _ _ hs1).mono ?_; rintro e w1 ⟨rfl, hG1⟩
          have hB1 := (Bk.new wr 30 #[.string p.1, .int .i64 (p.2 0), .int .i64 (p.2 1), .int .i64 (p.2 2), .int .i64 (p.2 3), .int .i64 (p.2 4), .int .i64 (p.2 5), .int .i64 (p.2 6), .int .i64 (p.2 7), .int .i64 (p.2 8), .int .i64 (p.2 9), .int .i64 (p.2 10), .int .i64 (p.2 11), .int .i64 (p.2 12), .int .i64 (p.2 13)]).quiet hG1
          have hG01 := (hG.alloc _).trans hG1
          clear hG1
          have c0 : w1.cell? ⟨wr.heap.size, 0, none⟩ = some (.string p.1) := hB1.cell 0
          cases hkb : keyB p.1 with
          | false =>
            have HF : Hid (stErr l = 5) := Lib.hid (by rw [H.out, HE.out, HS.out, if_pos hkb])
            clear hkb
            go_wp2_with fail
            go_ret
            exact ⟨by rw [HF.out]; rfl, hG01⟩
          | true =>
            cases hle : leB p.1 b with
            | true =>
              have HF : Hid (stErr l = 7) := Lib.hid (by rw [H.out, HE.out, HS.out, if_neg (by simp [hkb]), if_pos hle])
              unfold leB at hle
              clear hkb
              go_wp2_with fail
              go_ret
              exact ⟨by rw [HF.out]; rfl, hG01⟩
            | false =>
              have HL := Lib.hid hle
              have HK := Lib.hid hkb
              unfold leB at hle
              clear hkb
              have hc14 : ∀ j v, (hrC p.2).toList[j]? = some v → w1.cell? ((⟨wr.heap.size, 1, none⟩ : Addr).add j) = some v := by
                intro j v hv
                rw [add_at, hB1.cell]
                rw [Array.getElem?_toList] at hv
                rw [show (#[Value.string p.1, .int .i64 (p.2 0), .int .i64 (p.2 1), .int .i64 (p.2 2), .int .i64 (p.2 3), .int .i64 (p.2 4), .int .i64 (p.2 5), .int .i64 (p.2 6), .int .i64 (p.2 7), .int .i64 (p.2 8), .int .i64 (p.2 9), .int .i64 (p.2 10), .int .i64 (p.2 11), .int .i64 (p.2 12), .int .i64 (p.2 13)] : Array Value) = #[.string p.1] ++ hrC p.2 from rfl, Array.getElem?_append_right (by simp)]
                simpa using hv
              have H14 := Lib.hid hc14
              clear hc14
              go_wp2_with (refine wpList_load_at rfl 28 _ rfl ⟨wr.heap.size, 1, none⟩ rfl (hrC p.2) _ H14.out Tryd.underlying28 rfl (hr_info _) ?_)
              clear c0
              go_loopw [31] (DaysRel w1 p.2) (fun i _ => 7 - (intOf i).toNat)
              case atStart => exact ⟨0, by omega, rfl, rfl, G.refl _ _⟩
              case round =>
                obtain ⟨d, hd7, rfl, hall, hGd⟩ := hrel
                have HA := Lib.hid hall
                clear hall
                have hG3 := hG01.trans hGd
                by_cases hd : d < 7
                · have hix := fun w => index_hr p.2 d hd w
                  by_cases hin : inB (p.2 (d * 2)) 0 (p.2 (d * 2 + 1)) = true
                  · by_cases h3 : p.2 (d * 2 + 1) ≤ 1440
                    · have HN := Lib.hid (show (List.range (d + 1)).all (okDay p.2) = true by rw [range_snoc, HA.out, okDay, hin]; simp [h3])
                      have HI := Lib.hid hin
                      clear hin
                      go_wp2_with fail
                      refine (in_c _ _ _ _).mono ?_; rintro e w' ⟨rfl, rfl⟩
                      rw [HI.out]
                      go_wp2_with fail
                      go_roundw
                      case rel => exact ⟨d + 1, by omega, by go_num, HN.out, hGd.alloc _⟩
                      case measure => simp [intOf]; omega
                    · have HF : Hid (stErr l = 1) := Lib.hid (by rw [H.out, HE.out, HS.out, if_neg (by simp [HK.out]), if_neg (by simp [HL.out]), if_pos (okHrs_no hd (by rw [okDay, hin]; simp [h3]))])
                      have HI := Lib.hid hin
                      clear hin
                      go_wp2_with fail
                      refine (in_c _ _ _ _).mono ?_; rintro e w' ⟨rfl, rfl⟩
                      rw [HI.out]
                      go_wp2_with fail
                      go_ret
                      exact ⟨by rw [HF.out]; rfl, hG3.alloc _⟩
                  · have hin' : inB (p.2 (d * 2)) 0 (p.2 (d * 2 + 1)) = false := by simpa using hin
                    have HF : Hid (stErr l = 1) := Lib.hid (by rw [H.out, HE.out, HS.out, if_neg (by simp [HK.out]), if_neg (by simp [HL.out]), if_pos (okHrs_no hd (by rw [okDay, hin']; rfl))])
                    have HI := Lib.hid hin'
                    clear hin hin'
                    go_wp2_with fail
                    refine (in_c _ _ _ _).mono ?_; rintro e w' ⟨rfl, rfl⟩
                    rw [HI.out]
                    go_wp2_with fail
                    go_ret
                    exact ⟨by rw [HF.out]; rfl, hG3.alloc _⟩
                · obtain rfl : d = 7 := by omega
                  have HF : Hid (staErr ⟨#[]⟩ l = staErr p.1 (l.drop (k + 1))) := Lib.hid (by rw [HE.out, HS.out, if_neg (by simp [HK.out]), if_neg (by simp [HL.out]), if_neg (by rw [okHrs_yes HA.out]; simp)])
                  go_wp2_with fail
                  go_roundw
                  case rel => exact ⟨k + 1, p.1, by omega, by go_num, rfl, HF.out, hG3⟩
                  case measure => simp [intOf]; omega
      · obtain rfl : k = l.length := by omega
        have HE2 : Hid (stErr l = 0) := Lib.hid (by rw [H.out, HE.out, List.drop_length]; rfl)
        go_wp2_with fail
        go_ret
        exact ⟨by rw [HE2.out]; rfl, hG⟩
end Go.Proofs.YtjdkdnnbckogjaaDoor
