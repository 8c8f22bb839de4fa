/- Codes: checkTime, checkBestCode. -/
import Derived.Test.YtgofeigebldkiaaDoorCdk
import Derived.Test.YtgofeigebldkiaaDoorTim
namespace Go.Proofs.YtgofeigebldkiaaDoor
open Go.RowKit

def cbE (l : List Cd) (ks : List ByteArray) (k : ByteArray) (a z c : Int) : Int := if cdE l = 0 then (if askE l ks = 0 then (if keyB k = false then 5 else if tE a z = 0 then (if inB c 0 1000000000 = false then 1 else 0) else tE a z) else askE l ks) else cdE l
set_option maxRecDepth 100000 in
theorem checkTime_c (a z : Int) (w : World) (ha : bnd a) (hz : bnd z) : Calls Tryd.prog 105 #[.agg #[.int .i64 a, .int .i64 z]] w fun e w' => e = .returned (.int .i64 (tE a z)) ∧ G w w' none := by
  have hB := Bk.new w 29 #[.int .i64 a, .int .i64 z]
  have hG := (G.refl w none).alloc (.cells #[.int .i64 a, .int .i64 z] 29)
  go_enter Tryd.func105, Tryd.ntmps105
  go_wp2_with (refine wpList_load_row rfl 29 _ rfl w.heap.size rfl 29 #[.int .i64 a, .int .i64 z] (0, 0) _ hB Tryd.underlying29 rfl (wi_info a z) ?_)
  refine (days_c a z _ ha hz).mono ?_; rintro e w1 ⟨rfl, hG1⟩
  obtain ⟨E, hE⟩ : ∃ E, tE a z = E := ⟨_, rfl⟩
  have HE := Lib.hid hE
  rw [hE]
  clear hE
  generalize tN a z = N
  go_wp2_with fail
  go_ret
  exact ⟨by rw [HE.out]; rfl, hG.trans hG1⟩
set_option maxRecDepth 100000 in
set_option maxHeartbeats 4000000 in
theorem checkBestCode_c (v u : Value) (l : List Cd) (ks : List ByteArray) (k : ByteArray) (a z c : Int) (w : World) (hr : RdR w 6 cdC v l) (hl : CdOk l) (hn : l.length ≤ 1000) (hs : RdS w u ks) (hk1 : ks.length ≤ 1000) (hk : Small k) (ha : bnd a) (hz : bnd z) :
    Calls Tryd.prog 72 #[v, u, .string k, .agg #[.int .i64 a, .int .i64 z], .int .i64 c] w fun e w' => e = .returned (.int .i64 (cbE l ks k a z c)) ∧ G w w' none := by
  have hmf : ∀ (fn : Go.Fn) (first cap : Array Value) (w : World), (Instr.makeFunc fn first cap).run Tryd.prog w = .ok (.func fn first cap) w := fun _ _ _ _ => rfl
  obtain ⟨ad, cap, rfl, hcap, hm⟩ := RdR.form hr
  have HC : Hid (cbE l ks k a z c = if cdE l = 0 then (if askE l ks = 0 then (if keyB k = false then 5 else if tE a z = 0 then (if inB c 0 1000000000 = false then 1 else 0) else tE a z) else askE l ks) else cdE l) := Lib.hid rfl
  have hG0 := ((G.refl w none).alloc (.cells #[.slice ad l.length cap] 62)).alloc (.cells #[.int .i64 a, .int .i64 z] 29)
  have HR := Lib.hid (hr.quiet hG0)
  have HS := Lib.hid (hs.quiet hG0)
  have hBv := (Bk.new w 62 #[.slice ad l.length cap]).alloc (.cells #[.int .i64 a, .int .i64 z] 29)
  have hBw := Bk.newAt (w := w.alloc (.cells #[.slice ad l.length cap] 62)) (b := w.heap.size + 1) (by simp) 29 #[.int .i64 a, .int .i64 z]
  have HH := Lib.hid (And.intro hl (And.intro ha hz))
  unfold Small at hk
  clear hr hs hl ha hz
  go_enter Tryd.func72, Tryd.ntmps72
  go_wp2_with fail
  refine (checkCodes_c _ l _ HR.out HH.out.1 hn).mono ?_; rintro e w1 ⟨rfl, hG1⟩
  have hBv1 := hBv.quiet hG1
  have hBw1 := hBw.quiet hG1
  have hG01 := hG0.trans hG1
  have HR1 := Lib.hid (HR.out.quiet hG1)
  have HS1 := Lib.hid (HS.out.quiet hG1)
  clear hBv hBw hG0 hG1 HR HS
  by_cases h0 : cdE l = 0
  · have HC1 : Hid (cbE l ks k a z c = if askE l ks = 0 then (if keyB k = false then 5 else if tE a z = 0 then (if inB c 0 1000000000 = false then 1 else 0) else tE a z) else askE l ks) := Lib.hid (by rw [HC.out, if_pos h0])
    rw [h0]
    clear h0 HC
    go_wp2_with fail
    refine (checkAsked_c _ u l ks w.heap.size _ HR1.out hn hBv1 HS1.out hk1).mono ?_; rintro e w2 ⟨rfl, hG2⟩
    have hBw2 := hBw1.quiet hG2
    have hG02 := hG01.trans hG2
    clear hBv1 hBw1 hG01 hG2 HR1 HS1
    by_cases h1 : askE l ks = 0
    · have HC2 : Hid (cbE l ks k a z c = if keyB k = false then 5 else if tE a z = 0 then (if inB c 0 1000000000 = false then 1 else 0) else tE a z) := Lib.hid (by rw [HC1.out, if_pos h1])
      rw [h1]
      clear h1 HC1
      go_wp2_with fail
      refine (isKey_c k _ hk).mono ?_; rintro e w' ⟨rfl, rfl⟩
      cases hkb : keyB k with
      | false =>
        have HF : Hid (cbE l ks k a z c = 5) := Lib.hid (by rw [HC2.out, if_pos hkb])
        clear hkb
        go_wp2_with fail
        go_ret
        exact ⟨by rw [HF.out]; rfl, hG02⟩
      | true =>
        have HC3 : Hid (cbE l ks k a z c = if tE a z = 0 then (if inB c 0 1000000000 = false then 1 else 0) else tE a z) := Lib.hid (by rw [HC2.out, if_neg (by simp [hkb])])
        clear hkb HC2
        go_wp2_with (refine wpList_load_row rfl 29 _ rfl (w.heap.size + 1) rfl 29 #[.int .i64 a, .int .i64 z] (0, 0) _ hBw2 Tryd.underlying29 rfl (wi_info a z) ?_)
        refine (checkTime_c a z _ HH.out.2.1 HH.out.2.2).mono ?_; rintro e w3 ⟨rfl, hG3⟩
        have hG03 := hG02.trans hG3
        clear hG02 hG3 hBw2
        by_cases h2 : tE a z = 0
        · have HC4 : Hid (cbE l ks k a z c = if inB c 0 1000000000 = false then 1 else 0) := Lib.hid (by rw [HC3.out, if_pos h2])
          rw [h2]
          clear h2 HC3
          go_wp2_with fail
          refine (within_c _ _ _ _).mono ?_; rintro e w' ⟨rfl, rfl⟩
          cases hc : inB c 0 1000000000 with
          | false =>
            have HF : Hid (cbE l ks k a z c = 1) := Lib.hid (by rw [HC4.out, if_pos hc])
            go_wp2_with fail
            go_ret
            exact ⟨by rw [HF.out]; rfl, hG03⟩
          | true =>
            have HF : Hid (cbE l ks k a z c = 0) := Lib.hid (by rw [HC4.out, if_neg (by simp [hc])])
            go_wp2_with fail
            go_ret
            exact ⟨by rw [HF.out]; rfl, hG03⟩
        · have HF : Hid (cbE l ks k a z c = tE a z) := Lib.hid (by rw [HC3.out, if_neg h2])
          have h2' : (tE a z != 0) = true := by rw [bne_iff_ne]; exact h2
          clear h2 HC3
          generalize tE a z = E at h2' HF ⊢
          go_wp2_with fail
          go_ret
          exact ⟨by rw [HF.out]; rfl, hG03⟩
    · have HF : Hid (cbE l ks k a z c = askE l ks) := Lib.hid (by rw [HC1.out, if_neg h1])
      have h1' : (askE l ks != 0) = true := by rw [bne_iff_ne]; exact h1
      clear h1 HC1
      generalize askE l ks = E at h1' HF ⊢
      go_wp2_with fail
      go_ret
      exact ⟨by rw [HF.out]; rfl, hG02⟩
  · have HF : Hid (cbE l ks k a z c = cdE l) := Lib.hid (by rw [HC.out, if_neg h0])
    have h0' : (cdE l != 0) = true := by rw [bne_iff_ne]; exact h0
    clear h0 HC
    generalize cdE l = E at h0' HF ⊢
    go_wp2_with fail
    go_ret
    exact ⟨by rw [HF.out]; rfl, hG01⟩
end Go.Proofs.YtgofeigebldkiaaDoor
