/- lot.Above, lot.Steps. -/
import Derived.Test.YtjjgohainbjecaaDoorLad
import Derived.OwnWalk
namespace Go.Proofs.YtjjgohainbjecaaDoor
open Go.RowKit

def abE (l : List Cla) (key : ByteArray) : Int := if clErr l = 0 then (if (upS l key).isSome = true then 0 else 8) else clErr l
def abL (l : List Cla) (key : ByteArray) : List ByteArray := if abE l key = 0 then upsK (upS l) (l.length + 1) key else []
theorem RdS.nil (w : World) : RdS w (.slice none 0 0) [] := ⟨none, 0, rfl, Nat.le_refl _, Nat.zero_le _, rfl, fun _ => ⟨rfl, rfl⟩, fun b hb => by cases hb⟩
theorem OwnSs.form {w : World} {base : Nat} {v : Value} {s : ByteArray} {l : List ByteArray} (h : OwnSs w base v (s :: l)) : ∃ g cap, v = .slice (some ⟨g, 0, none⟩) (l.length + 1) cap := by
  obtain ⟨h1, h2⟩ := h
  rcases h2 with ⟨_, h3⟩ | ⟨g, cap, cur, rfl, _⟩
  · simp at h3
  · exact ⟨g, cap, rfl⟩
/-- The tail of a row of the call's own. -/
theorem RdS.tail {w : World} {base g n cap : Nat} {s : ByteArray} {l : List ByteArray} (h : OwnSs w base (.slice (some ⟨g, 0, none⟩) n cap) (s :: l)) : RdS w (.slice (some ⟨g, 1, none⟩) l.length (cap - 1)) l := by
  obtain ⟨a, c, e, h1, h2, h3, h4, h5⟩ := h.rd
  obtain ⟨rfl, rfl, rfl⟩ : some ⟨g, 0, none⟩ = a ∧ n = (s :: l).length ∧ cap = c := by cases e; exact ⟨rfl, rfl, rfl⟩
  obtain ⟨q1, q2, q3⟩ := h5 _ rfl
  simp only [List.length_cons] at h1
  refine ⟨_, cap - 1, rfl, by omega, by omega, by simp, (fun e => by cases e), fun b hb => ?_⟩
  obtain rfl := Option.some.inj hb
  refine ⟨rfl, q2, fun j u hj => ?_⟩
  have := q3 (j + 1) u (by simpa using hj)
  simp only [Nat.zero_add] at this
  rw [Nat.add_comm]
  exact this
theorem RdS.point {w : World} {g o n c : Nat} {l : List ByteArray} (h : RdS w (.slice (some ⟨g, o, none⟩) n c) l) (h0 : l.length = 0) : RdS w (.slice (some ⟨g, 0, none⟩) l.length 0) l := by
  obtain ⟨a, c', e, h1, h2, h3, h4, h5⟩ := h
  obtain rfl : some ⟨g, o, none⟩ = a := by cases e; rfl
  obtain ⟨q1, q2, q3⟩ := h5 _ rfl
  obtain rfl := List.length_eq_zero_iff.1 h0
  refine ⟨_, 0, rfl, Nat.le_refl _, Nat.zero_le _, rfl, (fun e => by cases e), fun b hb => ?_⟩
  obtain rfl := Option.some.inj hb
  exact ⟨rfl, q2, fun j u hj => by simp at hj⟩
theorem key_ne {l : List Cla} {key : ByteArray} (h0 : clErr l = 0) (h : (upS l key).isSome = true) : key ≠ eS := by
  intro e
  subst e
  rw [upS_none (ck_ne (clErr_parts h0).1)] at h
  cases h
theorem lad_parts {l : List Cla} {key : ByteArray} (h0 : clErr l = 0) (h : (upS l key).isSome = true) : ladK (upS l) (l.length + 2) key = key :: upsK (upS l) (l.length + 1) key ∧ it (upS l) (l.length + 2) key = eS :=
  ⟨ladK_eq _ _ _ (key_ne h0 h), it_stays (upS_none (ck_ne (clErr_parts h0).1)) (it_ends h0 key) (by omega)⟩
set_option maxRecDepth 100000 in
set_option maxHeartbeats 2000000 in
theorem above_c (v : Value) (l : List Cla) (key : ByteArray) (w : World) (hr : Rd w 2 v l.length (clL l)) (hl : ClsOk l) (hn : l.length ≤ 100) (hk : Small key) :
    Calls Tryd.prog 6 #[v, .string key] w fun e w' => ∃ x, e = .returned (.tuple #[x, .int .i64 (abE l key)]) ∧ RdS w' x (abL l key) ∧ G w w' none := by
  have HR := Lib.hid hr
  clear hr
  by_cases h0 : clErr l = 0
  · have HU := Lib.hid (upS_ok hl)
    have hcc := upC_le 0 eF l
    cases hso : (upS l key).isSome with
    | true =>
      obtain ⟨hl1, hl2⟩ := lad_parts h0 hso
      have HE : Hid (abE l key = 0) := Lib.hid (by simp [abE, h0, hso])
      have HL : Hid (abL l key = upsK (upS l) (l.length + 1) key) := Lib.hid (by rw [abL, if_pos HE.out])
      have HL1 := Lib.hid hl1
      have HL2 := Lib.hid hl2
      clear hl1 hl2
      go_enter Tryd.func6, Tryd.ntmps6
      go_wp2_with fail
      refine (checkClasses_c v l _ HR.out hl (by omega)).mono ?_; rintro e w1 ⟨rfl, hG1⟩
      rw [h0]
      go_wp2_with fail
      refine (upsOf_c v l _ (HR.out.quiet hG1) hl (by omega)).mono ?_; rintro e w2 ⟨b, rfl, hb, hM, hG2⟩
      rw [upF_sv] at hM
      have hG := hG1.trans hG2
      clear hG1 hG2 hb
      generalize upS l = u at hM HU HL HL1 HL2 hso
      generalize upC 0 eF l = c at hM hcc
      go_wp2_with (at_lookup; refine wpS_look_ok rfl _ _ rfl b c u rfl hM key rfl hk ?_)
      refine (ladder_c b c (l.length + 2) u key w2 hM HU.out hk (by omega) HL2.out).mono ?_; rintro e w3 ⟨x, rfl, hown, hG3⟩
      rw [HL1.out] at hown
      have hG03 := hG.trans hG3
      clear hG hG3 hM
      have HO := Lib.hid hown
      obtain ⟨g, cap, rfl⟩ := OwnSs.form hown
      have ht := RdS.tail hown
      obtain ⟨a', c', e', r1, r2, r3, r4, r5⟩ := OwnSs.rd hown
      obtain ⟨rfl, rfl⟩ : a' = some ⟨g, 0, none⟩ ∧ cap = c' := by cases e'; exact ⟨rfl, rfl⟩
      simp only [List.length_cons] at r1
      clear r3 r4 r5 e' hown
      have HT := Lib.hid ht
      clear ht
      generalize upsK u (l.length + 1) key = rest at HT r1 HL
      go_wp2_with fail
      · go_ret2
        refine ⟨_, by rw [HE.out]; rfl, ?_, hG03⟩
        rw [HL.out]
        exact RdS.point HT.out (by omega)
      · go_ret2
        exact ⟨_, by rw [HE.out]; rfl, by rw [HL.out]; exact HT.out, hG03⟩
    | false =>
      have HE : Hid (abE l key = 8) := Lib.hid (by simp [abE, h0, hso])
      have HL : Hid (abL l key = []) := Lib.hid (by rw [abL, if_neg (by rw [HE.out]; decide)])
      go_enter Tryd.func6, Tryd.ntmps6
      go_wp2_with fail
      refine (checkClasses_c v l _ HR.out hl (by omega)).mono ?_; rintro e w1 ⟨rfl, hG1⟩
      rw [h0]
      go_wp2_with fail
      refine (upsOf_c v l _ (HR.out.quiet hG1) hl (by omega)).mono ?_; rintro e w2 ⟨b, rfl, hb, hM, hG2⟩
      rw [upF_sv] at hM
      have hG := hG1.trans hG2
      clear hG1 hG2 hb
      generalize upS l = u at hM HU hso
      generalize upC 0 eF l = c at hM hcc
      go_wp2_with (at_lookup; refine wpS_look_ok rfl _ _ rfl b c u rfl hM key rfl hk ?_)
      go_ret2
      exact ⟨_, by rw [HE.out]; rfl, by rw [HL.out]; exact RdS.nil _, hG⟩
  · have HE : Hid (abE l key = clErr l) := Lib.hid (by simp [abE, h0])
    have HL : Hid (abL l key = []) := Lib.hid (by rw [abL, if_neg (by rw [HE.out]; exact h0)])
    have h1 : (clErr l != 0) = true := by rw [bne_iff_ne]; exact h0
    clear h0
    go_enter Tryd.func6, Tryd.ntmps6
    go_wp2_with fail
    refine (checkClasses_c v l _ HR.out hl (by omega)).mono ?_; rintro e w1 ⟨rfl, hG1⟩
    go_wp2_with fail
    go_ret2
    exact ⟨_, by rw [HE.out]; rfl, by rw [HL.out]; exact RdS.nil _, hG1⟩

/-! ### Steps -/
def spE (l : List Cla) (want have_ : ByteArray) : Int := if abE l want = 0 then abE l have_ else abE l want
def spI (l : List Cla) (want have_ : ByteArray) : Int := idxF have_ (want :: upsK (upS l) (l.length + 1) want) 0
def spN (l : List Cla) (want have_ : ByteArray) : Int := if spE l want have_ = 0 then (if spI l want have_ < 0 then 0 else spI l want have_) else 0
def spB (l : List Cla) (want have_ : ByteArray) : Bool := if spE l want have_ = 0 then decide (0 ≤ spI l want have_) else false
set_option maxRecDepth 100000 in
set_option maxHeartbeats 4000000 in
theorem steps_c (v : Value) (l : List Cla) (want have_ : ByteArray) (w : World) (hr : Rd w 2 v l.length (clL l)) (hl : ClsOk l) (hn : l.length ≤ 100) (hk : Small want) (hk2 : Small have_) :
    Calls Tryd.prog 7 #[v, .string want, .string have_] w fun e w' => e = .returned (.tuple #[.int .i64 (spN l want have_), .bool (spB l want have_), .int .i64 (spE l want have_)]) ∧ G w w' none := by
  have HR := Lib.hid hr
  clear hr
  by_cases h0 : clErr l = 0
  · have HU := Lib.hid (upS_ok hl)
    have hcc := upC_le 0 eF l
    cases hso : (upS l want).isSome with
    | true =>
      have HE1 : Hid (abE l want = 0) := Lib.hid (by simp [abE, h0, hso])
      cases hso2 : (upS l have_).isSome with
      | true =>
        have HE : Hid (spE l want have_ = 0) := Lib.hid (by simp [spE, abE, h0, hso, hso2])
        obtain ⟨hl1, hl2⟩ := lad_parts h0 hso
        have HN : Hid (spN l want have_ = if spI l want have_ < 0 then 0 else spI l want have_) := Lib.hid (by rw [spN, if_pos HE.out])
        have HB : Hid (spB l want have_ = decide (0 ≤ spI l want have_)) := Lib.hid (by rw [spB, if_pos HE.out])
        have HI : Hid (spI l want have_ = idxF have_ (want :: upsK (upS l) (l.length + 1) want) 0) := Lib.hid rfl
        have HL1 := Lib.hid hl1
        have HL2 := Lib.hid hl2
        clear hl1 hl2
        generalize spI l want have_ = x at HI HN HB
        go_enter Tryd.func7, Tryd.ntmps7
        go_wp2_with fail
        refine (checkClasses_c v l _ HR.out hl (by omega)).mono ?_; rintro e w1 ⟨rfl, hG1⟩
        rw [h0]
        go_wp2_with fail
        refine (upsOf_c v l _ (HR.out.quiet hG1) hl (by omega)).mono ?_; rintro e w2 ⟨b, rfl, hb, hM, hG2⟩
        rw [upF_sv] at hM
        have hG := hG1.trans hG2
        clear hG1 hG2 hb
        generalize upS l = u at hM HU hso hso2 HL1 HL2 HI
        generalize upC 0 eF l = c at hM hcc
        have hM3 := hM.alloc (.cells #[.string want, .string have_] 9)
        have hG3 := hG.alloc (.cells #[.string want, .string have_] 9)
        have hB3 := Bk.new w2 9 #[.string want, .string have_]
        have hc0 := hB3.cell 0
        have hc1 := hB3.cell 1
        rw [show (#[Value.string want, .string have_] : Array Value)[0]? = some (.string want) from rfl] at hc0
        rw [show (#[Value.string want, .string have_] : Array Value)[1]? = some (.string have_) from rfl] at hc1
        go_wp2_with fail
        refine wp_loop_rounds 3 ?_
        rw [rounds_succ]
        go_wp2_with (first | (at_lookup; refine wpS_look_ok rfl _ _ rfl b c u rfl hM3 want rfl hk ?_) | (at_lookup; refine wpS_look_ok rfl _ _ rfl b c u rfl hM3 have_ rfl hk2 ?_))
        rw [rounds_succ]
        go_wp2_with (first | (at_lookup; refine wpS_look_ok rfl _ _ rfl b c u rfl hM3 want rfl hk ?_) | (at_lookup; refine wpS_look_ok rfl _ _ rfl b c u rfl hM3 have_ rfl hk2 ?_))
        rw [rounds_succ]
        go_wp2_with fail
        refine (ladder_c b c (l.length + 2) u want _ hM3 HU.out hk (by omega) HL2.out).mono ?_; rintro e w3 ⟨y, rfl, hown, hG4⟩
        rw [HL1.out] at hown
        have hG03 := hG3.trans hG4
        have hul := upsK_len u (l.length + 1) want
        clear hG hG4 hM3 hM hB3 hc0 hc1
        go_wp2_with fail
        refine (sIndex_c y (want :: upsK u (l.length + 1) want) have_ w3 (OwnSs.rd hown) (by simp only [List.length_cons]; omega)).mono ?_; rintro e w' ⟨rfl, rfl⟩
        rw [← HI.out]
        clear hown
        by_cases hx : x < 0
        · go_wp2_with fail
          go_ret3
          exact ⟨by rw [HE.out, HN.out, HB.out, if_pos hx, decide_eq_false (by omega)]; rfl, hG03⟩
        · have hx' : 0 ≤ x := by omega
          go_wp2_with fail
          go_ret3
          exact ⟨by rw [HE.out, HN.out, HB.out, if_neg (by omega), decide_eq_true hx']; rfl, hG03⟩
      | false =>
        have HE : Hid (spE l want have_ = 8) := Lib.hid (by simp [spE, abE, h0, hso, hso2])
        have HN : Hid (spN l want have_ = 0) := Lib.hid (by rw [spN, if_neg (by rw [HE.out]; decide)])
        have HB : Hid (spB l want have_ = false) := Lib.hid (by rw [spB, if_neg (by rw [HE.out]; decide)])
        go_enter Tryd.func7, Tryd.ntmps7
        go_wp2_with fail
        refine (checkClasses_c v l _ HR.out hl (by omega)).mono ?_; rintro e w1 ⟨rfl, hG1⟩
        rw [h0]
        go_wp2_with fail
        refine (upsOf_c v l _ (HR.out.quiet hG1) hl (by omega)).mono ?_; rintro e w2 ⟨b, rfl, hb, hM, hG2⟩
        rw [upF_sv] at hM
        have hG := hG1.trans hG2
        clear hG1 hG2 hb
        generalize upS l = u at hM HU hso hso2
        generalize upC 0 eF l = c at hM hcc
        have hM3 := hM.alloc (.cells #[.string want, .string have_] 9)
        have hG3 := hG.alloc (.cells #[.string want, .string have_] 9)
        have hB3 := Bk.new w2 9 #[.string want, .string have_]
        have hc0 := hB3.cell 0
        have hc1 := hB3.cell 1
        rw [show (#[Value.string want, .string have_] : Array Value)[0]? = some (.string want) from rfl] at hc0
        rw [show (#[Value.string want, .string have_] : Array Value)[1]? = some (.string have_) from rfl] at hc1
        go_wp2_with fail
        refine wp_loop_rounds 3 ?_
        rw [rounds_succ]
        go_wp2_with (first | (at_lookup; refine wpS_look_ok rfl _ _ rfl b c u rfl hM3 want rfl hk ?_) | (at_lookup; refine wpS_look_ok rfl _ _ rfl b c u rfl hM3 have_ rfl hk2 ?_))
        rw [rounds_succ]
        go_wp2_with (first | (at_lookup; refine wpS_look_ok rfl _ _ rfl b c u rfl hM3 want rfl hk ?_) | (at_lookup; refine wpS_look_ok rfl _ _ rfl b c u rfl hM3 have_ rfl hk2 ?_))
        go_ret3
        exact ⟨by rw [HE.out, HN.out, HB.out]; rfl, hG3⟩
    | false =>
      have HE : Hid (spE l want have_ = 8) := Lib.hid (by simp [spE, abE, h0, hso])
      have HN : Hid (spN l want have_ = 0) := Lib.hid (by rw [spN, if_neg (by rw [HE.out]; decide)])
      have HB : Hid (spB l want have_ = false) := Lib.hid (by rw [spB, if_neg (by rw [HE.out]; decide)])
      go_enter Tryd.func7, Tryd.ntmps7
      go_wp2_with fail
      refine (checkClasses_c v l _ HR.out hl (by omega)).mono ?_; rintro e w1 ⟨rfl, hG1⟩
      rw [h0]
      go_wp2_with fail
      refine (upsOf_c v l _ (HR.out.quiet hG1) hl (by omega)).mono ?_; rintro e w2 ⟨b, rfl, hb, hM, hG2⟩
      rw [upF_sv] at hM
      have hG := hG1.trans hG2
      clear hG1 hG2 hb
      generalize upS l = u at hM HU hso
      generalize upC 0 eF l = c at hM hcc
      have hM3 := hM.alloc (.cells #[.string want, .string have_] 9)
      have hG3 := hG.alloc (.cells #[.string want, .string have_] 9)
      have hB3 := Bk.new w2 9 #[.string want, .string have_]
      have hc0 := hB3.cell 0
      rw [show (#[Value.string want, .string have_] : Array Value)[0]? = some (.string want) from rfl] at hc0
      go_wp2_with fail
      refine wp_loop_rounds 3 ?_
      rw [rounds_succ]
      go_wp2_with (first | (at_lookup; refine wpS_look_ok rfl _ _ rfl b c u rfl hM3 want rfl hk ?_) | (at_lookup; refine wpS_look_ok rfl _ _ rfl b c u rfl hM3 have_ rfl hk2 ?_))
      go_ret3
      exact ⟨by rw [HE.out, HN.out, HB.out]; rfl, hG3⟩
  · have HE : Hid (spE l want have_ = clErr l) := Lib.hid (by simp [spE, abE, h0])
    have h1 : (clErr l != 0) = true := by rw [bne_iff_ne]; exact h0
    have HN : Hid (spN l want have_ = 0) := Lib.hid (by rw [spN, if_neg (by rw [HE.out]; exact h0)])
    have HB : Hid (spB l want have_ = false) := Lib.hid (by rw [spB, if_neg (by rw [HE.out]; exact h0)])
    clear h0
    go_enter Tryd.func7, Tryd.ntmps7
    go_wp2_with fail
    refine (checkClasses_c v l _ HR.out hl (by omega)).mono ?_; rintro e w1 ⟨rfl, hG1⟩
    go_wp2_with fail
    go_ret3
    exact ⟨by rw [HE.out, HN.out, HB.out]; rfl, hG1⟩
end Go.Proofs.YtjjgohainbjecaaDoor
