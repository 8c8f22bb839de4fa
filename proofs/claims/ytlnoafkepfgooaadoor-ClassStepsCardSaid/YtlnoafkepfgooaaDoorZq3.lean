/- Abv, Upr, Rcf, Clw, Laid. -/
import Derived.Test.YtlnoafkepfgooaaDoorZq2
import Derived.OwnWalk
import Derived.Laws.AppendOwnNone
import Derived.Deep.RegionHeld3
import Derived.Test.YtlnoafkepfgooaaDoorRows
import Derived.Test.YtlnoafkepfgooaaDoorTie
import Derived.Test.YtlnoafkepfgooaaDoorCards
import Derived.LaidMore
import Derived.ChangeSame
import Derived.ProofKit
import Derived.OpenShut
import Derived.PinnedBridge
import Derived.Deep.DeepHandedRow
import Derived.Deep.DeepWitnessRowRef
/- lot.Above, lot.Steps. -/
namespace Go.Proofs.YtlnoafkepfgooaaDoor
open Go.RowKit

def abE (l : List Cla) (key : ByteArray) : Int := if clErr l = 0 then (if (upS l key).isSome = true then 0 else 8) else clErr l
def abL (l : List Cla) (key : ByteArray) : List ByteArray := if abE l key = 0 then upsK (upS l) (l.length + 1) key else []
theorem RdS.nil (w : World) : RdS w (.slice none 0 0) [] := ⟨none, 0, rfl, Nat.le_refl _, Nat.zero_le _, rfl, fun _ => ⟨rfl, rfl⟩, fun b hb => by cases hb⟩
theorem OwnSs.form {w : World} {base : Nat} {v : Value} {s : ByteArray} {l : List ByteArray} (h : OwnSs w base v (s :: l)) : ∃ g cap, v = .slice (some ⟨g, 0, none⟩) (l.length + 1) cap := by
  obtain ⟨h1, h2⟩ := h
  rcases h2 with ⟨_, h3⟩ | ⟨g, cap, cur, rfl, _⟩
  · simp at h3
  · exact ⟨g, cap, rfl⟩
/-- The tail of a row of the call's own. -/
theorem RdS.tail {w : World} {base g n cap : Nat} {s : ByteArray} {l : List ByteArray} (h : OwnSs w base (.slice (some ⟨g, 0, none⟩) n cap) (s :: l)) : RdS w (.slice (some ⟨g, 1, none⟩) l.length (cap - 1)) l := by
  obtain ⟨a, c, e, h1, h2, h3, h4, h5⟩ := h.rd
  obtain ⟨rfl, rfl, rfl⟩ : some ⟨g, 0, none⟩ = a ∧ n = (s :: l).length ∧ cap = c := by cases e; exact ⟨rfl, rfl, rfl⟩
  obtain ⟨q1, q2, q3⟩ := h5 _ rfl
  simp only [List.length_cons] at h1
  refine ⟨_, cap - 1, rfl, by omega, by omega, by simp, (fun e => by cases e), fun b hb => ?_⟩
  obtain rfl := Option.some.inj hb
  refine ⟨rfl, q2, fun j u hj => ?_⟩
  have := q3 (j + 1) u (by simpa using hj)
  simp only [Nat.zero_add] at this
  rw [Nat.add_comm]
  exact this
theorem RdS.point {w : World} {g o n c : Nat} {l : List ByteArray} (h : RdS w (.slice (some ⟨g, o, none⟩) n c) l) (h0 : l.length = 0) : RdS w (.slice (some ⟨g, 0, none⟩) l.length 0) l := by
  obtain ⟨a, c', e, h1, h2, h3, h4, h5⟩ := h
  obtain rfl : some ⟨g, o, none⟩ = a := by cases e; rfl
  obtain ⟨q1, q2, q3⟩ := h5 _ rfl
  obtain rfl := List.length_eq_zero_iff.1 h0
  refine ⟨_, 0, rfl, Nat.le_refl _, Nat.zero_le _, rfl, (fun e => by cases e), fun b hb => ?_⟩
  obtain rfl := Option.some.inj hb
  exact ⟨rfl, q2, fun j u hj => by simp at hj⟩
theorem key_ne {l : List Cla} {key : ByteArray} (h0 : clErr l = 0) (h : (upS l key).isSome = true) : key ≠ eS := by
  intro e
  subst e
  rw [upS_none (ck_ne (clErr_parts h0).1)] at h
  cases h
theorem lad_parts {l : List Cla} {key : ByteArray} (h0 : clErr l = 0) (h : (upS l key).isSome = true) : ladK (upS l) (l.length + 2) key = key :: upsK (upS l) (l.length + 1) key ∧ it (upS l) (l.length + 2) key = eS :=
  ⟨ladK_eq _ _ _ (key_ne h0 h), it_stays (upS_none (ck_ne (clErr_parts h0).1)) (it_ends h0 key) (by omega)⟩
set_option maxRecDepth 100000 in
set_option maxHeartbeats 2000000 in
theorem above_c (v : Value) (l : List Cla) (key : ByteArray) (w : World) (hr : Rd w 2 v l.length (clL l)) (hl : ClsOk l) (hn : l.length ≤ 100) (hk : Small key) :
    Calls Tryd.prog 22 #[v, .string key] w fun e w' => ∃ x, e = .returned (.tuple #[x, .int .i64 (abE l key)]) ∧ RdS w' x (abL l key) ∧ G w w' none := by
  have HR := Lib.hid hr
  clear hr
  by_cases h0 : clErr l = 0
  · have HU := Lib.hid (upS_ok hl)
    have hcc := upC_le 0 eF l
    cases hso : (upS l key).isSome with
    | true =>
      obtain ⟨hl1, hl2⟩ := lad_parts h0 hso
      have HE : Hid (abE l key = 0) := Lib.hid (by simp [abE, h0, hso])
      have HL : Hid (abL l key = upsK (upS l) (l.length + 1) key) := Lib.hid (by rw [abL, if_pos HE.out])
      have HL1 := Lib.hid hl1
      have HL2 := Lib.hid hl2
      clear hl1 hl2
      go_enter Tryd.func22, Tryd.ntmps22
      go_wp2_with fail
      refine (checkClasses_c v l _ HR.out hl (by omega)).mono ?_; rintro e w1 ⟨rfl, hG1⟩
      rw [h0]
      go_wp2_with fail
      refine (upsOf_c v l _ (HR.out.quiet hG1) hl (by omega)).mono ?_; rintro e w2 ⟨b, rfl, hb, hM, hG2⟩
      rw [upF_sv] at hM
      have hG := hG1.trans hG2
      clear hG1 hG2 hb
      generalize upS l = u at hM HU HL HL1 HL2 hso
      generalize upC 0 eF l = c at hM hcc
      go_wp2_with (at_lookup; refine wpS_look_ok rfl _ _ rfl b c u rfl hM key rfl hk ?_)
      refine (ladder_c b c (l.length + 2) u key w2 hM HU.out hk (by omega) HL2.out).mono ?_; rintro e w3 ⟨x, rfl, hown, hG3⟩
      rw [HL1.out] at hown
      have hG03 := hG.trans hG3
      clear hG hG3 hM
      have HO := Lib.hid hown
      obtain ⟨g, cap, rfl⟩ := OwnSs.form hown
      have ht := RdS.tail hown
      obtain ⟨a', c', e', r1, r2, r3, r4, r5⟩ := OwnSs.rd hown
      obtain ⟨rfl, rfl⟩ : a' = some ⟨g, 0, none⟩ ∧ cap = c' := by cases e'; exact ⟨rfl, rfl⟩
      simp only [List.length_cons] at r1
      clear r3 r4 r5 e' hown
      have HT := Lib.hid ht
      clear ht
      generalize upsK u (l.length + 1) key = rest at HT r1 HL
      go_wp2_with fail
      · go_ret2
        refine ⟨_, by rw [HE.out]; rfl, ?_, hG03⟩
        rw [HL.out]
        exact RdS.point HT.out (by omega)
      · go_ret2
        exact ⟨_, by rw [HE.out]; rfl, by rw [HL.out]; exact HT.out, hG03⟩
    | false =>
      have HE : Hid (abE l key = 8) := Lib.hid (by simp [abE, h0, hso])
      have HL : Hid (abL l key = []) := Lib.hid (by rw [abL, if_neg (by rw [HE.out]; decide)])
      go_enter Tryd.func22, Tryd.ntmps22
      go_wp2_with fail
      refine (checkClasses_c v l _ HR.out hl (by omega)).mono ?_; rintro e w1 ⟨rfl, hG1⟩
      rw [h0]
      go_wp2_with fail
      refine (upsOf_c v l _ (HR.out.quiet hG1) hl (by omega)).mono ?_; rintro e w2 ⟨b, rfl, hb, hM, hG2⟩
      rw [upF_sv] at hM
      have hG := hG1.trans hG2
      clear hG1 hG2 hb
      generalize upS l = u at hM HU hso
      generalize upC 0 eF l = c at hM hcc
      go_wp2_with (at_lookup; refine wpS_look_ok rfl _ _ rfl b c u rfl hM key rfl hk ?_)
      go_ret2
      exact ⟨_, by rw [HE.out]; rfl, by rw [HL.out]; exact RdS.nil _, hG⟩
  · have HE : Hid (abE l key = clErr l) := Lib.hid (by simp [abE, h0])
    have HL : Hid (abL l key = []) := Lib.hid (by rw [abL, if_neg (by rw [HE.out]; exact h0)])
    have h1 : (clErr l != 0) = true := by rw [bne_iff_ne]; exact h0
    clear h0
    go_enter Tryd.func22, Tryd.ntmps22
    go_wp2_with fail
    refine (checkClasses_c v l _ HR.out hl (by omega)).mono ?_; rintro e w1 ⟨rfl, hG1⟩
    go_wp2_with fail
    go_ret2
    exact ⟨_, by rw [HE.out]; rfl, by rw [HL.out]; exact RdS.nil _, hG1⟩

/-! ### Steps -/
def spE (l : List Cla) (want have_ : ByteArray) : Int := if abE l want = 0 then abE l have_ else abE l want
def spI (l : List Cla) (want have_ : ByteArray) : Int := idxF have_ (want :: upsK (upS l) (l.length + 1) want) 0
def spN (l : List Cla) (want have_ : ByteArray) : Int := if spE l want have_ = 0 then (if spI l want have_ < 0 then 0 else spI l want have_) else 0
def spB (l : List Cla) (want have_ : ByteArray) : Bool := if spE l want have_ = 0 then decide (0 ≤ spI l want have_) else false
set_option maxRecDepth 100000 in
set_option maxHeartbeats 4000000 in
theorem steps_c (v : Value) (l : List Cla) (want have_ : ByteArray) (w : World) (hr : Rd w 2 v l.length (clL l)) (hl : ClsOk l) (hn : l.length ≤ 100) (hk : Small want) (hk2 : Small have_) :
    Calls Tryd.prog 23 #[v, .string want, .string have_] w fun e w' => e = .returned (.tuple #[.int .i64 (spN l want have_), .bool (spB l want have_), .int .i64 (spE l want have_)]) ∧ G w w' none := by
  have HR := Lib.hid hr
  clear hr
  by_cases h0 : clErr l = 0
  · have HU := Lib.hid (upS_ok hl)
    have hcc := upC_le 0 eF l
    cases hso : (upS l want).isSome with
    | true =>
      have HE1 : Hid (abE l want = 0) := Lib.hid (by simp [abE, h0, hso])
      cases hso2 : (upS l have_).isSome with
      | true =>
        have HE : Hid (spE l want have_ = 0) := Lib.hid (by simp [spE, abE, h0, hso, hso2])
        obtain ⟨hl1, hl2⟩ := lad_parts h0 hso
        have HN : Hid (spN l want have_ = if spI l want have_ < 0 then 0 else spI l want have_) := Lib.hid (by rw [spN, if_pos HE.out])
        have HB : Hid (spB l want have_ = decide (0 ≤ spI l want have_)) := Lib.hid (by rw [spB, if_pos HE.out])
        have HI : Hid (spI l want have_ = idxF have_ (want :: upsK (upS l) (l.length + 1) want) 0) := Lib.hid rfl
        have HL1 := Lib.hid hl1
        have HL2 := Lib.hid hl2
        clear hl1 hl2
        generalize spI l want have_ = x at HI HN HB
        go_enter Tryd.func23, Tryd.ntmps23
        go_wp2_with fail
        refine (checkClasses_c v l _ HR.out hl (by omega)).mono ?_; rintro e w1 ⟨rfl, hG1⟩
        rw [h0]
        go_wp2_with fail
        refine (upsOf_c v l _ (HR.out.quiet hG1) hl (by omega)).mono ?_; rintro e w2 ⟨b, rfl, hb, hM, hG2⟩
        rw [upF_sv] at hM
        have hG := hG1.trans hG2
        clear hG1 hG2 hb
        generalize upS l = u at hM HU hso hso2 HL1 HL2 HI
        generalize upC 0 eF l = c at hM hcc
        have hM3 := hM.alloc (.cells #[.string want, .string have_] 9)
        have hG3 := hG.alloc (.cells #[.string want, .string have_] 9)
        have hB3 := Bk.new w2 9 #[.string want, .string have_]
        have hc0 := hB3.cell 0
        have hc1 := hB3.cell 1
        rw [show (#[Value.string want, .string have_] : Array Value)[0]? = some (.string want) from rfl] at hc0
        rw [show (#[Value.string want, .string have_] : Array Value)[1]? = some (.string have_) from rfl] at hc1
        go_wp2_with fail
        refine wp_loop_rounds 3 ?_
        rw [rounds_succ]
        go_wp2_with (first | (at_lookup; refine wpS_look_ok rfl _ _ rfl b c u rfl hM3 want rfl hk ?_) | (at_lookup; refine wpS_look_ok rfl _ _ rfl b c u rfl hM3 have_ rfl hk2 ?_))
        rw [rounds_succ]
        go_wp2_with (first | (at_lookup; refine wpS_look_ok rfl _ _ rfl b c u rfl hM3 want rfl hk ?_) | (at_lookup; refine wpS_look_ok rfl _ _ rfl b c u rfl hM3 have_ rfl hk2 ?_))
        rw [rounds_succ]
        go_wp2_with fail
        refine (ladder_c b c (l.length + 2) u want _ hM3 HU.out hk (by omega) HL2.out).mono ?_; rintro e w3 ⟨y, rfl, hown, hG4⟩
        rw [HL1.out] at hown
        have hG03 := hG3.trans hG4
        have hul := upsK_len u (l.length + 1) want
        clear hG hG4 hM3 hM hB3 hc0 hc1
        go_wp2_with fail
        refine (sIndex_c y (want :: upsK u (l.length + 1) want) have_ w3 (OwnSs.rd hown) (by simp only [List.length_cons]; omega)).mono ?_; rintro e w' ⟨rfl, rfl⟩
        rw [← HI.out]
        clear hown
        by_cases hx : x < 0
        · go_wp2_with fail
          go_ret3
          exact ⟨by rw [HE.out, HN.out, HB.out, if_pos hx, decide_eq_false (by omega)]; rfl, hG03⟩
        · have hx' : 0 ≤ x := by omega
          go_wp2_with fail
          go_ret3
          exact ⟨by rw [HE.out, HN.out, HB.out, if_neg (by omega), decide_eq_true hx']; rfl, hG03⟩
      | false =>
        have HE : Hid (spE l want have_ = 8) := Lib.hid (by simp [spE, abE, h0, hso, hso2])
        have HN : Hid (spN l want have_ = 0) := Lib.hid (by rw [spN, if_neg (by rw [HE.out]; decide)])
        have HB : Hid (spB l want have_ = false) := Lib.hid (by rw [spB, if_neg (by rw [HE.out]; decide)])
        go_enter Tryd.func23, Tryd.ntmps23
        go_wp2_with fail
        refine (checkClasses_c v l _ HR.out hl (by omega)).mono ?_; rintro e w1 ⟨rfl, hG1⟩
        rw [h0]
        go_wp2_with fail
        refine (upsOf_c v l _ (HR.out.quiet hG1) hl (by omega)).mono ?_; rintro e w2 ⟨b, rfl, hb, hM, hG2⟩
        rw [upF_sv] at hM
        have hG := hG1.trans hG2
        clear hG1 hG2 hb
        generalize upS l = u at hM HU hso hso2
        generalize upC 0 eF l = c at hM hcc
        have hM3 := hM.alloc (.cells #[.string want, .string have_] 9)
        have hG3 := hG.alloc (.cells #[.string want, .string have_] 9)
        have hB3 := Bk.new w2 9 #[.string want, .string have_]
        have hc0 := hB3.cell 0
        have hc1 := hB3.cell 1
        rw [show (#[Value.string want, .string have_] : Array Value)[0]? = some (.string want) from rfl] at hc0
        rw [show (#[Value.string want, .string have_] : Array Value)[1]? = some (.string have_) from rfl] at hc1
        go_wp2_with fail
        refine wp_loop_rounds 3 ?_
        rw [rounds_succ]
        go_wp2_with (first | (at_lookup; refine wpS_look_ok rfl _ _ rfl b c u rfl hM3 want rfl hk ?_) | (at_lookup; refine wpS_look_ok rfl _ _ rfl b c u rfl hM3 have_ rfl hk2 ?_))
        rw [rounds_succ]
        go_wp2_with (first | (at_lookup; refine wpS_look_ok rfl _ _ rfl b c u rfl hM3 want rfl hk ?_) | (at_lookup; refine wpS_look_ok rfl _ _ rfl b c u rfl hM3 have_ rfl hk2 ?_))
        go_ret3
        exact ⟨by rw [HE.out, HN.out, HB.out]; rfl, hG3⟩
    | false =>
      have HE : Hid (spE l want have_ = 8) := Lib.hid (by simp [spE, abE, h0, hso])
      have HN : Hid (spN l want have_ = 0) := Lib.hid (by rw [spN, if_neg (by rw [HE.out]; decide)])
      have HB : Hid (spB l want have_ = false) := Lib.hid (by rw [spB, if_neg (by rw [HE.out]; decide)])
      go_enter Tryd.func23, Tryd.ntmps23
      go_wp2_with fail
      refine (checkClasses_c v l _ HR.out hl (by omega)).mono ?_; rintro e w1 ⟨rfl, hG1⟩
      rw [h0]
      go_wp2_with fail
      refine (upsOf_c v l _ (HR.out.quiet hG1) hl (by omega)).mono ?_; rintro e w2 ⟨b, rfl, hb, hM, hG2⟩
      rw [upF_sv] at hM
      have hG := hG1.trans hG2
      clear hG1 hG2 hb
      generalize upS l = u at hM HU hso
      generalize upC 0 eF l = c at hM hcc
      have hM3 := hM.alloc (.cells #[.string want, .string have_] 9)
      have hG3 := hG.alloc (.cells #[.string want, .string have_] 9)
      have hB3 := Bk.new w2 9 #[.string want, .string have_]
      have hc0 := hB3.cell 0
      rw [show (#[Value.string want, .string have_] : Array Value)[0]? = some (.string want) from rfl] at hc0
      go_wp2_with fail
      refine wp_loop_rounds 3 ?_
      rw [rounds_succ]
      go_wp2_with (first | (at_lookup; refine wpS_look_ok rfl _ _ rfl b c u rfl hM3 want rfl hk ?_) | (at_lookup; refine wpS_look_ok rfl _ _ rfl b c u rfl hM3 have_ rfl hk2 ?_))
      go_ret3
      exact ⟨by rw [HE.out, HN.out, HB.out]; rfl, hG3⟩
  · have HE : Hid (spE l want have_ = clErr l) := Lib.hid (by simp [spE, abE, h0])
    have h1 : (clErr l != 0) = true := by rw [bne_iff_ne]; exact h0
    have HN : Hid (spN l want have_ = 0) := Lib.hid (by rw [spN, if_neg (by rw [HE.out]; exact h0)])
    have HB : Hid (spB l want have_ = false) := Lib.hid (by rw [spB, if_neg (by rw [HE.out]; exact h0)])
    clear h0
    go_enter Tryd.func23, Tryd.ntmps23
    go_wp2_with fail
    refine (checkClasses_c v l _ HR.out hl (by omega)).mono ?_; rintro e w1 ⟨rfl, hG1⟩
    go_wp2_with fail
    go_ret3
    exact ⟨by rw [HE.out, HN.out, HB.out]; rfl, hG1⟩
end Go.Proofs.YtlnoafkepfgooaaDoor

/- The reference's Ups, StepsOf. -/
namespace Go.Proofs.YtlnoafkepfgooaaDoor
open Go.RowKit

theorem clAt_rise {l : List Cla} (hr : Rise (ksC l)) (s : ByteArray) : (clAt l s = -1 ∧ upS l s = none) ∨ ∃ (i : Nat) (p : Cla), clAt l s = (i : Int) ∧ l[i]? = some p ∧ upS l s = some p.2 := by
  rcases clAt_spec l s with h | ⟨i, p, h1, h2, h3⟩
  · exact .inl h
  · refine .inr ⟨i, p, h1, h2, ?_⟩
    rw [← h3]
    exact upS_at hr (List.mem_of_getElem? h2)
theorem upsK_none {u : Up} {s : ByteArray} (h : u s = none) (n : Nat) : upsK u n s = [] := by
  cases n with
  | zero => rfl
  | succ n => unfold upsK; rw [h]
theorem upsK_empty {u : Up} {s t : ByteArray} (h : u s = some t) (ht : t.toList.isEmpty = true) (n : Nat) : upsK u n s = [] := by
  cases n with
  | zero => rfl
  | succ n => unfold upsK; rw [h]; exact if_pos ht
theorem upsK_next {u : Up} {s t : ByteArray} (h : u s = some t) (ht : t.toList.isEmpty = false) (n : Nat) : upsK u (n + 1) s = t :: upsK u n t := by
  show (match u s with | none => [] | some t => if t.toList.isEmpty = true then [] else t :: upsK u n t) = _
  rw [h]
  exact if_neg (by simp [ht])
def UprRel (w : World) (l : List Cla) (key : ByteArray) (kx : Nat) (s5 s6 : Value) (wr : World) : Prop :=
  ∃ (s : ByteArray) (acc : List ByteArray), s6 = .int .i64 (clAt l s) ∧ OwnSs wr w.heap.size s5 acc ∧ upsK (upS l) (l.length + 1) key = acc ++ upsK (upS l) (l.length + 1 - acc.length) s ∧ acc.length ≤ l.length + 1 ∧ l.length + 1 - acc.length ≤ kx ∧ G w wr none
def SsPost (l : List ByteArray) (w : World) (e : Ending) (w' : World) : Prop := ∃ v, e = .returned v ∧ OwnSs w' w.heap.size v l ∧ G w w' none
theorem OwnSs.low {w : World} {base b' : Nat} {v : Value} {l : List ByteArray} (h : OwnSs w base v l) (hb : b' ≤ base) : OwnSs w b' v l := by
  obtain ⟨h1, h2⟩ := h
  rcases h2 with ⟨rfl, h3⟩ | ⟨g, cap, cur, rfl, h3, h4, h5, h6, h7, h8⟩
  · exact ⟨h1, .inl ⟨rfl, h3⟩⟩
  · exact ⟨h1, .inr ⟨g, cap, cur, rfl, Nat.le_trans hb h3, h4, h5, h6, h7, h8⟩⟩
/-- A row of what is written out, just laid. -/
theorem OwnSs.new (w : World) (l : List ByteArray) (hl : l.length ≤ 1000) {b : Nat} (hb : w.heap.size = b) : OwnSs (w.alloc (.cells (l.map Value.string).toArray 9)) b (.slice (some ⟨b, 0, none⟩) l.length l.length) l := by
  subst hb
  refine ⟨by simp, .inr ⟨_, _, _, rfl, Nat.le_refl _, heap_alloc_new w _, Nat.le_refl _, by unfold maxLen; omega, by simp, by simp [← List.map_take]⟩⟩
theorem wpList_append_rd {w : World} {ops : Array Oper} {rest : List Oper} {o : Oper} {a : Act} {Q : Exit → Act → World → Prop} (hgd : o.guard = none) (s x : Operand)
    (ho : o.op = .call { callee := .builtin .append, args := #[s, x], argTypes := #[57, 57] }) (base : Nat) (v : Value) (l : List ByteArray) (hs : a.eval s = v) (hown : OwnSs w base v l)
    (xv : Value) (r : List ByteArray) (hx : a.eval x = xv) (hr : RdS w xv r) (hl : l.length + r.length ≤ 1000) (hbase : base ≤ w.heap.size)
    (hK : ∀ v' w', OwnSs w' base v' (l ++ r) → w.grownBy w' v.ownBlock → wpList Tryd.prog ops Q rest (a.put o.dst v') w') : wpList Tryd.prog ops Q (o :: rest) a w := by
  obtain ⟨i0, hi, hz0, hz1, hz2⟩ := info_parts ss_row
  obtain ⟨ad, cap, rfl, h1, h2, h3, h4, h5⟩ := hr
  cases ad with
  | none =>
    obtain ⟨e1, e2⟩ := h4 rfl
    obtain rfl := List.length_eq_zero_iff.1 e1
    subst e2
    refine wpList_append_own_none hgd s x 57 ho base 9 i0 1 Tryd.underlying57 hi v l.length (l.map Value.string) hs hown hx ?_
    refine hK v w ?_ (World.grownBy.refl _ _)
    rw [List.append_nil]
    exact hown
  | some ad =>
    obtain ⟨bb, bo, bs⟩ := ad
    obtain ⟨q1, q2, q3⟩ := h5 _ rfl
    dsimp only at q1 q2 q3
    subst q1
    refine wpList_append_own w hgd s x 57 ho base 9 i0 _ 1 16 Tryd.underlying57 hi hz0 hz1 hz2 rfl (by decide) v l.length (l.map Value.string) hs hown ⟨bb, bo, none⟩ r.length cap (r.map Value.string) hx h3 (fun j u hj => by rw [add_at]; exact q3 j u hj) (fun u hu => by obtain ⟨t, _, rfl⟩ := List.mem_map.1 hu; rfl) (by unfold maxLen; omega) (by omega) hbase ?_
    intro v' w' k1 k2 _
    refine hK v' w' ?_ k2
    unfold OwnSs
    rw [List.length_append, List.map_append]
    exact k1
set_option maxRecDepth 100000 in
set_option maxHeartbeats 4000000 in
theorem ups_c (v : Value) (l : List Cla) (key : ByteArray) (w : World) (hr : Rd w 2 v l.length (clL l)) (hn : l.length ≤ 100) (hri : Rise (ksC l)) :
    Calls Tryd.prog 28 #[v, .string key] w (SsPost (upsK (upS l) (l.length + 1) key) w) := by
  have HV := Lib.hid hr
  have HRI := Lib.hid hri
  obtain ⟨a, cap, rfl, hcap, hm, hlen, hnil, hcell⟩ := hr
  clear hri
  go_enter Tryd.func28, Tryd.ntmps28
  go_wp2_with fail
  refine (classAt_c _ l key _ HV.out (by omega)).mono ?_; rintro e w1 ⟨rfl, hG1⟩
  go_wp2_with fail
  go_loopg [5, 6] (l.length + 1) (UprRel w l key)
  case atStart => exact ⟨key, [], rfl, World.ownsRow_nil _ _ _ _, rfl, by simp, by simp, hG1⟩
  case round =>
    clear hG1
    obtain ⟨s, acc, rfl, hown, hups, hal, hakx, hG⟩ := hrel
    have HUP := Lib.hid hups
    clear hups
    rcases clAt_rise HRI.out s with ⟨hc, hu⟩ | ⟨i, p, hc, hp, hu⟩
    · rw [hc]
      have HF : Hid (upsK (upS l) (l.length + 1) key = acc) := Lib.hid (by rw [HUP.out, upsK_none hu, List.append_nil])
      clear hc hu
      go_wp2_with fail
      go_ret
      exact ⟨_, rfl, by rw [HF.out]; exact hown, hG⟩
    · rw [hc]
      have hil := (List.getElem?_eq_some_iff.1 hp).1
      cases a with
      | none => have := (hnil rfl).1; omega
      | some ad =>
        obtain ⟨bb, bo, bs⟩ := ad
        obtain ⟨e1, e2, e3⟩ := hcell _ rfl
        dsimp only at e1 e2 e3
        subst e1
        have hc2 : wr.cell? ⟨bb, bo + i * 2 + 1, none⟩ = some (.string p.2) := by
          have h1 := e3 (i * 2 + 1) (.string p.2) (clL_at l i p hp 1 _ rfl)
          rw [← Nat.add_assoc] at h1
          exact ((gcell hG).1 bb _ e2).trans h1
        have HV2 := HV.out.quiet hG
        have HC := Lib.hid hcell
        have HN := Lib.hid hnil
        clear hcell e3 hnil hp hc
        cases hem : p.2.toList.isEmpty with
        | true =>
          have HF : Hid (upsK (upS l) (l.length + 1) key = acc) := Lib.hid (by rw [HUP.out, upsK_empty hu hem, List.append_nil])
          clear hu
          go_wp2_with fail
          go_ret
          exact ⟨_, rfl, by rw [HF.out]; exact hown, hG⟩
        | false =>
          have hl5 : ∃ a5 c5, u5 = .slice a5 acc.length c5 := by obtain ⟨a5, c5, e5, _⟩ := OwnSs.rd hown; exact ⟨a5, c5, e5⟩
          obtain ⟨a5, c5, rfl⟩ := hl5
          by_cases hal2 : acc.length ≤ l.length
          · have HF : Hid (upsK (upS l) (l.length + 1) key = (acc ++ [p.2]) ++ upsK (upS l) (l.length + 1 - (acc ++ [p.2]).length) p.2) := Lib.hid (by
              rw [HUP.out, show l.length + 1 - acc.length = (l.length - acc.length) + 1 by omega, upsK_next hu hem, List.append_assoc]
              rw [show l.length + 1 - (acc ++ [p.2]).length = l.length - acc.length by simp]
              rfl)
            have hob := fun r e => (World.ownsRow.lt hown r e).1
            have hsz := hG.size
            have hb2 : bb < wr.heap.size := by omega
            have hbo : ∀ r, (Value.slice a5 acc.length c5).ownBlock = some r → bb ≠ r := fun r e => by have := hob r e; omega
            clear hu
            go_wp2_with (at_builtin; refine wpList_append_ss rfl _ _ rfl w.heap.size _ acc rfl (hown.alloc _) wr.heap.size p.2 rfl (Bk.newAt rfl _ _) (by omega) (by simp; omega) ?_; intro v' w' hown' hgrow; have hG' := (hG.alloc (.cells #[.string p.2] 9)).other hgrow fun j e => .inl (hob j e); have hc3 : w'.cell? ⟨bb, bo + i * 2 + 1, none⟩ = some (.string p.2) := (World.cell?_of_block (w := wr) ((hgrow.block bb (by simp; omega) (fun e => hbo _ e.symm rfl)).trans (Below.heap_alloc wr _ bb hb2))).trans hc2)
            refine (classAt_c _ l p.2 _ (HV.out.quiet hG') (by omega)).mono ?_; rintro e w2 ⟨rfl, hG2⟩
            go_wp2_with fail
            go_roundg (l.length + 1 - (acc.length + 1))
            case measure => omega
            case rel => exact ⟨p.2, acc ++ [p.2], rfl, OwnSs.quiet hown' hG2, HF.out, by simp; omega, by simp, hG'.trans hG2⟩
          · have HF : Hid (upsK (upS l) (l.length + 1) key = acc) := Lib.hid (by rw [HUP.out, show l.length + 1 - acc.length = 0 by omega]; show acc ++ [] = acc; rw [List.append_nil])
            clear hu
            go_wp2_with fail
            go_ret
            exact ⟨_, rfl, by rw [HF.out]; exact hown, hG⟩
set_option maxRecDepth 100000 in
set_option maxHeartbeats 4000000 in
theorem stepsOf_c (v : Value) (l : List Cla) (want have_ : ByteArray) (w : World) (hr : Rd w 2 v l.length (clL l)) (hn : l.length ≤ 100) (hri : Rise (ksC l)) :
    Calls Tryd.prog 30 #[v, .string want, .string have_] w fun e w' => e = .returned (.tuple #[.int .i64 (max 0 (spI l want have_)), .bool (decide (0 ≤ spI l want have_))]) ∧ G w w' none := by
  have HV := Lib.hid (hr.quiet ((G.refl w none).alloc (.cells #[.string want] 9)))
  have HI : Hid (spI l want have_ = idxF have_ (want :: upsK (upS l) (l.length + 1) want) 0) := Lib.hid rfl
  have hO := OwnSs.new w [want] (by simp) rfl
  have hul := upsK_len (upS l) (l.length + 1) want
  clear hr
  generalize spI l want have_ = x at HI
  go_enter Tryd.func30, Tryd.ntmps30
  go_wp2_with fail
  refine (ups_c v l want _ HV.out hn hri).mono ?_; rintro e w1 ⟨y, rfl, hown, hG1⟩
  have hO1 := OwnSs.quiet hO hG1
  have hG01 := ((G.refl w none).alloc (.cells #[.string want] 9)).trans hG1
  have hy := OwnSs.rd hown
  have hob := fun r e => (World.ownsRow.lt hO1 r e).1
  clear hown hO hG1
  have hsz := hG01.size
  go_wp2_with (at_builtin; refine wpList_append_rd rfl _ _ rfl w.heap.size _ [want] rfl hO1 y (upsK (upS l) (l.length + 1) want) rfl hy (by simp; omega) hsz ?_; intro v' w' hown' hgrow)
  refine (sIndex_c v' (want :: upsK (upS l) (l.length + 1) want) have_ w' (OwnSs.rd hown') (by simp only [List.length_cons]; omega)).mono ?_; rintro e w' ⟨rfl, rfl⟩
  rw [← HI.out]
  have hG2 := hG01.other hgrow fun j e => .inl (hob j e)
  clear hown' hgrow hob hO1 hG01 hy
  go_wp2_with fail
  all_goals go_ret2
  all_goals exact ⟨by first | rfl | (rw [decide_eq_true (by assumption)]; rfl), hG2⟩
end Go.Proofs.YtlnoafkepfgooaaDoor

/- The reference's ClassesFault. -/
namespace Go.Proofs.YtlnoafkepfgooaaDoor
open Go.RowKit

def RckRel (w : World) (l : List Cla) (v i : Value) (wr : World) : Prop :=
  ∃ (k : Nat) (b : ByteArray), k ≤ l.length ∧ i = .int .i64 k ∧ v = .string b ∧ ckErr ⟨#[]⟩ l = ckErr b (l.drop k) ∧ G w wr none
def R1Rel (w : World) (l : List Cla) (i : Value) (wr : World) : Prop :=
  ∃ k : Nat, k ≤ l.length ∧ i = .int .i64 k ∧ (l.take k).any (badKnown (upS l)) = false ∧ G w wr none
def inUps (l : List Cla) (p : Cla) : Bool := hasK (upsK (upS l) (l.length + 1) p.1) p.1
def R2Rel (w : World) (l : List Cla) (i : Value) (wr : World) : Prop :=
  ∃ k : Nat, k ≤ l.length ∧ i = .int .i64 k ∧ (l.take k).any (inUps l) = false ∧ G w wr none
theorem clErr_loop {l : List Cla} (h30 : l.length ≤ 30) (h0 : ckErr ⟨#[]⟩ l = 0) (hb : l.any (badKnown (upS l)) = false) : clErr l = if l.any (inUps l) = true then 14 else 0 := by
  rw [clErr, if_neg (by omega), if_pos h0, clTail, if_neg (by simp [hb]), loop_eq h0]
  rfl
set_option maxRecDepth 100000 in
set_option maxHeartbeats 8000000 in
theorem classesFault_c (v : Value) (l : List Cla) (w : World) (hr : Rd w 2 v l.length (clL l)) (hl : ClsOk l) (hn : l.length ≤ 100) :
    Calls Tryd.prog 24 #[v] w fun e w' => e = .returned (.int .i64 (clErr l)) ∧ G w w' none := by
  have HV := Lib.hid hr
  obtain ⟨a, cap, rfl, hcap, hm, hlen, hnil, hcell⟩ := hr
  by_cases h30 : 30 < l.length
  · have H := Lib.hid (show clErr l = 2 by simp [clErr, h30])
    go_enter Tryd.func24, Tryd.ntmps24
    go_wp2_with fail
    go_ret
    exact ⟨by rw [H.out]; rfl, G.refl _ _⟩
  · have H := Lib.hid (show clErr l = if ckErr ⟨#[]⟩ l = 0 then clTail (upS l) (upC 0 eF l) l else ckErr ⟨#[]⟩ l by simp [clErr, h30])
    have HC := Lib.hid hcell
    have HNIL := Lib.hid hnil
    clear hcell hnil
    go_enter Tryd.func24, Tryd.ntmps24
    go_wp2_with fail
    go_loopw [3, 15] (RckRel w l) (fun _ i _ => l.length - (intOf i).toNat)
    case atStart => exact ⟨0, ⟨#[]⟩, by omega, rfl, rfl, rfl, G.refl _ _⟩
    case round =>
      obtain ⟨k, b, hkl, rfl, rfl, heq, hG⟩ := hrel
      have HE := Lib.hid heq
      clear heq
      by_cases hk : k < l.length
      · obtain ⟨p, hp⟩ : ∃ p, l[k]? = some p := ⟨_, List.getElem?_eq_getElem hk⟩
        have hdrop : l.drop k = p :: l.drop (k + 1) := by rw [List.drop_eq_getElem_cons hk, ← (List.getElem?_eq_some_iff.1 hp).2]
        have hpl := hl p (List.mem_of_getElem? hp)
        cases a with
        | none => have := (HNIL.out rfl).1; omega
        | some ad =>
          obtain ⟨bb, bo, bs⟩ := ad
          obtain ⟨e1, e2, e3⟩ := HC.out _ rfl
          dsimp only at e1 e2 e3
          subst e1
          have hrow : ∀ j v, (clC p).toList[j]? = some v → wr.cell? ((⟨bb, bo + k * 2, none⟩ : Addr).add j) = some v := by
            intro j v hv
            rw [add_at]
            have h1 := e3 (k * 2 + j) v (clL_at l k p hp j v hv)
            rw [← Nat.add_assoc] at h1
            exact ((gcell hG).1 bb _ e2).trans h1
          have HR := Lib.hid hrow
          clear hrow e3
          have hs1 := hpl.1
          have hs2 := hpl.2
          unfold Small at hs1 hs2
          have HS : Hid (ckErr b (l.drop k) = if keyB p.1 = false then 5 else if leB p.1 b = true then 7 else if badUp p.2 = true then 5 else ckErr p.1 (l.drop (k + 1))) := Lib.hid (by rw [hdrop]; rfl)
          clear hdrop
          go_wp2_with (refine wpList_load_at rfl 82 _ rfl ⟨bb, bo + k * 2, none⟩ rfl #[.string p.1, .string p.2] _ HR.out Tryd.underlying82 rfl (cl_info p) ?_)
          refine (rkey_c _ _ hs1).mono ?_; rintro e w1 ⟨rfl, hG1⟩
          have hB5 := (Bk.new wr 82 (clC p)).quiet hG1
          have hc0 := hB5.cell 0
          have hc1 := hB5.cell 1
          rw [show (clC p)[0]? = some (.string p.1) from rfl] at hc0
          rw [show (clC p)[1]? = some (.string p.2) from rfl] at hc1
          have hG01 := (hG.alloc (.cells (clC p) 82)).trans hG1
          clear hG hG1 HR
          cases hkb : keyB p.1 with
          | false =>
            have HF : Hid (clErr l = 5) := Lib.hid (by
              have e : ckErr ⟨#[]⟩ l = 5 := by rw [HE.out, HS.out, if_pos hkb]
              rw [H.out, if_neg (by omega)]; exact e)
            clear hkb
            go_wp2_with fail
            go_ret
            exact ⟨by rw [HF.out]; rfl, hG01⟩
          | true =>
            cases hle : leB p.1 b with
            | true =>
              have HF : Hid (clErr l = 7) := Lib.hid (by
                have e : ckErr ⟨#[]⟩ l = 7 := by rw [HE.out, HS.out, if_neg (by simp [hkb]), if_pos hle]
                rw [H.out, if_neg (by omega)]; exact e)
              unfold leB at hle
              clear hkb
              go_wp2_with fail
              go_ret
              exact ⟨by rw [HF.out]; rfl, hG01⟩
            | false =>
              have HL := Lib.hid hle
              have HK := Lib.hid hkb
              unfold leB at hle
              clear hkb
              have hbu : badUp p.2 = (!p.2.toList.isEmpty && !keyB p.2) := rfl
              cases hem : p.2.toList.isEmpty with
              | true =>
                have HF : Hid (ckErr ⟨#[]⟩ l = ckErr p.1 (l.drop (k + 1))) := Lib.hid (by rw [HE.out, HS.out, if_neg (by simp [HK.out]), if_neg (by simp [HL.out]), if_neg (by simp [hbu, hem])])
                clear hbu
                go_wp2_with fail
                go_roundw
                case rel => exact ⟨k + 1, p.1, by omega, by go_num, rfl, HF.out, hG01⟩
                case measure => simp [intOf]; omega
              | false =>
                cases hk2 : keyB p.2 with
                | false =>
                  have HF : Hid (clErr l = 5) := Lib.hid (by
                    have e : ckErr ⟨#[]⟩ l = 5 := by rw [HE.out, HS.out, if_neg (by simp [HK.out]), if_neg (by simp [HL.out]), if_pos (by simp [hbu, hem, hk2])]
                    rw [H.out, if_neg (by omega)]; exact e)
                  have HK2 := Lib.hid hk2
                  clear hbu hk2
                  go_wp2_with fail
                  refine (rkey_c _ _ hs2).mono ?_; rintro e w2 ⟨rfl, hG2⟩
                  rw [HK2.out]
                  go_wp2_with fail
                  go_ret
                  exact ⟨by rw [HF.out]; rfl, hG01.trans hG2⟩
                | true =>
                  have HF : Hid (ckErr ⟨#[]⟩ l = ckErr p.1 (l.drop (k + 1))) := Lib.hid (by rw [HE.out, HS.out, if_neg (by simp [HK.out]), if_neg (by simp [HL.out]), if_neg (by simp [hbu, hk2])])
                  have HK2 := Lib.hid hk2
                  clear hbu hk2
                  go_wp2_with fail
                  refine (rkey_c _ _ hs2).mono ?_; rintro e w2 ⟨rfl, hG2⟩
                  rw [HK2.out]
                  have hc0 := (hB5.quiet hG2).cell 0
                  rw [show (clC p)[0]? = some (.string p.1) from rfl] at hc0
                  go_wp2_with fail
                  go_roundw
                  case rel => exact ⟨k + 1, p.1, by omega, by go_num, rfl, HF.out, hG01.trans hG2⟩
                  case measure => simp [intOf]; omega
      · obtain rfl : k = l.length := by omega
        have hck : ckErr ⟨#[]⟩ l = 0 := by rw [HE.out, List.drop_length]; rfl
        have HRI := Lib.hid (ck_rise _ _ hck).1
        have HL := Lib.hid (clErr_loop (l := l) (by omega) hck)
        have HBK := Lib.hid (fun hb : l.any (badKnown (upS l)) = true => show clErr l = 8 by rw [H.out, if_pos hck, clTail, if_pos hb])
        clear hk hkl hck HE
        go_wp2_with fail
        go_loopw [44] (R1Rel w l) (fun i _ => l.length - (intOf i).toNat)
        case atStart => exact ⟨0, by omega, rfl, rfl, hG⟩
        case round =>
          clear hG
          obtain ⟨k, hkl, rfl, hany, hG⟩ := hrel
          have HA := Lib.hid hany
          clear hany
          by_cases hk : k < l.length
          · obtain ⟨p, hp⟩ : ∃ p, l[k]? = some p := ⟨_, List.getElem?_eq_getElem hk⟩
            cases a with
            | none => have := (HNIL.out rfl).1; omega
            | some ad =>
              obtain ⟨bb, bo, bs⟩ := ad
              obtain ⟨e1, e2, e3⟩ := HC.out _ rfl
              dsimp only at e1 e2 e3
              subst e1
              have hrow : ∀ j v, (clC p).toList[j]? = some v → wr.cell? ((⟨bb, bo + k * 2, none⟩ : Addr).add j) = some v := by
                intro j v hv
                rw [add_at]
                have h1 := e3 (k * 2 + j) v (clL_at l k p hp j v hv)
                rw [← Nat.add_assoc] at h1
                exact ((gcell hG).1 bb _ e2).trans h1
              have HR := Lib.hid hrow
              have HVr := Lib.hid (HV.out.quiet (hG.alloc (.cells (clC p) 82)))
              clear hrow e3
              have HP := Lib.hid hp
              clear hp
              have hbk : badKnown (upS l) p = (!p.2.toList.isEmpty && !(upS l p.2).isSome) := rfl
              have HB := Lib.hid hbk
              clear hbk
              cases hem : p.2.toList.isEmpty with
              | true =>
                have HN : Hid ((l.take (k + 1)).any (badKnown (upS l)) = false) := Lib.hid (by rw [take_snoc' l k p HP.out, List.any_append, HA.out, List.any_cons, HB.out, hem]; rfl)
                go_wp2_with (refine wpList_load_at rfl 82 _ rfl ⟨bb, bo + k * 2, none⟩ rfl #[.string p.1, .string p.2] _ HR.out Tryd.underlying82 rfl (cl_info p) ?_)
                go_roundw
                case rel => exact ⟨k + 1, by omega, by go_num, HN.out, hG.alloc _⟩
                case measure => simp [intOf]; omega
              | false =>
                have hcn := clAt_neg l p.2
                go_wp2_with (refine wpList_load_at rfl 82 _ rfl ⟨bb, bo + k * 2, none⟩ rfl #[.string p.1, .string p.2] _ HR.out Tryd.underlying82 rfl (cl_info p) ?_)
                refine (classAt_c _ l p.2 _ HVr.out (by omega)).mono ?_; rintro e w1 ⟨rfl, hG1⟩
                have hG01 := (hG.alloc (.cells (clC p) 82)).trans hG1
                clear hG hG1
                cases hso : (upS l p.2).isSome with
                | true =>
                  have HN : Hid ((l.take (k + 1)).any (badKnown (upS l)) = false) := Lib.hid (by rw [take_snoc' l k p HP.out, List.any_append, HA.out, List.any_cons, HB.out, hso, hem]; rfl)
                  have hlt : 0 ≤ clAt l p.2 := by rw [hso] at hcn; simpa using hcn
                  clear hcn
                  go_wp2_with fail
                  go_roundw
                  case rel => exact ⟨k + 1, by omega, by go_num, HN.out, hG01⟩
                  case measure => simp [intOf]; omega
                | false =>
                  have HN : Hid (clErr l = 8) := Lib.hid (HBK.out (any_of_at _ l k p HP.out (by rw [HB.out, hso, hem]; rfl)))
                  have hlt : clAt l p.2 < 0 := by rw [hso] at hcn; simpa using hcn
                  clear hcn
                  go_wp2_with fail
                  go_ret
                  exact ⟨ret_int HN.out.symm, hG01⟩
          · obtain rfl : k = l.length := by omega
            rw [List.take_length] at HA
            have HH := Lib.hid (HL.out HA.out)
            clear hk hkl HBK
            go_wp2_with fail
            go_loopw [61] (R2Rel w l) (fun i _ => l.length - (intOf i).toNat)
            case atStart => exact ⟨0, by omega, rfl, rfl, hG⟩
            case round =>
              clear hG HA
              obtain ⟨k, hkl, rfl, hany, hG⟩ := hrel
              have HA := Lib.hid hany
              clear hany
              by_cases hk : k < l.length
              · obtain ⟨p, hp⟩ : ∃ p, l[k]? = some p := ⟨_, List.getElem?_eq_getElem hk⟩
                cases a with
                | none => have := (HNIL.out rfl).1; omega
                | some ad =>
                  obtain ⟨bb, bo, bs⟩ := ad
                  obtain ⟨e1, e2, e3⟩ := HC.out _ rfl
                  dsimp only at e1 e2 e3
                  subst e1
                  have hrow : ∀ j v, (clC p).toList[j]? = some v → wr.cell? ((⟨bb, bo + k * 2, none⟩ : Addr).add j) = some v := by
                    intro j v hv
                    rw [add_at]
                    have h1 := e3 (k * 2 + j) v (clL_at l k p hp j v hv)
                    rw [← Nat.add_assoc] at h1
                    exact ((gcell hG).1 bb _ e2).trans h1
                  have HR := Lib.hid hrow
                  clear hrow e3
                  have HP := Lib.hid hp
                  clear hp
                  go_wp2_with (refine wpList_load_at rfl 82 _ rfl ⟨bb, bo + k * 2, none⟩ rfl #[.string p.1, .string p.2] _ HR.out Tryd.underlying82 rfl (cl_info p) ?_)
                  have hB3 := Bk.new wr 82 #[.string p.1, .string p.2]
                  have hG3 := hG.alloc (.cells #[.string p.1, .string p.2] 82)
                  generalize wr.alloc (.cells #[.string p.1, .string p.2] 82) = w3 at hB3 hG3 ⊢
                  have hgl := hB3.lt
                  generalize wr.heap.size = g at hB3 hgl ⊢
                  have hcd : w3.drew.cell? ⟨g, 0, none⟩ = some (.string p.1) := (hB3.quiet ((G.refl w3 none).drew)).cell 0
                  have hGd := hG3.drew
                  have hul := upsK_len (upS l) (l.length + 1) p.1
                  clear hG
                  go_region_held3 (fun w' => w'.cell? ⟨g, 0, none⟩ = some (.string p.1)) (first | assumption | go_keep) (first | (go_at_call 28; refine (ups_c _ l p.1 _ (HV.out.quiet hGd) hn HRI.out).mono ?_; rintro e w4 ⟨y, rfl, hy, hG4⟩; have hG04 := hGd.trans hG4; have hcd4 : w4.cell? ⟨g, 0, none⟩ = some (.string p.1) := (World.cell?_of_block (w := w3.drew) (hG4.block g hgl (by simp))).trans hcd) | (go_at_call 51; refine (sContains_c y _ p.1 _ (OwnSs.rd hy) (by omega)).mono ?_; rintro e w' ⟨rfl, rfl⟩))
                  have HIN : Hid (inUps l p = hasK (upsK (upS l) (l.length + 1) p.1) p.1) := Lib.hid rfl
                  rw [← HIN.out]
                  cases hcb : inUps l p with
                  | true =>
                    have HN : Hid (clErr l = 14) := Lib.hid (by rw [HH.out, if_pos (any_of_at _ l k p HP.out hcb)])
                    clear hcb
                    go_wp2_with fail
                    go_ret
                    exact ⟨ret_int HN.out.symm, hG04⟩
                  | false =>
                    have HN : Hid ((l.take (k + 1)).any (inUps l) = false) := Lib.hid (by rw [take_snoc' l k p HP.out, List.any_append, HA.out, List.any_cons, hcb]; rfl)
                    clear hcb
                    go_wp2_with fail
                    go_roundw
                    case rel => exact ⟨k + 1, by omega, by go_num, HN.out, hG04⟩
                    case measure => simp [intOf]; omega
              · obtain rfl : k = l.length := by omega
                rw [List.take_length] at HA
                have HN : Hid (clErr l = 0) := Lib.hid (by rw [HH.out, if_neg (by simp [HA.out])])
                go_wp2_with fail
                go_ret
                exact ⟨ret_int HN.out.symm, hG⟩
end Go.Proofs.YtlnoafkepfgooaaDoor

/- The law ClassSteps. -/
namespace Go.Proofs.YtlnoafkepfgooaaDoor
open Go.RowKit

theorem errs_one (l : List Cla) (a : ByteArray) : errsOf [clErr l, if decide (clAt l a < 0) = true then 8 else 0] = abE l a := by
  rw [clAt_neg]
  show (if clErr l = 0 then (if (if (!(upS l a).isSome) = true then (8 : Int) else 0) = 0 then 0 else (if (!(upS l a).isSome) = true then 8 else 0)) else clErr l) = _
  unfold abE
  cases (upS l a).isSome <;> simp
theorem errs_two (l : List Cla) (a b : ByteArray) : errsOf [abE l a, if decide (clAt l b < 0) = true then 8 else 0] = spE l a b := by
  rw [clAt_neg]
  show (if abE l a = 0 then (if (if (!(upS l b).isSome) = true then (8 : Int) else 0) = 0 then 0 else (if (!(upS l b).isSome) = true then 8 else 0)) else abE l a) = _
  unfold spE
  by_cases h : abE l a = 0
  · have h0 : clErr l = 0 := by
      unfold abE at h
      split at h
      · assumption
      · contradiction
    rw [if_pos h, if_pos h, show abE l b = if (upS l b).isSome = true then 0 else 8 by rw [abE, if_pos h0]]
    cases (upS l b).isSome <;> simp
  · rw [if_neg h, if_neg h]
theorem abE_zero {l : List Cla} {a : ByteArray} (h : abE l a = 0) : clErr l = 0 := by
  unfold abE at h
  split at h
  · assumption
  · contradiction
set_option maxRecDepth 100000 in
set_option maxHeartbeats 8000000 in
theorem classSteps_c (a : Option Addr) (n c : Nat) (zs : List Int) (W : World) (hr : Rd W 1 (.slice a n c) n (zs.map (Value.int .i64))) (hz : ∀ z ∈ zs, -9223372036854775808 ≤ z ∧ z ≤ 9223372036854775807) (hg : Gl W) :
    Calls Tryd.prog 4 #[.slice a n c] W fun e W' => e = .returned (.bool true) ∧ G W W' none := by
  have hSB : SB (W.alloc (.cells #[.slice a n c, .int .i64 0] 25)) W.heap.size 0 := by
    have hB := Bk.new W 25 #[.slice a n c, .int .i64 0]
    refine ⟨0, a, n, c, zs, Nat.le_refl _, hr.quiet ((G.refl _ _).alloc _), fun b e => ?_, hz, hB.cell 0, hB.cell 1, hB.free 1, hB.lt⟩
    obtain ⟨a', c', e', r1, r2, r3, r4, r5⟩ := hr
    cases e'
    exact (r5 b e).2.1
  have hG0 : G W (W.alloc (.cells #[.slice a n c, .int .i64 0] 25)) (some W.heap.size) := (G.refl _ _).alloc _
  have hg0 : Gl (W.alloc (.cells #[.slice a n c, .int .i64 0] 25)) := hg.quiet ((G.refl _ _).alloc _)
  have hgW := hg.2.2
  clear hr hz
  go_enter Tryd.func4, Tryd.ntmps4
  go_wp2_with fail
  refine (anyClasses_c _ W.heap.size 0 hSB (by omega)).mono ?_; rintro e w1 ⟨g, k, u, rfl, hgw, hB1, hkk, huu, hSB1, hG1⟩
  have hg1 := hg0.grown hG1 (fun e => by have := Option.some.inj e; omega)
  have hG01 := hG0.trans hG1
  have hgs : W.heap.size < g := by simp at hgw; omega
  clear hSB hG0 hG1 hg0 hg
  go_wp2_with fail
  refine (classKey_c _ W.heap.size _ hSB1 (by omega)).mono ?_; rintro e w2 ⟨x, rfl, hx, hSB2, hG2⟩
  have hg2 := hg1.grown hG2 (fun e => by have := Option.some.inj e; omega)
  have hB2 := hB1.grown hG2 (fun e => by have := Option.some.inj e; omega)
  have hG02 := hG01.trans hG2
  clear hSB1 hG01 hG2 hg1 hB1
  go_wp2_with fail
  refine (classKey_c _ W.heap.size _ hSB2 (by omega)).mono ?_; rintro e w3 ⟨y, rfl, hy, hSB3, hG3⟩
  have hg3 := hg2.grown hG3 (fun e => by have := Option.some.inj e; omega)
  have hB3 := hB2.grown hG3 (fun e => by have := Option.some.inj e; omega)
  have hG03 := G.own (hG02.trans hG3) (Nat.le_refl _)
  clear hSB2 hG02 hG3 hg2 hB2 hSB3
  have hrd : Rd w3 2 (.slice (some ⟨g, 0, none⟩) 4 4) (clsC k u).length (clL (clsC k u)) := by
    rw [clsC_cells]
    exact hB3.rd 2 4 rfl (by omega)
  have hlok := clsC_ok hkk huu
  have hln : (clsC k u).length ≤ 100 := by show 4 ≤ 100; omega
  clear hB3 hkk huu hgs hgw
  generalize clsC k u = l at hrd hlok hln
  generalize Value.slice (some ⟨g, 0, none⟩) 4 4 = v at hrd ⊢
  go_wp2_with fail
  refine (above_c v l x _ hrd hlok hln hx).mono ?_; rintro e w4 ⟨up, rfl, hup, hG4⟩
  have hrd4 := hrd.quiet hG4
  have hg4 := hg3.quiet hG4
  have hG04 := hG03.trans hG4
  clear hrd hg3 hG03 hG4
  go_wp2_with fail
  refine (steps_c v l x y _ hrd4 hlok hln hx hy).mono ?_; rintro e w5 ⟨rfl, hG5⟩
  have hrd5 := hrd4.quiet hG5
  have hg5 := hg4.quiet hG5
  have hup5 := hup.quiet hG5
  have hG05 := hG04.trans hG5
  clear hrd4 hg4 hG04 hG5 hup
  go_wp2_with fail
  refine (classesFault_c v l _ hrd5 hlok hln).mono ?_; rintro e w6 ⟨rfl, hG6⟩
  have hrd6 := hrd5.quiet hG6
  have hg6 := hg5.quiet hG6
  have hup6 := hup5.quiet hG6
  have hG06 := hG05.trans hG6
  clear hrd5 hg5 hG05 hG6 hup5
  go_wp2_with fail
  refine (classAt_c v l x _ hrd6 (by omega)).mono ?_; rintro e w7 ⟨rfl, hG7⟩
  have hrd7 := hrd6.quiet hG7
  have hg7 := hg6.quiet hG7
  have hup7 := hup6.quiet hG7
  have hG07 := hG06.trans hG7
  clear hrd6 hg6 hG06 hG7 hup6
  go_wp2_with fail
  refine (when_c _ _ _).mono ?_; rintro e w' ⟨rfl, rfl⟩
  have hqx := errs_one l x
  generalize (if decide (clAt l x < 0) = true then (8 : Int) else 0) = qx at hqx ⊢
  go_wp2_with fail
  refine (errs_c [clErr l, qx] _ _ (Rd.new #[.int .i64 (clErr l), .int .i64 qx] rfl (by show 2 ≤ maxLen; decide)) (by simp)).mono ?_; rintro e w' ⟨rfl, rfl⟩
  rw [hqx]
  have hA8 := (G.refl w7 none).alloc (.cells #[.int .i64 (clErr l), .int .i64 qx] 38)
  generalize w7.alloc (.cells #[.int .i64 (clErr l), .int .i64 qx] 38) = w8 at hA8 ⊢
  have hrd8 := hrd7.quiet hA8
  have hg8 := hg7.quiet hA8
  have hup8 := hup7.quiet hA8
  have hG08 := hG07.trans hA8
  clear hrd7 hg7 hG07 hA8 hup7
  go_wp2_with fail
  refine (classAt_c v l y _ hrd8 (by omega)).mono ?_; rintro e w9 ⟨rfl, hG9⟩
  have hrd9 := hrd8.quiet hG9
  have hg9 := hg8.quiet hG9
  have hup9 := hup8.quiet hG9
  have hG09 := hG08.trans hG9
  clear hrd8 hg8 hG08 hG9 hup8
  go_wp2_with fail
  refine (when_c _ _ _).mono ?_; rintro e w' ⟨rfl, rfl⟩
  have hqy := errs_two l x y
  generalize (if decide (clAt l y < 0) = true then (8 : Int) else 0) = qy at hqy ⊢
  go_wp2_with fail
  refine (errs_c [abE l x, qy] _ _ (Rd.new #[.int .i64 (abE l x), .int .i64 qy] rfl (by show 2 ≤ maxLen; decide)) (by simp)).mono ?_; rintro e w' ⟨rfl, rfl⟩
  rw [hqy]
  have hA10 := (G.refl w9 none).alloc (.cells #[.int .i64 (abE l x), .int .i64 qy] 38)
  generalize w9.alloc (.cells #[.int .i64 (abE l x), .int .i64 qy] 38) = w10 at hA10 ⊢
  have hrd10 := hrd9.quiet hA10
  have hg10 := hg9.quiet hA10
  have hup10 := hup9.quiet hA10
  have hG010 := hG09.trans hA10
  clear hrd9 hg9 hG09 hA10 hup9
  go_wp2_with fail
  refine (checkClasses_c v l _ hrd10 hlok (by omega)).mono ?_; rintro e w11 ⟨rfl, hG11⟩
  have hrd11 := hrd10.quiet hG11
  have hg11 := hg10.quiet hG11
  have hup11 := hup10.quiet hG11
  have hG011 := hG010.trans hG11
  clear hrd10 hg10 hG010 hG11 hup10
  by_cases h1 : abE l x = 0
  · have h0 := abE_zero h1
    have hri := (ck_rise _ _ (clErr_parts h0).1).1
    have hal : abL l x = upsK (upS l) (l.length + 1) x := by rw [abL, if_pos h1]
    rw [hal] at hup11
    have hul := upsK_len (upS l) (l.length + 1) x
    have h1' : (abE l x != 0) = false := by rw [h1]; rfl
    by_cases h2 : spE l x y = 0
    · have hsn : spN l x y = max 0 (spI l x y) := by
        rw [spN, if_pos h2]
        split <;> omega
      have hsb : spB l x y = decide (0 ≤ spI l x y) := by rw [spB, if_pos h2]
      rw [h1, h2, h0, hsn, hsb]
      clear hal h1' hsn hsb
      go_wp2_with fail
      refine (ups_c v l x _ hrd11 hln hri).mono ?_; rintro e w12 ⟨z, rfl, hown, hG12⟩
      have hrd12 := hrd11.quiet hG12
      have hg12 := hg11.quiet hG12
      have hup12 := hup11.quiet hG12
      have hG012 := hG011.trans hG12
      clear hrd11 hg11 hG011 hG12 hup11
      go_wp2_with fail
      refine (sEqual_c up z _ _ hup12 (OwnSs.rd hown) (by omega)).mono ?_; rintro e w13 ⟨rfl, hG13⟩
      have hrd13 := hrd12.quiet hG13
      have hg13 := hg12.quiet hG13
      have hG013 := hG012.trans hG13
      clear hrd12 hg12 hG012 hG13 hup12 hown
      go_wp2_with fail
      refine (stepsOf_c v l x y _ hrd13 hln hri).mono ?_; rintro e w14 ⟨rfl, hG14⟩
      have hg14 := hg13.quiet hG14
      have hG014 := hG013.trans hG14
      clear hrd13 hg13 hG013 hG14
      generalize max 0 (spI l x y) = N
      generalize decide (0 ≤ spI l x y) = B
      go_wp2_with fail
      refine (lots_c _ hg14).mono ?_; rintro e w15 ⟨rfl, hG15⟩
      go_wp2_with fail
      go_ret
      exact ⟨rfl, hG014.trans hG15⟩
    · have hsn : spN l x y = 0 := by rw [spN, if_neg h2]
      have hsb : spB l x y = false := by rw [spB, if_neg h2]
      have h2' : (spE l x y != 0) = true := by rw [bne_iff_ne]; exact h2
      rw [h1, h0, hsn, hsb]
      clear hal h1' hsn hsb h2
      generalize spE l x y = E2 at h2' ⊢
      go_wp2_with fail
      refine (ups_c v l x _ hrd11 hln hri).mono ?_; rintro e w12 ⟨z, rfl, hown, hG12⟩
      have hg12 := hg11.quiet hG12
      have hup12 := hup11.quiet hG12
      have hG012 := hG011.trans hG12
      clear hrd11 hg11 hG011 hG12 hup11
      go_wp2_with fail
      refine (sEqual_c up z _ _ hup12 (OwnSs.rd hown) (by omega)).mono ?_; rintro e w13 ⟨rfl, hG13⟩
      have hg13 := hg12.quiet hG13
      have hG013 := hG012.trans hG13
      clear hg12 hG012 hG13 hup12 hown
      go_wp2_with fail
      refine (lots_c _ hg13).mono ?_; rintro e w15 ⟨rfl, hG15⟩
      go_wp2_with fail
      go_ret
      exact ⟨rfl, hG013.trans hG15⟩
  · have h2 : spE l x y = abE l x := by rw [spE, if_neg h1]
    have hsn : spN l x y = 0 := by rw [spN, if_neg (by rw [h2]; exact h1)]
    have hsb : spB l x y = false := by rw [spB, if_neg (by rw [h2]; exact h1)]
    have hal : abL l x = [] := by rw [abL, if_neg h1]
    rw [hal] at hup11
    rw [h2, hsn, hsb]
    obtain ⟨ua, uc, rfl, _⟩ := hup11
    have h1' : (abE l x != 0) = true := by rw [bne_iff_ne]; exact h1
    have h1'' : (abE l x == 0) = false := by simpa using h1
    clear h1 h2 hsn hsb hal
    simp only [List.length_nil]
    generalize abE l x = E1 at h1' h1'' ⊢
    generalize clErr l = E0
    go_wp2_with fail
    refine (lots_c _ hg11).mono ?_; rintro e w15 ⟨rfl, hG15⟩
    go_wp2_with fail
    go_ret
    exact ⟨rfl, hG011.trans hG15⟩
end Go.Proofs.YtlnoafkepfgooaaDoor

/- What the row's list of variables gives; a start that meets it. -/
namespace Go.Proofs.YtlnoafkepfgooaaDoor
open Go.ChangeShapes Go.WideShapes Go.ChangeAt Go.RowKit

theorem own : ownKnob Tryd.prog.godebug = none := by kernel_rfl
theorem gCh : Tryd.prog.globalNamed "forecourt/basic.changes" = some 0 := by kernel_rfl
theorem tCh : (Tryd.prog.globals[0]?).map (·.type) = some 139 := by kernel_rfl
abbrev laid3 {H : Type} : DataW H := Rows.laid_forecourt_basic_changes
/-- What the table of the changes holds. -/
def chL : List (Int × Int) := [(0, 0), (0, 1), (1, 2), (2, 1), (1, 3), (3, 1), (1, 4), (4, 1), (1, 5)]
def ChT (w : World) : Prop := 0 < w.heap.size ∧ ∀ (i : Nat) (a b : Int), chL[i]? = some (a, b) → w.cell? ⟨0, i * 2, none⟩ = some (.int .i64 a) ∧ w.cell? ⟨0, i * 2 + 1, none⟩ = some (.int .i64 b)
theorem ChT.gl {w : World} (h : ChT w) : Gl w := ⟨(h.2 1 0 1 rfl).1, (h.2 1 0 1 rfl).2, h.1⟩
theorem c9 : Tryd.prog.cellsOf 138 = 2 := by kernel_rfl
theorem c1 : Tryd.prog.cellsOf 3 = 1 := by kernel_rfl
theorem c18 : Tryd.prog.cellsOf 139 = 18 := by kernel_rfl
set_option maxRecDepth 100000 in
theorem laid_eq {H : Type} : (Rows.laid_forecourt_basic_changes : DataW H) = .agg (chL.map fun q : Int × Int => (DataW.agg [.lit (.int .i64 q.1), .lit (.int .i64 q.2)] : DataW H)) := by
  unfold Rows.laid_forecourt_basic_changes chL
  simp only [List.map_cons, List.map_nil]
set_option maxRecDepth 100000 in
theorem ch_of_trod {H : Type} {enc : TypeId × Value → H} {W : World} {fuel : Nat} {cs : List Value} {p : List MemPlace} {sp : Nat → Bool} {hd0 : Bool}
    (h : DataW.trod enc Tryd.prog W 0 sp hd0 fuel 139 cs = some (Rows.laid_forecourt_basic_changes, p)) :
    ∀ (i : Nat) (a b : Int), chL[i]? = some (a, b) → cs[i * 2]? = some (.int .i64 a) ∧ cs[i * 2 + 1]? = some (.int .i64 b) := by
  obtain ⟨xs, m, rfl, hx, hlen, hn, hel⟩ := DataW.trod_array Tryd.underlying139 h
  simp only [Prod.mk.injEq] at hx
  intro i a b hi
  have hi9 : i < 9 := (List.getElem?_eq_some_iff.1 hi).1
  have he := hel i hi9
  rw [c9] at he
  obtain ⟨y, hy⟩ : ∃ y, xs[i]? = some y := ⟨_, List.getElem?_eq_getElem (by omega)⟩
  rw [hy] at he
  have hd : (chL.map fun q : Int × Int => (DataW.agg [.lit (.int .i64 q.1), .lit (.int .i64 q.2)] : DataW H))[i]? = some y.1 := by
    have e2 := laid_eq.symm.trans hx.1
    injection e2 with e3
    rw [e3, List.getElem?_map, hy]
    rfl
  rw [List.getElem?_map, hi] at hd
  have hd' : (DataW.agg [.lit (.int .i64 a), .lit (.int .i64 b)] : DataW H) = y.1 := by simpa using hd
  obtain ⟨y0, y1, n, hyy, hl2, h0, h1⟩ := trod_struct2 Tryd.underlying138 he
  rw [hyy] at hd'
  simp only [DataW.agg.injEq, List.cons.injEq, and_true] at hd'
  dsimp only at h0 h1
  rw [c1] at h0 h1
  obtain ⟨k0, e0, f0, _⟩ := DataW.trod_int Tryd.underlying3 h0
  obtain ⟨k1, e1, f1, _⟩ := DataW.trod_int Tryd.underlying3 h1
  have g0 : k0 = a := by
    have := congrArg Prod.fst f0
    rw [← hd'.1] at this
    simpa using this.symm
  have g1 : k1 = b := by
    have := congrArg Prod.fst f1
    rw [← hd'.2] at this
    simpa using this.symm
  subst g0
  subst g1
  have q0 : (((cs.drop (i * 2)).take 2).drop 0).take 1 = [.int .i64 k0] := e0
  have q1 : (((cs.drop (i * 2)).take 2).drop 1).take 1 = [.int .i64 k1] := e1
  constructor
  · have := congrArg (fun l : List Value => l[0]?) q0
    simpa using this
  · have := congrArg (fun l : List Value => l[0]?) q1
    simpa using this

def laidL : List (String × DataW Unit) := [("unicode/utf8.acceptRanges", Rows.laid_unicode_utf8_acceptRanges), ("forecourt/basic.changes", Rows.laid_forecourt_basic_changes), ("unicode/utf8.first", Rows.laid_unicode_utf8_first)]
theorem of_laid {W : World} (h : laidMetH Tryd.prog laidL W) : ChT W := by
  rw [MakeChecks.laidMetH_plain _ _ _ (by kernel_rfl)] at h
  obtain ⟨ps, ⟨g0, t0, cs0, f0, p0, q0, hg0, ht0, hv0, hd0, ⟨g1, t1, cs1, f1, p1, q1, hg1, ht1, hv1, hd1, _, _⟩, _⟩, _, _⟩ := h
  obtain rfl := Option.some.inj (gCh.symm.trans hg1)
  obtain rfl := Option.some.inj (tCh.symm.trans ht1)
  have hc := fun j => World.var?_cell hg1 hv1 j
  have ht := ch_of_trod hd1
  have hat : ∀ (i : Nat) (a b : Int), chL[i]? = some (a, b) → W.cell? ⟨0, i * 2, none⟩ = some (.int .i64 a) ∧ W.cell? ⟨0, i * 2 + 1, none⟩ = some (.int .i64 b) := by
    intro i a b hi
    obtain ⟨h1, h2⟩ := ht i a b hi
    rw [Array.getElem?_toList] at h1 h2
    exact ⟨(hc _).trans h1, (hc _).trans h2⟩
  refine ⟨?_, hat⟩
  have h0 := (hat 0 0 0 rfl).1
  unfold World.cell? at h0
  split at h0
  · rename_i he
    exact (Array.getElem?_eq_some_iff.1 he).1
  · cases h0
/-- A start that meets the list: what the door's run leaves, Go's own table laid by hand. -/
noncomputable def laidWorld (os : Os) : World :=
  { World.doorLaid Tryd.prog 200 os with heap := (World.doorLaid Tryd.prog 200 os).heap.modify 2 fun
      | .cells _ t fr => .cells (Lib.firstTab.map (Value.int .u8)).toArray t fr
      | o => o }
set_option maxRecDepth 100000 in
theorem laid_met (os : Os) : laidMetH Tryd.prog laidL ((laidWorld os).forCall (fun _ _ => 0) ⟨#[], #[.slice none 0 0], []⟩).memory :=
  laidMetH_of_parts3 (fuel := 8) (laidMet_of_run' 8 (by kernel_rfl) (by kernel_rfl)) (by kernel_rfl) (by kernel_rfl)

/-! ### The row's last step -/
section
variable {H : Type} {enc : TypeId × Value → H} {P : Program}
theorem post_quiet {f : Func} {s : ChangeSpec} {apart fresh handsOn again : Bool} {W W' : World} {args : Array Value} {v : Value} {ds gs : List (DataW H)} {before pa pv : List MemPlace}
    (hW : DataW.Whole enc P f.params.toList s.vars apart W args.toList ds gs before) (hg : G W W' none)
    (hres : ∀ (b : Nat) (sp : Nat → Bool) (hd : Bool), DataW.TrodAll enc P W' b sp hd f.resultTypes.toList (v.resultList f.resultTypes.size) (s.fn H (ds ++ gs)).results [])
    (hargs : ∀ sp : Nat → Bool, (∀ p ∈ before, sp p.block = true) → DataW.TrodAll enc P W' 0 sp true f.params.toList args.toList (s.fn H (ds ++ gs)).args pa)
    (hvars : ∀ sp : Nat → Bool, (∀ p ∈ before, sp p.block = true) → DataW.TrodVars enc P W' sp s.vars (s.fn H (ds ++ gs)).vars pv)
    (hps : before = pa ++ pv)
    (hok : ∀ (j : Nat) (t : TypeId) (r : Value), f.resultTypes[j]? = some t → (v.resultList f.resultTypes.size)[j]? = some r → Value.okWide P W' .any 0 t r) :
    s.post enc P f apart fresh handsOn again W args v W' := by
  have hb := hg.below
  have lt : ∀ p ∈ before, p.block < W.heap.size := fun p hp => hW.lt p hp
  have old : ∀ p ∈ before, (fun b => decide (b < W.heap.size)) p.block = true := fun p hp => decide_eq_true (lt p hp)
  have sub : ∀ p, p ∈ ([] ++ pa) ++ pv → p ∈ before := fun p hp => by rw [hps]; simpa using hp
  refine ⟨ds, gs, before, [], pa, pv, hW, hres _ _ _, hargs _ old, hvars _ old, World.keptBut_mono (fun p hp => ⟨hp, .inr (by rw [← List.mem_append, ← hps]; exact hp)⟩) (hb.frame (· ∈ before)), fun _ => ⟨hok, ?_⟩⟩
  obtain ⟨_, _, _, _, _, hz, hn⟩ := hW
  refine ⟨_, _, ([] ++ pa) ++ pv, ⟨[] ++ pa, pv, trodAll_append (hargs _ fun _ _ => rfl) (hres _ _ _), hvars _ fun _ _ => rfl, rfl, fun b off hp => ?_, fun ha => ?_⟩, fun p hp _ => sub p hp⟩
  · rw [hb.frozen (lt _ (sub _ hp))]
    exact hz b off (sub _ hp)
  · have h := hn ha
    rw [hps] at h
    simpa using h
end
theorem laidOut : laidOutB Tryd.prog = true := by kernel_rfl
theorem wf64 {n : Int} (h : (Lit.int .i64 n).wf = true) : -9223372036854775808 ≤ n ∧ n ≤ 9223372036854775807 := by
  have h1 : IntKind.i64.min = -9223372036854775808 := rfl
  have h2 : IntKind.i64.max = 9223372036854775807 := rfl
  simp only [Lit.wf, Bool.and_eq_true, decide_eq_true_eq] at h
  omega
set_option maxRecDepth 100000 in
theorem has_of_ok {W : World} {base : Nat} {a : Addr} {n c : Nat} (hok : Value.okWide Tryd.prog W .any base 22 (.slice (some a) n c)) : a.spot = none ∧ a.block < W.heap.size := by
  simp only [Value.okWide, Tryd.underlying22, Cell.okWide, Cell.ok] at hok
  obtain ⟨_, _, _, h2, row, cells, h3, _⟩ := hok
  refine ⟨h2, ?_⟩
  unfold World.shape? at h3
  cases hh : W.heap[a.block]? with
  | none => simp [hh] at h3
  | some o => exact (Array.getElem?_eq_some_iff.1 hh).1
set_option maxRecDepth 100000 in
/-- The list of numbers that came in, as the walk wants it. -/
theorem rd_of_trod {H : Type} {enc : TypeId × Value → H} {W : World} {base : Nat} {v : Value} {d : DataW H} {p : List MemPlace} (hok : Value.okWide Tryd.prog W .any base 22 v) (h : DataW.Trod enc Tryd.prog W 0 (fun _ => true) true 22 v d p) :
    ∃ (a : Option Addr) (n c : Nat) (zs : List Int), v = .slice a n c ∧ Rd W 1 (.slice a n c) n (zs.map (Value.int .i64)) ∧ ∀ z ∈ zs, -9223372036854775808 ≤ z ∧ z ≤ 9223372036854775807 := by
  obtain ⟨a0, len, cap, rfl⟩ := okWide_slice Tryd.underlying22 hok
  obtain ⟨fuel, hf⟩ := h
  rcases open_ints Tryd.underlying22 Tryd.underlying3 c1 hf with ⟨hcs, _⟩ | ⟨a, len', cap', zs, hcs, _, hl, hm, hz, _, hcell, hw⟩
  · have hcs' : [Value.slice a0 len cap] = [Value.slice none 0 0] := hcs
    injection hcs' with e _
    injection e with e1 e2 e3
    subst e1; subst e2; subst e3
    exact ⟨none, 0, 0, [], rfl, ⟨none, 0, rfl, Nat.le_refl _, Nat.zero_le _, rfl, fun _ => ⟨rfl, rfl⟩, fun b hb => by cases hb⟩, fun z hz => by cases hz⟩
  · have hcs' : [Value.slice a0 len cap] = [Value.slice (some a) len' cap'] := hcs
    injection hcs' with e _
    injection e with e1 e2 e3
    subst e1; subst e2; subst e3
    simp only [if_true] at hz
    obtain ⟨s1, s2⟩ := has_of_ok hok
    refine ⟨some a, len, cap, zs.take len, rfl, ⟨some a, cap, rfl, hl, hm, by simp; omega, (fun e => by cases e), fun b hb => ?_⟩, fun z hz' => wf64 (hw z (List.mem_of_mem_take hz'))⟩
    obtain rfl := Option.some.inj hb
    refine ⟨s1, s2, fun j u hj => ?_⟩
    rw [List.getElem?_map] at hj
    obtain ⟨z, hz1, rfl⟩ := Option.map_eq_some_iff.1 hj
    have hjl := (List.getElem?_eq_some_iff.1 hz1).1
    simp at hjl
    have hc := hcell j (by omega)
    have hz2 : zs[j]? = some z := by rw [← hz1, List.getElem?_take, if_pos (by omega)]
    rw [List.getD, hz2] at hc
    have ha : a.add j = ⟨a.block, a.off + j, none⟩ := by
      obtain ⟨ab, ao, asp⟩ := a
      dsimp only at s1
      subst s1
      exact add_at ab ao j
    rw [ha] at hc
    exact hc
end Go.Proofs.YtlnoafkepfgooaaDoor
