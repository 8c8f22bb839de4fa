/- The binary searches: hasStation, hasClass, hasVehicle. -/
import Derived.Test.YtjjgohainbjecaaDoorOrd
import Derived.Deep.LoopGhost
namespace Go.Proofs.YtjjgohainbjecaaDoor
open Go.RowKit

/-- As 'wpList_load_at', where the operation is guarded and its guard says yes. -/
theorem wpList_load_at_g {P : Program} {ops : Array Oper} {rest : List Oper} {o : Oper} {a : Act} {w : World} {Q : Exit → Act → World → Prop} (hw : Region.wanted o (yielded ops a.tmps) = true) (ty : TypeId) (x : Operand) (ho : o.op = .load ty x)
    (ad : Addr) (hx : a.eval x = .pointer (some ad)) (cs : Array Value) (d : TypeDesc) (hc : ∀ j v, cs.toList[j]? = some v → w.cell? (ad.add j) = some v)
    (hu : P.underlying ty = some d) (hd : (match d with | .struct _ | .array _ _ => true | _ => false) = true) (hi : (P.info? ty).map (·.size) = some cs.size)
    (h : wpList P ops Q rest (a.put o.dst (.agg cs)) w) : wpList P ops Q (o :: rest) a w :=
  wpList_step fun K hK => by
    rw [if_pos hw]
    unfold Oper.wp execOp
    simp only [ho, hx, Instr.loadAt, Instr.sureAddr, Sem.run_bind, Sem.run_pure, Result.andThen_ok, run_loadVar_at w ad ty cs d hc hu hd hi]
    exact hK _ _ h
/-- A vehicle: its key, its class. -/
abbrev Veh := ByteArray × ByteArray
theorem ve_info (p : Veh) : (Tryd.prog.info? 69).map (·.size) = some (clC p).size := (by kernel_rfl : (Tryd.prog.info? 69).map (·.size) = some 2)
def BsPost (b : Bool) (w : World) (e : Ending) (w' : World) : Prop := ∃ i : Int, e = .returned (.tuple #[.int .i64 i, .bool b]) ∧ G w w' none
def BelowB (l : List ByteArray) (t : ByteArray) (i : Nat) : Prop := ∀ (j : Nat) (s : ByteArray), j < i → l[j]? = some s → cmpI s t < 0
def FromB (l : List ByteArray) (t : ByteArray) (i : Nat) : Prop := ∀ (j : Nat) (s : ByteArray), i ≤ j → l[j]? = some s → 0 ≤ cmpI s t
theorem BelowB.up {l : List ByteArray} {t s : ByteArray} {i : Nat} (hr : Rise l) (hs : l[i]? = some s) (h : cmpI s t < 0) : BelowB l t (i + 1) := by
  intro j u hj hu
  by_cases e : j = i
  · subst e; rw [hs] at hu; obtain rfl := Option.some.inj hu; exact h
  · have hjl := (List.getElem?_eq_some_iff.1 hu)
    have hil := (List.getElem?_eq_some_iff.1 hs)
    have := List.pairwise_iff_getElem.1 hr j i hjl.1 hil.1 (by omega)
    rw [hil.2, hjl.2] at this
    exact cmpI_trans this h
theorem FromB.down {l : List ByteArray} {t s : ByteArray} {i : Nat} (hr : Rise l) (hs : l[i]? = some s) (h : 0 ≤ cmpI s t) : FromB l t i := by
  intro j u hj hu
  by_cases e : j = i
  · subst e; rw [hs] at hu; obtain rfl := Option.some.inj hu; exact h
  · have hjl := (List.getElem?_eq_some_iff.1 hu)
    have hil := (List.getElem?_eq_some_iff.1 hs)
    have := List.pairwise_iff_getElem.1 hr i j hil.1 hjl.1 (by omega)
    rw [hil.2, hjl.2] at this
    have h3 := cmpI_neg s t
    have h4 : ¬ cmpI u t < 0 := fun q => by have := cmpI_trans this q; omega
    omega
def BsRel (w : World) (l : List ByteArray) (t : ByteArray) (kx : Nat) (s9 s10 : Value) (wr : World) : Prop :=
  ∃ lo hi : Nat, s9 = .int .i64 lo ∧ s10 = .int .i64 hi ∧ lo ≤ hi ∧ hi ≤ l.length ∧ hi - lo ≤ kx ∧ BelowB l t lo ∧ FromB l t hi ∧ G w wr none

/-! ### St -/
theorem cmpSt_c (p : Sta) (t : ByteArray) (w : World) : Calls Tryd.prog 78 #[.agg (stC p.1 p.2), .string t] w fun e w' => e = .returned (.int .i64 (cmpI p.1 t)) ∧ G w w' none := by
  have hc := (Bk.new w 66 (stC p.1 p.2)).cell 0
  rw [show (stC p.1 p.2)[0]? = some (.string p.1) from rfl] at hc
  go_enter Tryd.func78, Tryd.ntmps78
  go_wp2_with fail
  refine (compare_c _ _ _).mono ?_; rintro e w' ⟨rfl, rfl⟩
  go_wp2_with fail
  go_ret
  exact ⟨rfl, (G.refl _ _).alloc _⟩
set_option maxRecDepth 100000 in
set_option maxHeartbeats 2000000 in
theorem bsSt_c (v : Value) (l : List Sta) (t : ByteArray) (w : World) (hr : Rd w 15 v l.length (stL l)) (hn : l.length ≤ 1000000) (hs : Rise (l.map (·.1))) :
    Calls Tryd.prog 77 #[v, .string t, .func (.func 78) #[] #[]] w (BsPost (hasK (l.map (·.1)) t) w) := by
  obtain ⟨a, cap, rfl, hcap, hm, hlen, hnil, hcell⟩ := hr
  have HS := Lib.hid hs
  clear hs
  have hat : ∀ (k : Nat) (p : Sta), l[k]? = some p → (l.map (·.1))[k]? = some p.1 := fun k p h => by rw [List.getElem?_map, h]; rfl
  have HAT := Lib.hid hat
  clear hat
  have hll : (l.map (·.1)).length = l.length := List.length_map _
  obtain ⟨ks, hks⟩ : ∃ ks, l.map (·.1) = ks := ⟨_, rfl⟩
  rw [hks] at HS HAT hll ⊢
  clear hks
  have HLL := Lib.hid hll
  clear hll
  go_enter Tryd.func77, Tryd.ntmps77
  go_wp2_with fail
  go_loopg [9, 10] l.length (BsRel w ks t)
  case atStart => exact ⟨0, l.length, rfl, rfl, Nat.zero_le _, Nat.le_of_eq HLL.out.symm, by omega, fun j s hj => absurd hj (Nat.not_lt_zero _), fun j s hj hu => by have h1 := (List.getElem?_eq_some_iff.1 hu).1; have h2 := HLL.out; omega, G.refl _ _⟩
  case round =>
    obtain ⟨lo, hi, rfl, rfl, hlh, hin, hg, hbe, hfr, hG⟩ := hrel
    have HB := Lib.hid hbe
    have HF := Lib.hid hfr
    clear hbe hfr
    have hin' : hi ≤ l.length := by have := HLL.out; omega
    clear hin
    by_cases hlt : lo < hi
    · obtain ⟨m, hm0⟩ : ∃ m, (lo + hi) / 2 = m := ⟨_, rfl⟩
      have hml : lo ≤ m ∧ m < hi := by omega
      obtain ⟨hml1, hml2⟩ := hml
      have hmi : ((lo : Int) + (hi : Int)) / 2 = (m : Int) := by omega
      have HM := Lib.hid hm0
      clear hm0
      obtain ⟨p, hp⟩ : ∃ p, l[m]? = some p := ⟨_, List.getElem?_eq_getElem (by omega)⟩
      cases a with
      | none => have := (hnil rfl).1; omega
      | some ad =>
        obtain ⟨bb, bo, bs⟩ := ad
        obtain ⟨e1, e2, e3⟩ := hcell _ rfl
        dsimp only at e1 e2 e3
        subst e1
        have hrow : ∀ j v, (stC p.1 p.2).toList[j]? = some v → wr.cell? ((⟨bb, bo + m * 15, none⟩ : Addr).add j) = some v := by
          intro j v hv
          rw [add_at]
          have h1 := e3 (m * 15 + j) v (stL_at l m p hp j v hv)
          rw [← Nat.add_assoc] at h1
          exact ((gcell hG).1 bb _ e2).trans h1
        have HW := Lib.hid hrow
        clear hrow hcell e3 hnil
        have hp1 := HAT.out m p hp
        have HP := Lib.hid hp1
        clear hp1 hp
        by_cases hc : cmpI p.1 t < 0
        · have HU := Lib.hid (BelowB.up HS.out HP.out hc)
          go_wp2_with (refine wpList_load_at rfl 66 _ rfl ⟨bb, bo + m * 15, none⟩ rfl (stC p.1 p.2) _ HW.out Tryd.underlying66 rfl (st_info p.1 p.2) ?_)
          refine (cmpSt_c p t _).mono ?_; rintro e w1 ⟨rfl, hG1⟩
          go_wp2_with fail
          go_roundg (hi - (m + 1))
          case measure => omega
          case rel => exact ⟨m + 1, hi, by go_num, rfl, by omega, by have := HLL.out; omega, Nat.le_refl _, HU.out, HF.out, hG.trans hG1⟩
        · have HU := Lib.hid (FromB.down (t := t) HS.out HP.out (by omega))
          have hc' : 0 ≤ cmpI p.1 t := by omega
          go_wp2_with (refine wpList_load_at rfl 66 _ rfl ⟨bb, bo + m * 15, none⟩ rfl (stC p.1 p.2) _ HW.out Tryd.underlying66 rfl (st_info p.1 p.2) ?_)
          refine (cmpSt_c p t _).mono ?_; rintro e w1 ⟨rfl, hG1⟩
          go_wp2_with fail
          go_roundg (m - lo)
          case measure => omega
          case rel => exact ⟨lo, m, rfl, rfl, by omega, by have := HLL.out; omega, Nat.le_refl _, HB.out, HU.out, hG.trans hG1⟩
    · obtain rfl : hi = lo := by omega
      have hfd := bs_found ks t HS.out hi (by have := HLL.out; omega) HB.out HF.out
      have HD := Lib.hid hfd
      clear hfd
      by_cases hn' : hi < l.length
      · obtain ⟨p, hp⟩ : ∃ p, l[hi]? = some p := ⟨_, List.getElem?_eq_getElem hn'⟩
        cases a with
        | none => have := (hnil rfl).1; omega
        | some ad =>
          obtain ⟨bb, bo, bs⟩ := ad
          obtain ⟨e1, e2, e3⟩ := hcell _ rfl
          dsimp only at e1 e2 e3
          subst e1
          have hrow : ∀ j v, (stC p.1 p.2).toList[j]? = some v → wr.cell? ((⟨bb, bo + hi * 15, none⟩ : Addr).add j) = some v := by
            intro j v hv
            rw [add_at]
            have h1 := e3 (hi * 15 + j) v (stL_at l hi p hp j v hv)
            rw [← Nat.add_assoc] at h1
            exact ((gcell hG).1 bb _ e2).trans h1
          have HW := Lib.hid hrow
          clear hrow hcell e3 hnil
          have HN : Hid (hasK ks t = decide (cmpI p.1 t = 0)) := Lib.hid (by rw [HD.out, HAT.out hi p hp])
          clear hp
          go_wp2_with (refine wpList_load_at_g rfl 66 _ rfl ⟨bb, bo + hi * 15, none⟩ rfl (stC p.1 p.2) _ HW.out Tryd.underlying66 rfl (st_info p.1 p.2) ?_)
          refine (cmpSt_c p t _).mono ?_; rintro e w1 ⟨rfl, hG1⟩
          go_wp2_with fail
          go_ret2
          exact ⟨_, by rw [HN.out]; rfl, hG.trans hG1⟩
      · have HN : Hid (hasK ks t = false) := Lib.hid (by rw [HD.out, List.getElem?_eq_none (by have := HLL.out; omega)])
        go_wp2_with fail
        go_ret2
        exact ⟨_, by rw [HN.out]; rfl, hG⟩
set_option maxRecDepth 100000 in
theorem hasStation_c (v0 v1 v2 v3 : Value) (l : List Sta) (t : ByteArray) (w : World) (hr : Rd w 15 v0 l.length (stL l)) (hn : l.length ≤ 1000000) (hs : Rise (l.map (·.1))) :
    Calls Tryd.prog 65 #[.agg #[v0, v1, v2, v3], .string t] w fun e w' => e = .returned (.bool (hasK (l.map (·.1)) t)) ∧ G w w' none := by
  have HR := Lib.hid (hr.quiet ((G.refl w none).alloc (.cells #[v0, v1, v2, v3] 73)))
  have HS := Lib.hid hs
  have hc := (Bk.new w 73 #[v0, v1, v2, v3]).cell 0
  rw [show (#[v0, v1, v2, v3] : Array Value)[0]? = some v0 from rfl] at hc
  clear hs
  go_enter Tryd.func65, Tryd.ntmps65
  go_wp2_with fail
  refine (bsSt_c _ l t _ HR.out hn HS.out).mono ?_; rintro e w1 ⟨i, rfl, hG1⟩
  go_wp2_with fail
  go_ret
  exact ⟨rfl, ((G.refl w none).alloc _).trans hG1⟩

/-! ### Cl -/
theorem cmpCl_c (p : Cla) (t : ByteArray) (w : World) : Calls Tryd.prog 86 #[.agg (clC p), .string t] w fun e w' => e = .returned (.int .i64 (cmpI p.1 t)) ∧ G w w' none := by
  have hc := (Bk.new w 48 (clC p)).cell 0
  rw [show (clC p)[0]? = some (.string p.1) from rfl] at hc
  go_enter Tryd.func86, Tryd.ntmps86
  go_wp2_with fail
  refine (compare_c _ _ _).mono ?_; rintro e w' ⟨rfl, rfl⟩
  go_wp2_with fail
  go_ret
  exact ⟨rfl, (G.refl _ _).alloc _⟩
set_option maxRecDepth 100000 in
set_option maxHeartbeats 2000000 in
theorem bsCl_c (v : Value) (l : List Cla) (t : ByteArray) (w : World) (hr : Rd w 2 v l.length (clL l)) (hn : l.length ≤ 1000000) (hs : Rise (l.map (·.1))) :
    Calls Tryd.prog 85 #[v, .string t, .func (.func 86) #[] #[]] w (BsPost (hasK (l.map (·.1)) t) w) := by
  obtain ⟨a, cap, rfl, hcap, hm, hlen, hnil, hcell⟩ := hr
  have HS := Lib.hid hs
  clear hs
  have hat : ∀ (k : Nat) (p : Cla), l[k]? = some p → (l.map (·.1))[k]? = some p.1 := fun k p h => by rw [List.getElem?_map, h]; rfl
  have HAT := Lib.hid hat
  clear hat
  have hll : (l.map (·.1)).length = l.length := List.length_map _
  obtain ⟨ks, hks⟩ : ∃ ks, l.map (·.1) = ks := ⟨_, rfl⟩
  rw [hks] at HS HAT hll ⊢
  clear hks
  have HLL := Lib.hid hll
  clear hll
  go_enter Tryd.func85, Tryd.ntmps85
  go_wp2_with fail
  go_loopg [9, 10] l.length (BsRel w ks t)
  case atStart => exact ⟨0, l.length, rfl, rfl, Nat.zero_le _, Nat.le_of_eq HLL.out.symm, by omega, fun j s hj => absurd hj (Nat.not_lt_zero _), fun j s hj hu => by have h1 := (List.getElem?_eq_some_iff.1 hu).1; have h2 := HLL.out; omega, G.refl _ _⟩
  case round =>
    obtain ⟨lo, hi, rfl, rfl, hlh, hin, hg, hbe, hfr, hG⟩ := hrel
    have HB := Lib.hid hbe
    have HF := Lib.hid hfr
    clear hbe hfr
    have hin' : hi ≤ l.length := by have := HLL.out; omega
    clear hin
    by_cases hlt : lo < hi
    · obtain ⟨m, hm0⟩ : ∃ m, (lo + hi) / 2 = m := ⟨_, rfl⟩
      have hml : lo ≤ m ∧ m < hi := by omega
      obtain ⟨hml1, hml2⟩ := hml
      have hmi : ((lo : Int) + (hi : Int)) / 2 = (m : Int) := by omega
      have HM := Lib.hid hm0
      clear hm0
      obtain ⟨p, hp⟩ : ∃ p, l[m]? = some p := ⟨_, List.getElem?_eq_getElem (by omega)⟩
      cases a with
      | none => have := (hnil rfl).1; omega
      | some ad =>
        obtain ⟨bb, bo, bs⟩ := ad
        obtain ⟨e1, e2, e3⟩ := hcell _ rfl
        dsimp only at e1 e2 e3
        subst e1
        have hrow : ∀ j v, (clC p).toList[j]? = some v → wr.cell? ((⟨bb, bo + m * 2, none⟩ : Addr).add j) = some v := by
          intro j v hv
          rw [add_at]
          have h1 := e3 (m * 2 + j) v (clL_at l m p hp j v hv)
          rw [← Nat.add_assoc] at h1
          exact ((gcell hG).1 bb _ e2).trans h1
        have HW := Lib.hid hrow
        clear hrow hcell e3 hnil
        have hp1 := HAT.out m p hp
        have HP := Lib.hid hp1
        clear hp1 hp
        by_cases hc : cmpI p.1 t < 0
        · have HU := Lib.hid (BelowB.up HS.out HP.out hc)
          go_wp2_with (refine wpList_load_at rfl 48 _ rfl ⟨bb, bo + m * 2, none⟩ rfl (clC p) _ HW.out Tryd.underlying48 rfl (cl_info p) ?_)
          refine (cmpCl_c p t _).mono ?_; rintro e w1 ⟨rfl, hG1⟩
          go_wp2_with fail
          go_roundg (hi - (m + 1))
          case measure => omega
          case rel => exact ⟨m + 1, hi, by go_num, rfl, by omega, by have := HLL.out; omega, Nat.le_refl _, HU.out, HF.out, hG.trans hG1⟩
        · have HU := Lib.hid (FromB.down (t := t) HS.out HP.out (by omega))
          have hc' : 0 ≤ cmpI p.1 t := by omega
          go_wp2_with (refine wpList_load_at rfl 48 _ rfl ⟨bb, bo + m * 2, none⟩ rfl (clC p) _ HW.out Tryd.underlying48 rfl (cl_info p) ?_)
          refine (cmpCl_c p t _).mono ?_; rintro e w1 ⟨rfl, hG1⟩
          go_wp2_with fail
          go_roundg (m - lo)
          case measure => omega
          case rel => exact ⟨lo, m, rfl, rfl, by omega, by have := HLL.out; omega, Nat.le_refl _, HB.out, HU.out, hG.trans hG1⟩
    · obtain rfl : hi = lo := by omega
      have hfd := bs_found ks t HS.out hi (by have := HLL.out; omega) HB.out HF.out
      have HD := Lib.hid hfd
      clear hfd
      by_cases hn' : hi < l.length
      · obtain ⟨p, hp⟩ : ∃ p, l[hi]? = some p := ⟨_, List.getElem?_eq_getElem hn'⟩
        cases a with
        | none => have := (hnil rfl).1; omega
        | some ad =>
          obtain ⟨bb, bo, bs⟩ := ad
          obtain ⟨e1, e2, e3⟩ := hcell _ rfl
          dsimp only at e1 e2 e3
          subst e1
          have hrow : ∀ j v, (clC p).toList[j]? = some v → wr.cell? ((⟨bb, bo + hi * 2, none⟩ : Addr).add j) = some v := by
            intro j v hv
            rw [add_at]
            have h1 := e3 (hi * 2 + j) v (clL_at l hi p hp j v hv)
            rw [← Nat.add_assoc] at h1
            exact ((gcell hG).1 bb _ e2).trans h1
          have HW := Lib.hid hrow
          clear hrow hcell e3 hnil
          have HN : Hid (hasK ks t = decide (cmpI p.1 t = 0)) := Lib.hid (by rw [HD.out, HAT.out hi p hp])
          clear hp
          go_wp2_with (refine wpList_load_at_g rfl 48 _ rfl ⟨bb, bo + hi * 2, none⟩ rfl (clC p) _ HW.out Tryd.underlying48 rfl (cl_info p) ?_)
          refine (cmpCl_c p t _).mono ?_; rintro e w1 ⟨rfl, hG1⟩
          go_wp2_with fail
          go_ret2
          exact ⟨_, by rw [HN.out]; rfl, hG.trans hG1⟩
      · have HN : Hid (hasK ks t = false) := Lib.hid (by rw [HD.out, List.getElem?_eq_none (by have := HLL.out; omega)])
        go_wp2_with fail
        go_ret2
        exact ⟨_, by rw [HN.out]; rfl, hG⟩
set_option maxRecDepth 100000 in
theorem hasClass_c (v0 v1 v2 v3 : Value) (l : List Cla) (t : ByteArray) (w : World) (hr : Rd w 2 v1 l.length (clL l)) (hn : l.length ≤ 1000000) (hs : Rise (l.map (·.1))) :
    Calls Tryd.prog 73 #[.agg #[v0, v1, v2, v3], .string t] w fun e w' => e = .returned (.bool (hasK (l.map (·.1)) t)) ∧ G w w' none := by
  have HR := Lib.hid (hr.quiet ((G.refl w none).alloc (.cells #[v0, v1, v2, v3] 73)))
  have HS := Lib.hid hs
  have hc := (Bk.new w 73 #[v0, v1, v2, v3]).cell 1
  rw [show (#[v0, v1, v2, v3] : Array Value)[1]? = some v1 from rfl] at hc
  clear hs
  go_enter Tryd.func73, Tryd.ntmps73
  go_wp2_with fail
  refine (bsCl_c _ l t _ HR.out hn HS.out).mono ?_; rintro e w1 ⟨i, rfl, hG1⟩
  go_wp2_with fail
  go_ret
  exact ⟨rfl, ((G.refl w none).alloc _).trans hG1⟩

/-! ### Ve -/
theorem cmpVe_c (p : Veh) (t : ByteArray) (w : World) : Calls Tryd.prog 56 #[.agg (clC p), .string t] w fun e w' => e = .returned (.int .i64 (cmpI p.1 t)) ∧ G w w' none := by
  have hc := (Bk.new w 69 (clC p)).cell 0
  rw [show (clC p)[0]? = some (.string p.1) from rfl] at hc
  go_enter Tryd.func56, Tryd.ntmps56
  go_wp2_with fail
  refine (compare_c _ _ _).mono ?_; rintro e w' ⟨rfl, rfl⟩
  go_wp2_with fail
  go_ret
  exact ⟨rfl, (G.refl _ _).alloc _⟩
set_option maxRecDepth 100000 in
set_option maxHeartbeats 2000000 in
theorem bsVe_c (v : Value) (l : List Veh) (t : ByteArray) (w : World) (hr : Rd w 2 v l.length (clL l)) (hn : l.length ≤ 1000000) (hs : Rise (l.map (·.1))) :
    Calls Tryd.prog 55 #[v, .string t, .func (.func 56) #[] #[]] w (BsPost (hasK (l.map (·.1)) t) w) := by
  obtain ⟨a, cap, rfl, hcap, hm, hlen, hnil, hcell⟩ := hr
  have HS := Lib.hid hs
  clear hs
  have hat : ∀ (k : Nat) (p : Veh), l[k]? = some p → (l.map (·.1))[k]? = some p.1 := fun k p h => by rw [List.getElem?_map, h]; rfl
  have HAT := Lib.hid hat
  clear hat
  have hll : (l.map (·.1)).length = l.length := List.length_map _
  obtain ⟨ks, hks⟩ : ∃ ks, l.map (·.1) = ks := ⟨_, rfl⟩
  rw [hks] at HS HAT hll ⊢
  clear hks
  have HLL := Lib.hid hll
  clear hll
  go_enter Tryd.func55, Tryd.ntmps55
  go_wp2_with fail
  go_loopg [9, 10] l.length (BsRel w ks t)
  case atStart => exact ⟨0, l.length, rfl, rfl, Nat.zero_le _, Nat.le_of_eq HLL.out.symm, by omega, fun j s hj => absurd hj (Nat.not_lt_zero _), fun j s hj hu => by have h1 := (List.getElem?_eq_some_iff.1 hu).1; have h2 := HLL.out; omega, G.refl _ _⟩
  case round =>
    obtain ⟨lo, hi, rfl, rfl, hlh, hin, hg, hbe, hfr, hG⟩ := hrel
    have HB := Lib.hid hbe
    have HF := Lib.hid hfr
    clear hbe hfr
    have hin' : hi ≤ l.length := by have := HLL.out; omega
    clear hin
    by_cases hlt : lo < hi
    · obtain ⟨m, hm0⟩ : ∃ m, (lo + hi) / 2 = m := ⟨_, rfl⟩
      have hml : lo ≤ m ∧ m < hi := by omega
      obtain ⟨hml1, hml2⟩ := hml
      have hmi : ((lo : Int) + (hi : Int)) / 2 = (m : Int) := by omega
      have HM := Lib.hid hm0
      clear hm0
      obtain ⟨p, hp⟩ : ∃ p, l[m]? = some p := ⟨_, List.getElem?_eq_getElem (by omega)⟩
      cases a with
      | none => have := (hnil rfl).1; omega
      | some ad =>
        obtain ⟨bb, bo, bs⟩ := ad
        obtain ⟨e1, e2, e3⟩ := hcell _ rfl
        dsimp only at e1 e2 e3
        subst e1
        have hrow : ∀ j v, (clC p).toList[j]? = some v → wr.cell? ((⟨bb, bo + m * 2, none⟩ : Addr).add j) = some v := by
          intro j v hv
          rw [add_at]
          have h1 := e3 (m * 2 + j) v (clL_at l m p hp j v hv)
          rw [← Nat.add_assoc] at h1
          exact ((gcell hG).1 bb _ e2).trans h1
        have HW := Lib.hid hrow
        clear hrow hcell e3 hnil
        have hp1 := HAT.out m p hp
        have HP := Lib.hid hp1
        clear hp1 hp
        by_cases hc : cmpI p.1 t < 0
        · have HU := Lib.hid (BelowB.up HS.out HP.out hc)
          go_wp2_with (refine wpList_load_at rfl 69 _ rfl ⟨bb, bo + m * 2, none⟩ rfl (clC p) _ HW.out Tryd.underlying69 rfl (ve_info p) ?_)
          refine (cmpVe_c p t _).mono ?_; rintro e w1 ⟨rfl, hG1⟩
          go_wp2_with fail
          go_roundg (hi - (m + 1))
          case measure => omega
          case rel => exact ⟨m + 1, hi, by go_num, rfl, by omega, by have := HLL.out; omega, Nat.le_refl _, HU.out, HF.out, hG.trans hG1⟩
        · have HU := Lib.hid (FromB.down (t := t) HS.out HP.out (by omega))
          have hc' : 0 ≤ cmpI p.1 t := by omega
          go_wp2_with (refine wpList_load_at rfl 69 _ rfl ⟨bb, bo + m * 2, none⟩ rfl (clC p) _ HW.out Tryd.underlying69 rfl (ve_info p) ?_)
          refine (cmpVe_c p t _).mono ?_; rintro e w1 ⟨rfl, hG1⟩
          go_wp2_with fail
          go_roundg (m - lo)
          case measure => omega
          case rel => exact ⟨lo, m, rfl, rfl, by omega, by have := HLL.out; omega, Nat.le_refl _, HB.out, HU.out, hG.trans hG1⟩
    · obtain rfl : hi = lo := by omega
      have hfd := bs_found ks t HS.out hi (by have := HLL.out; omega) HB.out HF.out
      have HD := Lib.hid hfd
      clear hfd
      by_cases hn' : hi < l.length
      · obtain ⟨p, hp⟩ : ∃ p, l[hi]? = some p := ⟨_, List.getElem?_eq_getElem hn'⟩
        cases a with
        | none => have := (hnil rfl).1; omega
        | some ad =>
          obtain ⟨bb, bo, bs⟩ := ad
          obtain ⟨e1, e2, e3⟩ := hcell _ rfl
          dsimp only at e1 e2 e3
          subst e1
          have hrow : ∀ j v, (clC p).toList[j]? = some v → wr.cell? ((⟨bb, bo + hi * 2, none⟩ : Addr).add j) = some v := by
            intro j v hv
            rw [add_at]
            have h1 := e3 (hi * 2 + j) v (clL_at l hi p hp j v hv)
            rw [← Nat.add_assoc] at h1
            exact ((gcell hG).1 bb _ e2).trans h1
          have HW := Lib.hid hrow
          clear hrow hcell e3 hnil
          have HN : Hid (hasK ks t = decide (cmpI p.1 t = 0)) := Lib.hid (by rw [HD.out, HAT.out hi p hp])
          clear hp
          go_wp2_with (refine wpList_load_at_g rfl 69 _ rfl ⟨bb, bo + hi * 2, none⟩ rfl (clC p) _ HW.out Tryd.underlying69 rfl (ve_info p) ?_)
          refine (cmpVe_c p t _).mono ?_; rintro e w1 ⟨rfl, hG1⟩
          go_wp2_with fail
          go_ret2
          exact ⟨_, by rw [HN.out]; rfl, hG.trans hG1⟩
      · have HN : Hid (hasK ks t = false) := Lib.hid (by rw [HD.out, List.getElem?_eq_none (by have := HLL.out; omega)])
        go_wp2_with fail
        go_ret2
        exact ⟨_, by rw [HN.out]; rfl, hG⟩
set_option maxRecDepth 100000 in
theorem hasVehicle_c (v0 v1 v2 v3 : Value) (l : List Veh) (t : ByteArray) (w : World) (hr : Rd w 2 v2 l.length (clL l)) (hn : l.length ≤ 1000000) (hs : Rise (l.map (·.1))) :
    Calls Tryd.prog 42 #[.agg #[v0, v1, v2, v3], .string t] w fun e w' => e = .returned (.bool (hasK (l.map (·.1)) t)) ∧ G w w' none := by
  have HR := Lib.hid (hr.quiet ((G.refl w none).alloc (.cells #[v0, v1, v2, v3] 73)))
  have HS := Lib.hid hs
  have hc := (Bk.new w 73 #[v0, v1, v2, v3]).cell 2
  rw [show (#[v0, v1, v2, v3] : Array Value)[2]? = some v2 from rfl] at hc
  clear hs
  go_enter Tryd.func42, Tryd.ntmps42
  go_wp2_with fail
  refine (bsVe_c _ l t _ HR.out hn HS.out).mono ?_; rintro e w1 ⟨i, rfl, hG1⟩
  go_wp2_with fail
  go_ret
  exact ⟨rfl, ((G.refl w none).alloc _).trans hG1⟩
end Go.Proofs.YtjjgohainbjecaaDoor
