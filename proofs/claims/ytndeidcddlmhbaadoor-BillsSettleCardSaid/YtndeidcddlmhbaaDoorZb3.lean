/- Stp, Hit, Hiu, Odm, Bkf, Tir, Can, Low, Bkd, Odc, Ode, Rdy. -/
import Derived.Test.YtndeidcddlmhbaaDoorZb2
import Derived.OrdersHeld
import Derived.BigQuiet
import Derived.Test.YtndeidcddlmhbaaDoorZb1
import Derived.Laws.ResultCell
import Derived.Deep.RegionHeld3
import Derived.StillTailTactics
import Derived.Laws.StructEq
/- A region that draws its order, told operation by operation: each one's value is told once, whatever the order. No program. -/
namespace Go.Proofs.YtndeidcddlmhbaaDoor
open Go.RowKit

/-- What an operation left. -/
def valOf (a : Act) (o : Oper) : Value := match o.dst with | some d => a.tmps.getD d undef | none => undef
/-- Values put where the operations put theirs. -/
def putAll (f : Nat → Value) : Nat → List Oper → Act → Act
  | _, [], a => a
  | i, o :: r, a => putAll f (i + 1) r (a.put o.dst (f i))
def dstsOf (l : List Oper) : List Nat := l.filterMap (·.dst)
/-- No guards; who is waited for stands ahead; each writes a slot of its own, that there is. -/
def stepsB (md : Region.Mode) (l : List Oper) (n : Nat) : Bool :=
  (l.zipIdx.all fun p => p.1.guard.isNone && (p.1.after.all fun e => !Region.binds md e || decide (e.on < p.2)) && (match p.1.dst with | some d => decide (d < n) | none => true)) && decide (dstsOf l).Nodup
/-- Is number j waited for by o? -/
def predB (md : Region.Mode) (o : Oper) (j : Nat) : Bool := o.after.any fun e => Region.binds md e && e.on == j
def Same (ops : List Oper) (a0 a : Act) : Prop := a.defers = a0.defers ∧ a.tmps.size = a0.tmps.size ∧ ∀ d, d ∉ dstsOf ops → a.tmps.getD d undef = a0.tmps.getD d undef
theorem put_defers (a : Act) (d : Option Tmp) (v : Value) : (a.put d v).defers = a.defers := by cases d <;> rfl
theorem put_size (a : Act) (d : Option Tmp) (v : Value) : (a.put d v).tmps.size = a.tmps.size := by cases d <;> simp [Act.put]
theorem put_getD_ne (a : Act) (d : Option Tmp) (v : Value) (k : Nat) (h : d ≠ some k) : (a.put d v).tmps.getD k undef = a.tmps.getD k undef := by
  cases d with
  | none => rfl
  | some d =>
    have : d ≠ k := fun e => h (by rw [e])
    simp [Act.put, this]
theorem put_getD (a : Act) (d : Nat) (v : Value) (h : d < a.tmps.size) : (a.put (some d) v).tmps.getD d undef = v := by
  simp [Act.put, h]
section
variable {P : Program} {Q : Exit → Act → World → Prop} {md : Region.Mode}
/-- What an operation is asked for. -/
def StepOk (P : Program) (md : Region.Mode) (Q : Exit → Act → World → Prop) (ops : List Oper) (a0 : Act) (J : Nat → World → Prop) (V : Nat → Value → World → Prop) (Kp : World → World → Prop) (i : Nat) (o : Oper) : Prop :=
  ∀ n a w, J n w → Same ops a0 a → (∀ j oj, predB md o j = true → ops[j]? = some oj → V j (valOf a oj) w) → ∀ K : Act → World → Prop, (∀ v w', (o.dst = none → v = undef) → V i v w' → J (n + 1) w' → Kp w w' → K (a.put o.dst v) w') → Oper.wp P o a w K Q
def AllOk (P : Program) (md : Region.Mode) (Q : Exit → Act → World → Prop) (ops : List Oper) (a0 : Act) (J : Nat → World → Prop) (V : Nat → Value → World → Prop) (Kp : World → World → Prop) : Nat → List Oper → Prop
  | _, [] => True
  | i, o :: r => StepOk P md Q ops a0 J V Kp i o ∧ AllOk P md Q ops a0 J V Kp (i + 1) r
theorem allOk_at {ops : List Oper} {a0 : Act} {J : Nat → World → Prop} {V : Nat → Value → World → Prop} {Kp : World → World → Prop} : ∀ (l : List Oper) (b : Nat), AllOk P md Q ops a0 J V Kp b l → ∀ (i : Nat) (o : Oper), l[i]? = some o → StepOk P md Q ops a0 J V Kp (b + i) o
  | [], _, _, i, o, h => by simp at h
  | x :: r, b, hA, i, o, h => by
    cases i with
    | zero => obtain rfl : x = o := by simpa using h
              exact hA.1
    | succ i =>
      have := allOk_at r (b + 1) hA.2 i o (by simpa using h)
      rwa [show b + 1 + i = b + (i + 1) by omega] at this
theorem dst_mem {l : List Oper} {i : Nat} {o : Oper} {d : Nat} (h : l[i]? = some o) (hd : o.dst = some d) : d ∈ dstsOf l :=
  List.mem_filterMap.2 ⟨o, List.mem_of_getElem? h, hd⟩
theorem dst_inj : ∀ {l : List Oper}, (dstsOf l).Nodup → ∀ {i j : Nat} {o p : Oper} {d : Nat}, l[i]? = some o → l[j]? = some p → o.dst = some d → p.dst = some d → i = j
  | [], _, i, _, _, _, _, h, _, _, _ => by simp at h
  | x :: r, hn, i, j, o, p, d, hi, hj, ho, hp => by
    have hr : (dstsOf r).Nodup := by
      unfold dstsOf at hn ⊢
      rw [List.filterMap_cons] at hn
      split at hn
      · exact hn
      · exact (List.nodup_cons.1 hn).2
    have hx : ∀ {k : Nat} {q : Oper}, x.dst = some d → r[k]? = some q → q.dst = some d → False := fun {k q} h1 h2 h3 => by
      unfold dstsOf at hn
      rw [List.filterMap_cons, h1] at hn
      exact (List.nodup_cons.1 hn).1 (dst_mem h2 h3)
    cases i with
    | zero =>
      obtain rfl : x = o := by simpa using hi
      cases j with
      | zero => rfl
      | succ j => exact (hx ho (by simpa using hj) hp).elim
    | succ i =>
      cases j with
      | zero =>
        obtain rfl : x = p := by simpa using hj
        exact (hx hp (by simpa using hi) ho).elim
      | succ j => exact congrArg (· + 1) (dst_inj hr (i := i) (j := j) (by simpa using hi) (by simpa using hj) ho hp)
theorem putAll_same (f : Nat → Value) : ∀ (l : List Oper) (i : Nat) (a : Act), (putAll f i l a).defers = a.defers ∧ (putAll f i l a).tmps.size = a.tmps.size ∧ ∀ d, d ∉ dstsOf l → (putAll f i l a).tmps.getD d undef = a.tmps.getD d undef
  | [], _, a => ⟨rfl, rfl, fun _ _ => rfl⟩
  | o :: r, i, a => by
    obtain ⟨h1, h2, h3⟩ := putAll_same f r (i + 1) (a.put o.dst (f i))
    refine ⟨h1.trans (put_defers _ _ _), h2.trans (put_size _ _ _), fun d hd => ?_⟩
    have hd2 : d ∉ dstsOf r := fun h => hd (by
      unfold dstsOf at h ⊢
      rw [List.filterMap_cons]
      split
      · exact h
      · exact List.mem_cons_of_mem _ h)
    refine (h3 d hd2).trans (put_getD_ne _ _ _ _ fun e => hd ?_)
    unfold dstsOf
    rw [List.filterMap_cons, e]
    exact List.mem_cons_self ..
theorem putAll_at (f : Nat → Value) : ∀ (l : List Oper) (b : Nat) (a : Act), (dstsOf l).Nodup → (∀ d ∈ dstsOf l, d < a.tmps.size) → ∀ (i : Nat) (o : Oper) (d : Nat), l[i]? = some o → o.dst = some d → (putAll f b l a).tmps.getD d undef = f (b + i)
  | [], _, _, _, _, i, o, d, h, _ => by simp at h
  | x :: r, b, a, hn, hlt, i, o, d, h, hd => by
    have hr : (dstsOf r).Nodup := by
      unfold dstsOf at hn ⊢
      rw [List.filterMap_cons] at hn
      split at hn
      · exact hn
      · exact (List.nodup_cons.1 hn).2
    have hltr : ∀ d ∈ dstsOf r, d < (a.put x.dst (f b)).tmps.size := fun d hd => by
      rw [put_size]
      refine hlt d ?_
      unfold dstsOf at hd ⊢
      rw [List.filterMap_cons]
      split
      · exact hd
      · exact List.mem_cons_of_mem _ hd
    cases i with
    | zero =>
      obtain rfl : x = o := by simpa using h
      have hnd : d ∉ dstsOf r := fun hm => by
        unfold dstsOf at hn
        rw [List.filterMap_cons, hd] at hn
        exact (List.nodup_cons.1 hn).1 hm
      show (putAll f (b + 1) r (a.put x.dst (f b))).tmps.getD d undef = f b
      rw [(putAll_same f r (b + 1) _).2.2 d hnd, hd]
      exact put_getD _ _ _ (hlt d (dst_mem (l := x :: r) (i := 0) rfl hd))
    | succ i =>
      have := putAll_at f r (b + 1) (a.put x.dst (f b)) hr hltr i o d (by simpa using h) hd
      rw [show b + 1 + i = b + (i + 1) by omega] at this
      exact this
theorem act_ext {a b : Act} (h1 : a.defers = b.defers) (h2 : a.tmps.size = b.tmps.size) (h3 : ∀ d, a.tmps.getD d undef = b.tmps.getD d undef) : a = b := by
  obtain ⟨t, d⟩ := a
  obtain ⟨t', d'⟩ := b
  dsimp only at h1 h2 h3
  subst h1
  congr 1
  apply Array.ext h2
  intro i hi hj
  have := h3 i
  simpa [hi, hj] using this
theorem act_putAll {ops : List Oper} {a0 a : Act} (hn : (dstsOf ops).Nodup) (hlt : ∀ d ∈ dstsOf ops, d < a0.tmps.size) (h : Same ops a0 a) : a = putAll (fun i => match ops[i]? with | some o => valOf a o | none => undef) 0 ops a0 := by
  obtain ⟨h1, h2, h3⟩ := h
  obtain ⟨k1, k2, k3⟩ := putAll_same (fun i => match ops[i]? with | some o => valOf a o | none => undef) ops 0 a0
  refine act_ext (h1.trans k1.symm) (h2.trans k2.symm) fun d => ?_
  by_cases hd : d ∈ dstsOf ops
  · obtain ⟨o, ho, hod⟩ := List.mem_filterMap.1 hd
    obtain ⟨i, hi⟩ := List.getElem?_of_mem ho
    rw [putAll_at _ ops 0 a0 hn hlt i o d hi hod, Nat.zero_add]
    simp only [hi]
    unfold valOf
    rw [hod]
  · rw [h3 d hd, k3 d hd]
theorem count_set (listed : Array Bool) (i : Nat) (h : listed.getD i true = false) : (listed.setIfInBounds i true).toList.countP (fun b => !b) + 1 = listed.toList.countP (fun b => !b) := by
  have hi : i < listed.size := by
    rcases Nat.lt_or_ge i listed.size with h' | h'
    · exact h'
    · simp [Array.getElem?_eq_none h'] at h
  have hv : listed[i] = false := by simpa [hi] using h
  rw [Array.toList_setIfInBounds, List.countP_set (by simpa using hi)]
  have hp : 0 < listed.toList.countP (fun b => !b) := List.countP_pos_iff.2 ⟨listed[i], by simp, by simp [hv]⟩
  have e : listed.toList[i]'(by simpa using hi) = false := by simpa using hv
  rw [e]
  simp only [Bool.not_false, Bool.not_true, if_true, Bool.false_eq_true, if_false]
  omega
/-- The law. -/
theorem wpAny_steps {l : List Oper} {a0 : Act} (J : Nat → World → Prop) (V : Nat → Value → World → Prop) (Kp : World → World → Prop) (n : Nat) (hn : a0.tmps.size = n) (hB : stepsB md l n = true)
    (keep : ∀ i v w w', Kp w w' → V i v w → V i v w') (step : AllOk P md Q l a0 J V Kp 0 l)
    (fin : ∀ (f : Nat → Value) w, J l.length w → (∀ i, i < l.length → V i (f i) w) → Q .normal (putAll f 0 l a0) w) :
    ∀ (fuel : Nat) (listed : Array Bool) (a : Act) (w : World), listed.size = l.length → listed.toList.countP (fun b => !b) = fuel → Same l a0 a → J (l.length - fuel) w → (∀ i o, l[i]? = some o → listed.getD i true = true → V i (valOf a o) w) → wpAny P md l.toArray Q fuel listed a w := by
  unfold stepsB at hB
  rw [Bool.and_eq_true, decide_eq_true_iff, List.all_eq_true] at hB
  obtain ⟨hB1, hnd⟩ := hB
  have hat : ∀ (i : Nat) (o : Oper), l[i]? = some o → o.guard = none ∧ (∀ e ∈ o.after, Region.binds md e = true → e.on < i) ∧ ∀ d, o.dst = some d → d < n := fun i o h => by
    have := hB1 (o, i) (List.mem_zipIdx_iff_getElem?.2 (by simpa using h))
    simp only [Bool.and_eq_true, Array.all_eq_true', Bool.or_eq_true, Bool.not_eq_true', decide_eq_true_eq] at this
    obtain ⟨⟨h1, h2⟩, h3⟩ := this
    refine ⟨Option.isNone_iff_eq_none.1 h1, fun e he hb => ?_, fun d hd => ?_⟩
    · rcases h2 e he with h | h
      · rw [hb] at h; cases h
      · exact h
    · rw [hd] at h3
      simpa using h3
  have hlt : ∀ d ∈ dstsOf l, d < a0.tmps.size := fun d hd => by
    obtain ⟨o, ho, hod⟩ := List.mem_filterMap.1 hd
    obtain ⟨i, hi⟩ := List.getElem?_of_mem ho
    rw [hn]
    exact (hat i o hi).2.2 d hod
  have done : ∀ (listed : Array Bool) (a : Act) (w : World), listed.size = l.length → (∀ i, i < l.length → listed.getD i true = true) → Same l a0 a → J l.length w → (∀ i o, l[i]? = some o → listed.getD i true = true → V i (valOf a o) w) → Q .normal a w := by
    intro listed a w hs hall hsame hJ hV
    rw [act_putAll hnd hlt hsame]
    refine fin _ w hJ fun i hi => ?_
    have hg : l[i]? = some l[i] := List.getElem?_eq_getElem hi
    rw [hg]
    exact hV i _ hg (hall i hi)
  have alls : ∀ (listed : Array Bool), Region.ready md l.toArray listed = [] → ∀ i, i < l.length → listed.getD i true = true := by
    intro listed hr i
    induction i using Nat.strongRecOn with
    | ind i ih =>
      intro hi
      cases hb : listed.getD i true with
      | true => rfl
      | false =>
        exfalso
        have hg : l[i]? = some l[i] := List.getElem?_eq_getElem hi
        have hm : i ∈ Region.ready md l.toArray listed := mem_ready.2 ⟨hb, l[i], by simp, fun e he hbd => by
          have hlt := (hat i _ hg).2.1 e he hbd
          have h1 := ih e.on hlt (by omega)
          have h2 : i < listed.size := by
            rcases Nat.lt_or_ge i listed.size with h' | h'
            · exact h'
            · simp [Array.getElem?_eq_none h'] at hb
          have h3 : e.on < listed.size := by omega
          simpa [h3] using h1⟩
        rw [hr] at hm
        cases hm
  intro fuel
  induction fuel with
  | zero =>
    intro listed a w hs hc hsame hJ hV
    have hall : ∀ i, i < l.length → listed.getD i true = true := fun i hi => by
      cases hb : listed.getD i true with
      | true => rfl
      | false => have := count_set listed i hb; omega
    refine ⟨?_, done listed a w hs hall hsame hJ hV⟩
    refine List.eq_nil_iff_forall_not_mem.2 fun i hi => ?_
    obtain ⟨h1, o, h2, _⟩ := mem_ready.1 hi
    have h3 : i < l.length := by
      have := (Array.getElem?_eq_some_iff.1 h2).1
      simpa using this
    rw [hall i h3] at h1
    cases h1
  | succ fuel ih =>
    intro listed a w hs hc hsame hJ hV
    have hcl : listed.toList.countP (fun b => !b) ≤ l.length := by
      have := List.countP_le_length (p := fun b => !b) (l := listed.toList)
      simpa [hs] using this
    refine ⟨fun hr => ?_, fun i hi => ?_⟩
    · have hall := alls listed hr
      exfalso
      have h0 : listed.toList.countP (fun b => !b) = 0 := List.countP_eq_zero.2 fun b hb => by
        obtain ⟨k, hk, rfl⟩ := List.getElem_of_mem hb
        have hk' : k < listed.size := by simpa using hk
        have := hall k (by omega)
        simp [hk'] at this
        simp [this]
      omega
    · obtain ⟨hun, o, ho, hafter⟩ := mem_ready.1 hi
      have hol : l[i]? = some o := by simpa using ho
      obtain ⟨hg, hord, hd⟩ := hat i o hol
      have hil : i < listed.size := by
        rcases Nat.lt_or_ge i listed.size with h' | h'
        · exact h'
        · simp [Array.getElem?_eq_none h'] at hun
      refine wpOp_step ho fun K' hK => ?_
      rw [if_pos (by simp [Region.wanted, hg])]
      have hst := allOk_at l 0 step i o hol
      rw [Nat.zero_add] at hst
      refine hst (l.length - (fuel + 1)) a w hJ hsame (fun j oj hp hj => ?_) K' (fun v w' hvu hv hJ' hkp => hK _ _ ?_)
      · unfold predB at hp
        rw [Array.any_eq_true'] at hp
        obtain ⟨e, he, h2⟩ := hp
        rw [Bool.and_eq_true, beq_iff_eq] at h2
        obtain ⟨h2, rfl⟩ := h2
        refine hV e.on oj hj ?_
        have h3 := hafter e he h2
        have h4 : e.on < listed.size := by have := hord e he h2; omega
        simpa [h4] using h3
      · refine ih (listed.setIfInBounds i true) (a.put o.dst v) w' (by simpa using hs) (by have := count_set listed i hun; omega) ?_ ?_ ?_
        · obtain ⟨s1, s2, s3⟩ := hsame
          refine ⟨(put_defers _ _ _).trans s1, (put_size _ _ _).trans s2, fun d hdn => ?_⟩
          rw [put_getD_ne _ _ _ _ (fun e => hdn (dst_mem hol e))]
          exact s3 d hdn
        · rw [show l.length - fuel = l.length - (fuel + 1) + 1 by omega]
          exact hJ'
        · intro j oj hj hl
          by_cases hij : i = j
          · subst hij
            rw [hol] at hj
            obtain rfl := Option.some.inj hj
            cases hod : o.dst with
            | none =>
              have : valOf (a.put none v) o = undef := by unfold valOf; rw [hod]
              rw [this, ← hvu hod]
              exact hv
            | some d =>
              have : valOf (a.put (some d) v) o = v := by
                unfold valOf
                rw [hod]
                exact put_getD a d v (by rw [hsame.2.1, hn]; exact hd d hod)
              rw [this]
              exact hv
          · rw [getD_set_ne true hij] at hl
            have hold := keep j _ w w' hkp (hV j oj hj hl)
            have : valOf (a.put o.dst v) oj = valOf a oj := by
              unfold valOf
              cases hod : oj.dst with
              | none => rfl
              | some d =>
                exact put_getD_ne _ _ _ _ fun e => hij (dst_inj hnd hol hj e hod)
            rw [this]
            exact hold
end
end Go.Proofs.YtndeidcddlmhbaaDoor

/- Hires: Start, StartOf. -/
namespace Go.Proofs.YtndeidcddlmhbaaDoor
open Go.RowKit

theorem RdR.oneLg {w : World} {g : Nat} {b : Lg} (h : Bk w g 137 (lgC b)) : RdR w 9 lgC (.slice (some ⟨g, 0, none⟩) 1 1) [b] := h.rd 9 1 rfl (by omega)
theorem openLeg_l (s : ByteArray) (r : Rg) (w : World) : Calls Tryd.prog 91 #[.string s, .agg #[.int .i64 r.1, .string r.2.1, .int .i64 r.2.2.1, .int .i64 r.2.2.2]] w fun e w' => e = .returned (.agg #[.string s, .int .i64 r.1, .string r.2.1, .int .i64 r.2.2.1, .int .i64 r.2.2.2, .int .i64 (-1), .string ⟨#[]⟩, .int .i64 0, .int .i64 0]) ∧ G w w' none := openLeg_c s r w
set_option maxRecDepth 100000 in
set_option maxHeartbeats 4000000 in
theorem start_c (h : Hh) (s : ByteArray) (r : Rg) (w : World) (hs : Small s) (hsr : Small r.2.1) (hs1 : Small h.1) (hs2 : Small h.2.1) (hb1 : bnd h.2.2.1) (hb2 : bnd h.2.2.2) :
    Calls Tryd.prog 27 #[.string h.1, .string h.2.1, .agg #[.int .i64 h.2.2.1, .int .i64 h.2.2.2], .string s, .agg (rgC r)] w
      (MadePost h [(s, r, noIn)] (fun k => w.heap.size ≤ k) w) := by
  have hb0 : LgOk [(s, r, noIn)] := fun x hx => by
    obtain rfl := List.mem_singleton.1 hx
    exact ⟨hs, hsr, by show Small ⟨#[]⟩; unfold Small; decide⟩
  have hWi := ((Bk.new w 29 #[.int .i64 h.2.2.1, .int .i64 h.2.2.2]).alloc (.cells (rgC r) 51)).alloc (.cells hiZ 55)
  have hRe := (Bk.newAt (w := w.alloc (.cells #[.int .i64 h.2.2.1, .int .i64 h.2.2.2] 29)) (b := w.heap.size + 1) (by simp) 51 (rgC r)).alloc (.cells hiZ 55)
  have hZ := Bk.newAt (w := (w.alloc (.cells #[.int .i64 h.2.2.1, .int .i64 h.2.2.2] 29)).alloc (.cells (rgC r) 51)) (b := w.heap.size + 2) (by simp) 55 hiZ
  have hG := (((G.refl w none).alloc (.cells #[.int .i64 h.2.2.1, .int .i64 h.2.2.2] 29)).alloc (.cells (rgC r) 51)).alloc (.cells hiZ 55)
  simp only [rgC, hiZ, hiC] at hWi hRe hZ hG ⊢
  go_enter Tryd.func27, Tryd.ntmps27
  go_upto_region 1 with fail
  generalize ((w.alloc (.cells #[.int .i64 h.2.2.1, .int .i64 h.2.2.2] 29)).alloc (.cells #[.int .i64 r.1, .string r.2.1, .int .i64 r.2.2.1, .int .i64 r.2.2.2] 51)).alloc (.cells #[.string ⟨#[]⟩, .string ⟨#[]⟩, .int .i64 0, .int .i64 0, .slice none 0 0] 55) = w2 at hWi hRe hZ hG ⊢
  -- @REGION
  have hWi3 := hWi.quiet ((G.refl w2 none).drew)
  have hRe3 := hRe.quiet ((G.refl w2 none).drew)
  have hZ3 := hZ.quiet ((G.refl w2 none).drew)
  have hG3 := hG.drew
  clear hWi hRe hZ hG
  refine wp_region_held_drew (S := (fun w' => w'.cell? ⟨w.heap.size, 0, none⟩ = some (.int .i64 h.2.2.1) ∧ w'.cell? ⟨w.heap.size, 1, none⟩ = some (.int .i64 h.2.2.2) ∧ w'.cell? ⟨w.heap.size + 1, 0, none⟩ = some (.int .i64 r.1) ∧ w'.cell? ⟨w.heap.size + 1, 1, none⟩ = some (.string r.2.1) ∧ w'.cell? ⟨w.heap.size + 1, 2, none⟩ = some (.int .i64 r.2.2.1) ∧ w'.cell? ⟨w.heap.size + 1, 3, none⟩ = some (.int .i64 r.2.2.2))) (by kernel_rfl) ?_ (fun hHeld => ?_)
  · exact ⟨hWi3.cell 0, hWi3.cell 1, hRe3.cell 0, hRe3.cell 1, hRe3.cell 2, hRe3.cell 3⟩
  refine wpAnyH_take (i := 0) (oi := { dst := some 12, op := Op.move (Operand.tmp 0), type := 9, pos := _, after := #[], guard := none }) (v := ?_) rfl (by kernel_rfl) (by kernel_rfl) (by kernel_rfl) (fun _ _ _ h => h) (Or.inl ⟨by rfl, ?_⟩) (by assumption) ?_
  rotate_left
  · (intro w hSw; obtain ⟨s0, s1, s2, s3, s4, s5⟩ := hSw; (go_simp <;> with_reducible rfl))
  try simp only [Act.put, List.setIfInBounds_toArray, List.set_cons_zero, List.set_cons_succ]
  refine wpAnyH_take (i := 1) (oi := { dst := some 13, op := Op.move (Operand.tmp 1), type := 9, pos := _, after := #[], guard := none }) (v := ?_) rfl (by kernel_rfl) (by kernel_rfl) (by kernel_rfl) (fun _ _ _ h => h) (Or.inl ⟨by rfl, ?_⟩) (by assumption) ?_
  rotate_left
  · (intro w hSw; obtain ⟨s0, s1, s2, s3, s4, s5⟩ := hSw; (go_simp <;> with_reducible rfl))
  try simp only [Act.put, List.setIfInBounds_toArray, List.set_cons_zero, List.set_cons_succ]
  refine wpAnyH_take (i := 2) (oi := { dst := some 14, op := Op.load 29 (Operand.tmp 7), type := 29, pos := _, after := #[], guard := none }) (v := ?_) rfl (by kernel_rfl) (by kernel_rfl) (by kernel_rfl) (fun _ _ _ h => h) (Or.inl ⟨by rfl, ?_⟩) (by assumption) ?_
  rotate_left
  · (intro w hSw; obtain ⟨s0, s1, s2, s3, s4, s5⟩ := hSw; (go_simp <;> with_reducible rfl))
  try simp only [Act.put, List.setIfInBounds_toArray, List.set_cons_zero, List.set_cons_succ]
  refine wpAnyH_take (i := 3) (oi := { dst := some 15, op := Op.move (Operand.tmp 3), type := 9, pos := _, after := #[], guard := none }) (v := ?_) rfl (by kernel_rfl) (by kernel_rfl) (by kernel_rfl) (fun _ _ _ h => h) (Or.inl ⟨by rfl, ?_⟩) (by assumption) ?_
  rotate_left
  · (intro w hSw; obtain ⟨s0, s1, s2, s3, s4, s5⟩ := hSw; (go_simp <;> with_reducible rfl))
  try simp only [Act.put, List.setIfInBounds_toArray, List.set_cons_zero, List.set_cons_succ]
  refine wpAnyH_take (i := 4) (oi := { dst := some 16, op := Op.load 51 (Operand.tmp 9), type := 51, pos := _, after := #[], guard := none }) (v := ?_) rfl (by kernel_rfl) (by kernel_rfl) (by kernel_rfl) (fun _ _ _ h => h) (Or.inl ⟨by rfl, ?_⟩) (by assumption) ?_
  rotate_left
  · (intro w hSw; obtain ⟨s0, s1, s2, s3, s4, s5⟩ := hSw; (go_simp <;> with_reducible rfl))
  try simp only [Act.put, List.setIfInBounds_toArray, List.set_cons_zero, List.set_cons_succ]
  refine wpAnyH_ready (rs := [5]) (by kernel_rfl) (by simp) ?_
  refine AllReadyH.cons (o := { dst := some 17, op := Op.call { callee := Callee.value (Operand.func 91), args := #[Operand.tmp 15, Operand.tmp 16], argTypes := #[9, 51] }, type := 137, pos := _, after := #[{ on := 3, ground := Ground.data }, { on := 4, ground := Ground.data }], guard := none }) rfl (fun K hK => ?_) AllReadyH.nil
  go_simp
  refine (openLeg_l s r _).mono ?_
  rintro e w4 ⟨rfl, hH⟩
  have hWi4 := hWi3.quiet hH
  have hRe4 := hRe3.quiet hH
  have hZ4 := hZ3.quiet hH
  have hG4 := hG3.trans hH
  clear hH
  refine hK.out _ _ ?_ (fun hHeld => ?_)
  · exact ⟨hWi4.cell 0, hWi4.cell 1, hRe4.cell 0, hRe4.cell 1, hRe4.cell 2, hRe4.cell 3⟩
  clear hK K
  try simp only [Act.put, List.setIfInBounds_toArray, List.set_cons_zero, List.set_cons_succ]
  refine wpAnyH_ready (rs := [6]) (by kernel_rfl) (by simp) ?_
  refine AllReadyH.cons (o := { dst := some 18, op := Op.buildSlice 53 1 #[(0, Operand.tmp 17)], type := 53, pos := _, after := #[{ on := 5, ground := Ground.data }], guard := none }) rfl (fun K hK => ?_) AllReadyH.nil
  go_simp
  have hH := (G.refl w4 none).alloc (.cells #[.string s, .int .i64 r.1, .string r.2.1, .int .i64 r.2.2.1, .int .i64 r.2.2.2, .int .i64 (-1), .string ⟨#[]⟩, .int .i64 0, .int .i64 0] 137)
  have hWi5 := hWi4.quiet hH
  have hRe5 := hRe4.quiet hH
  have hZ5 := hZ4.quiet hH
  have hG5 := hG4.trans hH
  clear hH
  refine hK.out _ _ ?_ (fun hHeld => ?_)
  · exact ⟨hWi5.cell 0, hWi5.cell 1, hRe5.cell 0, hRe5.cell 1, hRe5.cell 2, hRe5.cell 3⟩
  clear hK K
  try simp only [Act.put, List.setIfInBounds_toArray, List.set_cons_zero, List.set_cons_succ]
  refine wpAnyH_take (i := 7) (oi := { dst := some 19, op := Op.build 55 #[(0, Operand.tmp 12), (1, Operand.tmp 13), (2, Operand.tmp 14), (3, Operand.tmp 18)], type := 55, pos := _, after := #[{ on := 0, ground := Ground.data }, { on := 1, ground := Ground.data }, { on := 2, ground := Ground.data }, { on := 6, ground := Ground.data }], guard := none }) (v := ?_) rfl (by kernel_rfl) (by kernel_rfl) (by kernel_rfl) (fun _ _ _ h => h) (Or.inl ⟨by rfl, ?_⟩) (by assumption) ?_
  rotate_left
  · (intro w hSw; obtain ⟨s0, s1, s2, s3, s4, s5⟩ := hSw; (go_simp <;> with_reducible rfl))
  try simp only [Act.put, List.setIfInBounds_toArray, List.set_cons_zero, List.set_cons_succ]
  refine wpAnyH_ready (rs := [8]) (by kernel_rfl) (by simp) ?_
  refine AllReadyH.cons (o := { dst := some 20, op := Op.call { callee := Callee.value (Operand.func 90), args := #[Operand.tmp 19], argTypes := #[55] }, type := 56, pos := _, after := #[{ on := 7, ground := Ground.data }, { on := 5, ground := Ground.chain }], guard := none }) rfl (fun K hK => ?_) AllReadyH.nil
  go_simp
  refine (right_c h (.slice (some ⟨w4.heap.size, 0, none⟩) 1 1) [(s, r, noIn)] _ (RdR.oneLg (b := (s, r, noIn)) (Bk.new w4 _ _)) hb0 hs1 hs2 hb1 hb2 (by simp)).mono ?_
  rintro e w6 ⟨H, a, n, c, rfl, hHH, hBB, hR6, hH⟩
  have HHH := Lib.hid hHH
  have HBB := Lib.hid hBB
  clear hHH hBB
  have hWi6 := hWi5.quiet hH
  have hRe6 := hRe5.quiet hH
  have hZ6 := hZ5.quiet hH
  have hG6 := hG5.trans hH
  clear hH
  refine hK.out _ _ ?_ (fun hHeld => ?_)
  · exact ⟨hWi6.cell 0, hWi6.cell 1, hRe6.cell 0, hRe6.cell 1, hRe6.cell 2, hRe6.cell 3⟩
  clear hK K
  try simp only [Act.put, List.setIfInBounds_toArray, List.set_cons_zero, List.set_cons_succ]
  refine wpAnyH_take (i := 9) (oi := { dst := some 21, op := Op.extract (Operand.tmp 20) 0, type := 55, pos := _, after := #[{ on := 8, ground := Ground.data }], guard := none }) (v := ?_) rfl (by kernel_rfl) (by kernel_rfl) (by kernel_rfl) (fun _ _ _ h => h) (Or.inl ⟨by rfl, ?_⟩) (by assumption) ?_
  rotate_left
  · (intro w hSw; obtain ⟨s0, s1, s2, s3, s4, s5⟩ := hSw; (go_simp <;> with_reducible rfl))
  try simp only [Act.put, List.setIfInBounds_toArray, List.set_cons_zero, List.set_cons_succ]
  refine wpAnyH_take (i := 10) (oi := { dst := some 22, op := Op.extract (Operand.tmp 20) 1, type := 36, pos := _, after := #[{ on := 8, ground := Ground.data }], guard := none }) (v := ?_) rfl (by kernel_rfl) (by kernel_rfl) (by kernel_rfl) (fun _ _ _ h => h) (Or.inl ⟨by rfl, ?_⟩) (by assumption) ?_
  rotate_left
  · (intro w hSw; obtain ⟨s0, s1, s2, s3, s4, s5⟩ := hSw; (go_simp <;> with_reducible rfl))
  try simp only [Act.put, List.setIfInBounds_toArray, List.set_cons_zero, List.set_cons_succ]
  refine wpAnyH_ready (rs := [11]) (by kernel_rfl) (by simp) ?_
  refine AllReadyH.cons (o := { dst := none, op := Op.store 55 (Operand.tmp 10) (Operand.tmp 21), type := 0, pos := _, after := #[{ on := 9, ground := Ground.data }, { on := 8, ground := Ground.chain }, { on := 0, ground := Ground.phase }, { on := 1, ground := Ground.phase }, { on := 2, ground := Ground.phase }, { on := 3, ground := Ground.phase }, { on := 4, ground := Ground.phase }, { on := 5, ground := Ground.phase }, { on := 6, ground := Ground.phase }, { on := 7, ground := Ground.phase }, { on := 8, ground := Ground.phase }, { on := 9, ground := Ground.phase }, { on := 10, ground := Ground.phase }], guard := none }) rfl (fun K hK => ?_) AllReadyH.nil
  refine st_wp rfl (wp_store_row 55 _ _ rfl (w.heap.size + 2) #[.string H.1, .string H.2.1, .int .i64 H.2.2.1, .int .i64 H.2.2.2, .slice a n c] rfl rfl 55 _ hZ6 (hi_info H _) rfl (hi_one H a n c) ?_)
  have hWi7 := hWi6.farRow (show w.heap.size ≠ w.heap.size + 2 by omega) #[.string H.1, .string H.2.1, .int .i64 H.2.2.1, .int .i64 H.2.2.2, .slice a n c]
  have hRe7 := hRe6.farRow (show w.heap.size + 1 ≠ w.heap.size + 2 by omega) #[.string H.1, .string H.2.1, .int .i64 H.2.2.1, .int .i64 H.2.2.2, .slice a n c]
  refine hK.out _ _ ?_ (fun hHeld => ?_)
  · exact ⟨hWi7.cell 0, hWi7.cell 1, hRe7.cell 0, hRe7.cell 1, hRe7.cell 2, hRe7.cell 3⟩
  clear hK K
  try simp only [Act.put]
  refine wpAnyH_take (i := 12) (oi := { dst := some 11, op := Op.assign (Operand.tmp 22), type := 36, pos := _, after := #[{ on := 10, ground := Ground.data }, { on := 11, ground := Ground.chain }, { on := 0, ground := Ground.phase }, { on := 1, ground := Ground.phase }, { on := 2, ground := Ground.phase }, { on := 3, ground := Ground.phase }, { on := 4, ground := Ground.phase }, { on := 5, ground := Ground.phase }, { on := 6, ground := Ground.phase }, { on := 7, ground := Ground.phase }, { on := 8, ground := Ground.phase }, { on := 9, ground := Ground.phase }, { on := 10, ground := Ground.phase }, { on := 11, ground := Ground.phase }], guard := none }) (v := ?_) rfl (by kernel_rfl) (by kernel_rfl) (by kernel_rfl) (fun _ _ _ h => h) (Or.inl ⟨by rfl, ?_⟩) (by assumption) ?_
  rotate_left
  · (intro w hSw; obtain ⟨s0, s1, s2, s3, s4, s5⟩ := hSw; (go_simp <;> with_reducible rfl))
  try simp only [Act.put, List.setIfInBounds_toArray, List.set_cons_zero, List.set_cons_succ]
  refine wpAnyH_done (by kernel_rfl) ?_ _
  -- @END
  go_wp2_with fail
  refine bodyPost_ret (results_cell_hi rfl _ _ (w.heap.size + 2) 55 #[.string H.1, .string H.2.1, .int .i64 H.2.2.1, .int .i64 H.2.2.2, .slice a n c] (0, 0) _ rfl (hZ6.setRow _) Tryd.underlying55 rfl (hi_info H _)) rfl ?_
  have hw4 := hZ4.lt
  have hk4 : ∀ k, (Value.slice a n c).ownBlock = some k → k = w4.heap.size := fun k hk => by have := HBB.out k hk; cases this; rfl
  exact ⟨H, a, n, c, rfl, HHH.out, fun k hk => by have := hk4 k hk; omega, Rd.grown hR6 ((G.refl w6 (some (w.heap.size + 2))).setRow (.inr rfl) _) (fun k e hk => by cases e; have := hk4 _ hk; omega), hG6.setRow (.inl (by omega)) _⟩
set_option maxRecDepth 100000 in
set_option maxHeartbeats 4000000 in
theorem startOf_c (h : Hh) (s : ByteArray) (r : Rg) (w : World) (hs : Small s) (hsr : Small r.2.1) (hs1 : Small h.1) (hs2 : Small h.2.1) (hb1 : bnd h.2.2.1) (hb2 : bnd h.2.2.2) :
    Calls Tryd.prog 28 #[.string h.1, .string h.2.1, .agg #[.int .i64 h.2.2.1, .int .i64 h.2.2.2], .string s, .agg (rgC r)] w
      (MadePost h [(s, r, noIn)] (fun k => w.heap.size ≤ k) w) := by
  have hb0 : LgOk [(s, r, noIn)] := fun x hx => by
    obtain rfl := List.mem_singleton.1 hx
    exact ⟨hs, hsr, by show Small ⟨#[]⟩; unfold Small; decide⟩
  have hWi := ((Bk.new w 29 #[.int .i64 h.2.2.1, .int .i64 h.2.2.2]).alloc (.cells (rgC r) 51)).alloc (.cells hiZ 55)
  have hRe := (Bk.newAt (w := w.alloc (.cells #[.int .i64 h.2.2.1, .int .i64 h.2.2.2] 29)) (b := w.heap.size + 1) (by simp) 51 (rgC r)).alloc (.cells hiZ 55)
  have hZ := Bk.newAt (w := (w.alloc (.cells #[.int .i64 h.2.2.1, .int .i64 h.2.2.2] 29)).alloc (.cells (rgC r) 51)) (b := w.heap.size + 2) (by simp) 55 hiZ
  have hG := (((G.refl w none).alloc (.cells #[.int .i64 h.2.2.1, .int .i64 h.2.2.2] 29)).alloc (.cells (rgC r) 51)).alloc (.cells hiZ 55)
  simp only [rgC, hiZ, hiC] at hWi hRe hZ hG ⊢
  go_enter Tryd.func28, Tryd.ntmps28
  go_upto_region 1 with fail
  generalize ((w.alloc (.cells #[.int .i64 h.2.2.1, .int .i64 h.2.2.2] 29)).alloc (.cells #[.int .i64 r.1, .string r.2.1, .int .i64 r.2.2.1, .int .i64 r.2.2.2] 51)).alloc (.cells #[.string ⟨#[]⟩, .string ⟨#[]⟩, .int .i64 0, .int .i64 0, .slice none 0 0] 55) = w2 at hWi hRe hZ hG ⊢
  go_wp2_with (first | (refine wpList_load_row rfl 29 _ rfl w.heap.size rfl 29 #[.int .i64 h.2.2.1, .int .i64 h.2.2.2] (0, 0) _ hWi Tryd.underlying29 rfl (wi_info _ _) ?_) | (refine wpList_load_row rfl 51 _ rfl (w.heap.size + 1) rfl 51 #[.int .i64 r.1, .string r.2.1, .int .i64 r.2.2.1, .int .i64 r.2.2.2] (0, 0) _ hRe Tryd.underlying51 rfl (rg_info r) ?_))
  have hZ2 := hZ.alloc (.cells #[.string s, .int .i64 r.1, .string r.2.1, .int .i64 r.2.2.1, .int .i64 r.2.2.2, .int .i64 (-1), .string ⟨#[]⟩, .int .i64 0, .int .i64 0] 137)
  have hG2 := hG.alloc (.cells #[.string s, .int .i64 r.1, .string r.2.1, .int .i64 r.2.2.1, .int .i64 r.2.2.2, .int .i64 (-1), .string ⟨#[]⟩, .int .i64 0, .int .i64 0] 137)
  have hw4 := hZ.lt
  clear hZ hG
  refine (made_c h (.slice (some ⟨w2.heap.size, 0, none⟩) 1 1) [(s, r, noIn)] _ (RdR.oneLg (b := (s, r, noIn)) (Bk.new w2 _ _)) hb0 hs1 hs2 hb1 hb2 (by simp)).mono ?_
  rintro e w6 ⟨H, a, n, c, rfl, hHH, hBB, hR6, hH⟩
  have HHH := Lib.hid hHH
  have HBB := Lib.hid hBB
  have hZ6 := hZ2.quiet hH
  have hG6 := hG2.trans hH
  clear hHH hBB hH hZ2 hG2
  go_wp2_with (refine wpList_store_row rfl 55 _ _ rfl (w.heap.size + 2) #[.string H.1, .string H.2.1, .int .i64 H.2.2.1, .int .i64 H.2.2.2, .slice a n c] rfl rfl 55 _ hZ6 (hi_info H _) rfl (hi_one H a n c) ?_)
  refine bodyPost_ret (results_cell_hi rfl _ _ (w.heap.size + 2) 55 #[.string H.1, .string H.2.1, .int .i64 H.2.2.1, .int .i64 H.2.2.2, .slice a n c] (0, 0) _ rfl (hZ6.setRow _) Tryd.underlying55 rfl (hi_info H _)) rfl ?_
  have hk4 : ∀ k, (Value.slice a n c).ownBlock = some k → k = w2.heap.size := fun k hk => by have := HBB.out k hk; cases this; rfl
  exact ⟨H, a, n, c, rfl, HHH.out, fun k hk => by have := hk4 k hk; omega, Rd.grown hR6 ((G.refl w6 (some (w.heap.size + 2))).setRow (.inr rfl) _) (fun k e hk => by cases e; have := hk4 _ hk; omega), hG6.setRow (.inl (by omega)) _⟩
end Go.Proofs.YtndeidcddlmhbaaDoor

/- Hires: lists of legs, hires compared; hired. -/
namespace Go.Proofs.YtndeidcddlmhbaaDoor
open Go.RowKit

theorem lg_neq (x y : Lg) (w : World) : (binOp .neq 137 (.agg (lgC x)) (.agg (lgC y))).run Tryd.prog w = .ok (.bool (!(decide (x = y)))) w := by
  have ht : Tryd.prog.underlying 137 = some (.struct (Tryd.prog.fieldsOf 137)) := by kernel_rfl
  have hp : Tryd.prog.stoodInHeld 137 = false := by kernel_rfl
  rw [run_neq_struct, run_equalIn_agg w 9999 137 _ _ ht hp]
  obtain ⟨a, ⟨b, c, d, e⟩, f, g, h, i⟩ := x
  obtain ⟨a', ⟨b', c', d', e'⟩, f', g', h', i'⟩ := y
  simp [lgC, Tryd.underlying137, Tryd.underlying51, Tryd.underlying3, Tryd.underlying9, go_sem]
  have tl : ∀ u v : ByteArray, (u.toList = v.toList) ↔ u = v := fun u v => ⟨toList_ext, fun h => by rw [h]⟩
  simp only [tl]
  by_cases h1 : a = a'
  · by_cases h2 : b = b'
    · by_cases h3 : c = c'
      · by_cases h4 : d = d'
        · by_cases h5 : e = e'
          · by_cases h6 : f = f'
            · by_cases h7 : g = g'
              · by_cases h8 : h = h' <;> by_cases h9 : i = i' <;> simp [h1, h2, h3, h4, h5, h6, h7, h8, h9]
              · simp [h1, h2, h3, h4, h5, h6, h7]
            · simp [h1, h2, h3, h4, h5, h6]
          · simp [h1, h2, h3, h4, h5]
        · simp [h1, h2, h3, h4]
      · simp [h1, h2, h3]
    · simp [h1, h2]
  · simp [h1]
def EqlRel (l m : List Lg) (w : World) (i : Value) (wr : World) : Prop := ∃ k n : Nat, k ≤ l.length ∧ i = .int .i64 k ∧ l.take k = m.take k ∧ wr = w.drewN n
theorem take_succ_lg {l m : List Lg} {k : Nat} {x : Lg} (h : l.take k = m.take k) (hx : l[k]? = some x) (hy : m[k]? = some x) : l.take (k + 1) = m.take (k + 1) := by
  rw [List.take_add_one, List.take_add_one, h, hx, hy]
set_option maxRecDepth 100000 in
set_option maxHeartbeats 4000000 in
theorem lgEqual_c (v u : Value) (l m : List Lg) (w : World) (hr : RdR w 9 lgC v l) (hs : RdR w 9 lgC u m) (hn : l.length ≤ 1000000) :
    Calls Tryd.prog 93 #[v, u] w fun e w' => e = .returned (.bool (decide (l = m))) ∧ G w w' none := by
  have HR := Lib.hid hr
  have HS := Lib.hid hs
  obtain ⟨a, cap, rfl, hcap, hm1⟩ := RdR.form hr
  obtain ⟨a2, cap2, rfl, hcap2, hm2⟩ := RdR.form hs
  clear hr hs
  by_cases hlen : l.length = m.length
  · have hlq : ((l.length : Int) != (m.length : Int)) = false := by rw [hlen]; simp
    have hlq2 : ((m.length : Int) != (l.length : Int)) = false := by rw [hlen]; simp
    have HL := Lib.hid hlen
    clear hlen
    go_enter Tryd.func93, Tryd.ntmps93
    go_wp2_with fail
    go_loopw [13] (EqlRel l m w) (fun i _ => l.length - (intOf i).toNat)
    case atStart => exact ⟨0, 0, by omega, rfl, rfl, rfl⟩
    case round =>
      obtain ⟨k, n, hk, rfl, heq, rfl⟩ := hrel
      have HE := Lib.hid heq
      clear heq
      by_cases hlt : k < l.length
      · obtain ⟨x, hx⟩ : ∃ x, l[k]? = some x := ⟨_, List.getElem?_eq_getElem hlt⟩
        obtain ⟨y, hy⟩ : ∃ y, m[k]? = some y := ⟨_, List.getElem?_eq_getElem (by rw [← HL.out]; exact hlt)⟩
        have hlt2 : k < m.length := by have := HL.out; omega
        obtain ⟨bb, bo, rfl, hbb, _⟩ := RdR.elem lgC_sz HR.out (G.refl w none) hx
        obtain ⟨b2, o2, rfl, hb2, _⟩ := RdR.elem lgC_sz HS.out (G.refl w none) hy
        have d0 := RdR.cell lgC_sz HR.out (G.refl w none) hx 0 (.string x.1) rfl
        have d1 := RdR.cell lgC_sz HR.out (G.refl w none) hx 1 (.int .i64 x.2.1.1) rfl
        have d2 := RdR.cell lgC_sz HR.out (G.refl w none) hx 2 (.string x.2.1.2.1) rfl
        have d3 := RdR.cell lgC_sz HR.out (G.refl w none) hx 3 (.int .i64 x.2.1.2.2.1) rfl
        have d4 := RdR.cell lgC_sz HR.out (G.refl w none) hx 4 (.int .i64 x.2.1.2.2.2) rfl
        have d5 := RdR.cell lgC_sz HR.out (G.refl w none) hx 5 (.int .i64 x.2.2.1) rfl
        have d6 := RdR.cell lgC_sz HR.out (G.refl w none) hx 6 (.string x.2.2.2.1) rfl
        have d7 := RdR.cell lgC_sz HR.out (G.refl w none) hx 7 (.int .i64 x.2.2.2.2.1) rfl
        have d8 := RdR.cell lgC_sz HR.out (G.refl w none) hx 8 (.int .i64 x.2.2.2.2.2) rfl
        have e0 := RdR.cell lgC_sz HS.out (G.refl w none) hy 0 (.string y.1) rfl
        have e1 := RdR.cell lgC_sz HS.out (G.refl w none) hy 1 (.int .i64 y.2.1.1) rfl
        have e2 := RdR.cell lgC_sz HS.out (G.refl w none) hy 2 (.string y.2.1.2.1) rfl
        have e3 := RdR.cell lgC_sz HS.out (G.refl w none) hy 3 (.int .i64 y.2.1.2.2.1) rfl
        have e4 := RdR.cell lgC_sz HS.out (G.refl w none) hy 4 (.int .i64 y.2.1.2.2.2) rfl
        have e5 := RdR.cell lgC_sz HS.out (G.refl w none) hy 5 (.int .i64 y.2.2.1) rfl
        have e6 := RdR.cell lgC_sz HS.out (G.refl w none) hy 6 (.string y.2.2.2.1) rfl
        have e7 := RdR.cell lgC_sz HS.out (G.refl w none) hy 7 (.int .i64 y.2.2.2.2.1) rfl
        have e8 := RdR.cell lgC_sz HS.out (G.refl w none) hy 8 (.int .i64 y.2.2.2.2.2) rfl
        simp only [Nat.add_zero] at d0 e0
        have HX := Lib.hid hx
        have HY := Lib.hid hy
        clear hx hy
        by_cases hxy : x = y
        · have hnq : ∀ w : World, (binOp .neq 137 (.agg #[.string x.1, .int .i64 x.2.1.1, .string x.2.1.2.1, .int .i64 x.2.1.2.2.1, .int .i64 x.2.1.2.2.2, .int .i64 x.2.2.1, .string x.2.2.2.1, .int .i64 x.2.2.2.2.1, .int .i64 x.2.2.2.2.2]) (.agg #[.string y.1, .int .i64 y.2.1.1, .string y.2.1.2.1, .int .i64 y.2.1.2.2.1, .int .i64 y.2.1.2.2.2, .int .i64 y.2.2.1, .string y.2.2.2.1, .int .i64 y.2.2.2.2.1, .int .i64 y.2.2.2.2.2])).run Tryd.prog w = .ok (.bool false) w := fun w => by
            have := lg_neq x y w
            rw [decide_eq_true hxy] at this
            exact this
          have HT : Hid (l.take (k + 1) = m.take (k + 1)) := Lib.hid (take_succ_lg HE.out HX.out (by rw [hxy]; exact HY.out))
          clear hxy HX HY
          go_wp2_with fail
          go_quiet (fail)
          go_wp2_with fail
          go_roundw
          case rel => exact ⟨k + 1, _, by omega, by go_num, HT.out, rfl⟩
          case measure => simp [intOf]; omega
        · have hnq : ∀ w : World, (binOp .neq 137 (.agg #[.string x.1, .int .i64 x.2.1.1, .string x.2.1.2.1, .int .i64 x.2.1.2.2.1, .int .i64 x.2.1.2.2.2, .int .i64 x.2.2.1, .string x.2.2.2.1, .int .i64 x.2.2.2.2.1, .int .i64 x.2.2.2.2.2]) (.agg #[.string y.1, .int .i64 y.2.1.1, .string y.2.1.2.1, .int .i64 y.2.1.2.2.1, .int .i64 y.2.1.2.2.2, .int .i64 y.2.2.1, .string y.2.2.2.1, .int .i64 y.2.2.2.2.1, .int .i64 y.2.2.2.2.2])).run Tryd.prog w = .ok (.bool true) w := fun w => by
            have := lg_neq x y w
            rw [decide_eq_false hxy] at this
            exact this
          have HT : Hid (decide (l = m) = false) := Lib.hid (decide_eq_false (fun e => hxy (by have h1 := HX.out; rw [e, HY.out] at h1; exact (Option.some.inj h1).symm)))
          clear hxy HX HY
          go_wp2_with fail
          go_quiet (fail)
          go_wp2_with fail
          go_ret
          exact ⟨ret_bool HT.out.symm, ((G.refl _ _).drewN _).drewN _⟩
      · obtain rfl : k = l.length := by omega
        have HT : Hid (decide (l = m) = true) := Lib.hid (decide_eq_true (by have h := HE.out; rwa [List.take_length, HL.out, List.take_length] at h))
        go_wp2_with fail
        go_ret
        exact ⟨ret_bool HT.out.symm, (G.refl _ _).drewN _⟩
  · have hlq : ((l.length : Int) != (m.length : Int)) = true := by rw [bne_iff_ne]; omega
    have hlq2 : ¬ l.length = m.length := hlen
    have HT : Hid (decide (l = m) = false) := Lib.hid (decide_eq_false (fun e => hlen (by rw [e])))
    clear hlen
    go_enter Tryd.func93, Tryd.ntmps93
    go_wp2_with fail
    go_ret
    exact ⟨ret_bool HT.out.symm, G.refl _ _⟩
theorem wi_eql (x y : Int) (w : World) : (binOp .eql 29 (.agg #[.int .i64 x, .int .i64 y]) (.agg #[.int .i64 x, .int .i64 y])).run Tryd.prog w = .ok (.bool true) w := by
  have ht : Tryd.prog.underlying 29 = some (.struct (Tryd.prog.fieldsOf 29)) := by kernel_rfl
  have hp : Tryd.prog.stoodInHeld 29 = false := by kernel_rfl
  rw [run_eql_struct, run_equalIn_agg w 9999 29 _ _ ht hp]
  simp [Tryd.underlying29, Tryd.underlying3, go_sem]
set_option maxRecDepth 100000 in
set_option maxHeartbeats 2000000 in
theorem sameHire_c (h : Hh) (u v : Value) (l : List Lg) (w : World) (hr : RdR w 9 lgC u l) (hs : RdR w 9 lgC v l) (hn : l.length ≤ 1000) :
    Calls Tryd.prog 29 #[.agg (hiC h u), .agg (hiC h v)] w fun e w' => e = .returned (.bool true) ∧ G w w' none := by
  have hA := (Bk.new w 55 (hiC h u)).alloc (.cells (hiC h v) 55)
  have hB := Bk.newAt (w := w.alloc (.cells (hiC h u) 55)) (b := w.heap.size + 1) (by simp) 55 (hiC h v)
  have hG := ((G.refl w none).alloc (.cells (hiC h u) 55)).alloc (.cells (hiC h v) 55)
  have HR := Lib.hid (hr.quiet hG)
  have HS := Lib.hid (hs.quiet hG)
  obtain ⟨h1, h2, h3, h4⟩ := h
  clear hr hs
  simp only [hiC] at hA hB hG HR HS ⊢
  go_enter Tryd.func29, Tryd.ntmps29
  go_upto_region 1 with fail
  generalize (w.alloc (.cells #[.string h1, .string h2, .int .i64 h3, .int .i64 h4, u] 55)).alloc (.cells #[.string h1, .string h2, .int .i64 h3, .int .i64 h4, v] 55) = w2 at hA hB hG HR HS ⊢
  have a0 : w2.cell? ⟨w.heap.size, 0, none⟩ = some (.string h1) := hA.cell 0
  have a1 : w2.cell? ⟨w.heap.size, 1, none⟩ = some (.string h2) := hA.cell 1
  have a4 : w2.cell? ⟨w.heap.size, 4, none⟩ = some u := hA.cell 4
  have b0 : w2.cell? ⟨w.heap.size + 1, 0, none⟩ = some (.string h1) := hB.cell 0
  have b1 : w2.cell? ⟨w.heap.size + 1, 1, none⟩ = some (.string h2) := hB.cell 1
  have b4 : w2.cell? ⟨w.heap.size + 1, 4, none⟩ = some v := hB.cell 4
  have a2 : w2.cell? ⟨w.heap.size, 2, none⟩ = some (.int .i64 h3) := hA.cell 2
  have a3 : w2.cell? ⟨w.heap.size, 3, none⟩ = some (.int .i64 h4) := hA.cell 3
  have b2 : w2.cell? ⟨w.heap.size + 1, 2, none⟩ = some (.int .i64 h3) := hB.cell 2
  have b3 : w2.cell? ⟨w.heap.size + 1, 3, none⟩ = some (.int .i64 h4) := hB.cell 3
  have hq := wi_eql h3 h4
  go_wp2_with fail
  refine (lgEqual_c u v l l _ HR.out HS.out (by omega)).mono ?_; rintro e w3 ⟨rfl, hG3⟩
  rw [decide_eq_true (rfl : l = l)]
  go_wp2_with fail
  go_ret
  exact ⟨rfl, hG.trans hG3⟩
def h1K : Hh := (⟨#[104]⟩, ⟨#[100]⟩, 5, 9)
def h1R : Rg := (5, ⟨#[115]⟩, 0, 0)
theorem h1_ok : hiE h1K [(⟨#[118]⟩, h1R, noIn)] = 0 := by decide +kernel
set_option maxRecDepth 100000 in
set_option maxHeartbeats 2000000 in
theorem start1_c (w : World) : Calls Tryd.prog 27 #[.string ⟨#[104]⟩, .string ⟨#[100]⟩, .agg #[.int .i64 5, .int .i64 9], .string ⟨#[118]⟩, .agg #[.int .i64 5, .string ⟨#[115]⟩, .int .i64 0, .int .i64 0]] w
    fun e w' => ∃ a c, e = .returned (.tuple #[.agg #[.string ⟨#[104]⟩, .string ⟨#[100]⟩, .int .i64 5, .int .i64 9, .slice a 1 c], .int .i64 0]) ∧ G w w' none := by
  refine (start_c h1K ⟨#[118]⟩ h1R w (small_of (by decide)) (small_of (by decide)) (small_of (by decide)) (small_of (by decide)) (by unfold bnd h1K; dsimp only; omega) (by unfold bnd h1K; dsimp only; omega)).mono ?_
  rintro e w' ⟨H, a, n, c, rfl, hH, -, hR, hG⟩
  rw [h1_ok] at hH hR
  obtain rfl : H = h1K := hH
  obtain ⟨a', c', hv, -, -⟩ := RdR.form hR
  obtain rfl : n = 1 := by cases hv; rfl
  exact ⟨a, c, by rw [h1_ok]; rfl, hG⟩
set_option maxRecDepth 100000 in
set_option maxHeartbeats 2000000 in
theorem hired_c (w : World) : Calls Tryd.prog 30 #[] w fun e w' => e = .returned (.bool true) ∧ G w w' none := by
  go_enter Tryd.func30, Tryd.ntmps30
  go_wp2_with fail
  refine (start1_c _).mono ?_; rintro e w2 ⟨a, c, rfl, hG2⟩
  go_wp2_with fail
  go_ret
  exact ⟨rfl, hG2.alloc _⟩
end Go.Proofs.YtndeidcddlmhbaaDoor

/- Odds: the numbers of cases, reckoned as the program does. No program. -/
namespace Go.Proofs.YtndeidcddlmhbaaDoor
open Go.RowKit

/-- The new numbers of cases after j of the old ones were spread. -/
def nx (c : List Int) (p : Int) : Nat → List Int
  | 0 => List.replicate (c.length + 1) 0
  | j + 1 => ((nx c p j).set j ((nx c p j).getD j 0 + c.getD j 0 * (100 - p))).set (j + 1) ((nx c p j).getD (j + 1) 0 + c.getD j 0 * p)
def cas (ps : List Int) : List Int := ps.foldl (fun c p => nx c p c.length) [1]
theorem nx_len (c : List Int) (p : Int) (j : Nat) : (nx c p j).length = c.length + 1 := by
  induction j with
  | zero => simp [nx]
  | succ j ih => simp [nx, ih]
theorem sum_set (l : List Int) : ∀ (i : Nat) (v : Int), i < l.length → (l.set i v).sum = l.sum + (v - l.getD i 0) := by
  induction l with
  | nil => intro i v h; simp at h
  | cons x r ih =>
    intro i v h
    cases i with
    | zero => simp; omega
    | succ i =>
      have := ih i v (by simpa using h)
      simp only [List.set_cons_succ, List.sum_cons, List.getD_cons_succ]
      omega
theorem gdset_ne (l : List Int) (i j : Nat) (v : Int) (h : i ≠ j) : (l.set i v).getD j 0 = l.getD j 0 := by
  simp [List.getD, h]
theorem take_sum (c : List Int) (j : Nat) (h : j < c.length) : (c.take (j + 1)).sum = (c.take j).sum + c.getD j 0 := by
  rw [List.take_succ_eq_append_getElem h, List.sum_append]
  simp [List.getD, h]
theorem nx_sum (c : List Int) (p : Int) (j : Nat) (h : j ≤ c.length) : (nx c p j).sum = 100 * (c.take j).sum := by
  induction j with
  | zero => simp [nx]
  | succ j ih =>
    have hl := nx_len c p j
    unfold nx
    rw [sum_set _ _ _ (by rw [List.length_set, hl]; omega), sum_set _ _ _ (by rw [hl]; omega), gdset_ne _ _ _ _ (by omega), ih (by omega), take_sum c j (by omega)]
    have : c.getD j 0 * (100 - p) + c.getD j 0 * p = 100 * c.getD j 0 := by rw [← Int.mul_add]; rw [show (100 - p + p : Int) = 100 by omega, Int.mul_comm]
    omega
def NN (c : List Int) : Prop := ∀ x ∈ c, 0 ≤ x
theorem NN.getD {c : List Int} (h : NN c) (j : Nat) : 0 ≤ c.getD j 0 := by
  unfold List.getD
  cases hc : c[j]? with
  | none => exact Int.le_refl 0
  | some x => exact h x (List.mem_of_getElem? hc)
theorem NN.set {c : List Int} (h : NN c) (i : Nat) {v : Int} (hv : 0 ≤ v) : NN (c.set i v) := fun x hx => by
  rcases List.mem_or_eq_of_mem_set hx with hx | rfl
  · exact h x hx
  · exact hv
theorem nx_nn {c : List Int} {p : Int} (hc : NN c) (h0 : 0 ≤ p) (h1 : p ≤ 100) (j : Nat) : NN (nx c p j) := by
  induction j with
  | zero => intro x hx; have := List.eq_of_mem_replicate hx; omega
  | succ j ih =>
    unfold nx
    refine NN.set (NN.set ih j ?_) (j + 1) ?_
    · exact Int.add_nonneg (ih.getD j) (Int.mul_nonneg (hc.getD j) (by omega))
    · exact Int.add_nonneg (ih.getD (j + 1)) (Int.mul_nonneg (hc.getD j) h0)
theorem NN.sum {c : List Int} (h : NN c) : 0 ≤ c.sum := by
  induction c with
  | nil => exact Int.le_refl 0
  | cons x r ih =>
    have h1 := h x (List.mem_cons_self ..)
    have h2 := ih fun y hy => h y (List.mem_cons_of_mem _ hy)
    simp only [List.sum_cons]
    omega
theorem NN.le_sum {c : List Int} (h : NN c) (j : Nat) : c.getD j 0 ≤ c.sum := by
  induction c generalizing j with
  | nil => simp
  | cons x r ih =>
    have h1 := h x (List.mem_cons_self ..)
    have hr : NN r := fun y hy => h y (List.mem_cons_of_mem _ hy)
    have h2 := hr.sum
    cases j with
    | zero => simp only [List.getD_cons_zero, List.sum_cons]; omega
    | succ j =>
      have := ih hr j
      simp only [List.getD_cons_succ, List.sum_cons]
      omega
theorem cas_snoc (ps : List Int) (p : Int) : cas (ps ++ [p]) = nx (cas ps) p (cas ps).length := by
  unfold cas
  rw [List.foldl_append]
  rfl
theorem cas_ok (ps : List Int) (h : ∀ p ∈ ps, 0 ≤ p ∧ p ≤ 100) : (cas ps).length = ps.length + 1 ∧ NN (cas ps) ∧ (cas ps).sum = 100 ^ ps.length := by
  have key : ∀ (n : Nat) (ps : List Int), ps.length = n → (∀ p ∈ ps, 0 ≤ p ∧ p ≤ 100) → (cas ps).length = ps.length + 1 ∧ NN (cas ps) ∧ (cas ps).sum = 100 ^ ps.length := by
    intro n
    induction n with
    | zero =>
      intro ps hn _
      obtain rfl := List.eq_nil_of_length_eq_zero hn
      refine ⟨rfl, ?_, rfl⟩
      intro x hx
      have := List.mem_singleton.1 (show x ∈ [1] from hx)
      omega
    | succ n ih =>
      intro ps hn h
      obtain ⟨qs, p, rfl⟩ : ∃ qs p, ps = qs ++ [p] := ⟨ps.dropLast, ps.getLast (by intro e; rw [e] at hn; simp at hn), (List.dropLast_concat_getLast _).symm⟩
      simp at hn
      obtain ⟨h1, h2, h3⟩ := ih qs hn (fun q hq => h q (by simp [hq]))
      obtain ⟨p0, p1⟩ := h p (by simp)
      rw [cas_snoc]
      refine ⟨by rw [nx_len, h1]; simp, nx_nn h2 p0 p1 _, ?_⟩
      rw [nx_sum _ _ _ (Nat.le_refl _), List.take_length, h3, List.length_append, List.length_singleton, Int.pow_succ, Int.mul_comm]
  exact key ps.length ps rfl h
/-- A row of ints. -/
def ic (l : List Int) : Array Value := (l.map (Value.int .i64)).toArray
theorem ic_at (l : List Int) (j : Nat) (h : j < l.length) : (ic l)[j]? = some (.int .i64 (l.getD j 0)) := by
  simp [ic, List.getD, h]
theorem ic_set (l : List Int) (j : Nat) (v : Int) : (ic l).setIfInBounds j (.int .i64 v) = ic (l.set j v) := by
  simp [ic, List.map_set]
theorem ic_size (l : List Int) : (ic l).size = l.length := by simp [ic]
end Go.Proofs.YtndeidcddlmhbaaDoor

/- Bookings: checkForm; the reference's BookingForm. -/
namespace Go.Proofs.YtndeidcddlmhbaaDoor
open Go.RowKit

/-- A booking: key, class, from, to, made, percent. -/
abbrev Bo := ByteArray × ByteArray × Int × Int × Int × Int
def boC (x : Bo) : Array Value := #[.string x.1, .string x.2.1, .int .i64 x.2.2.1, .int .i64 x.2.2.2.1, .int .i64 x.2.2.2.2.1, .int .i64 x.2.2.2.2.2]
theorem boC_sz (x : Bo) : (boC x).size = 6 := rfl
theorem bo_info (x : Bo) : (Tryd.prog.info? 31).map (·.size) = some (boC x).size := (by kernel_rfl : (Tryd.prog.info? 31).map (·.size) = some 6)
def boB (x : Bo) : Prop := Small x.1 ∧ Small x.2.1 ∧ bnd x.2.2.1 ∧ bnd x.2.2.2.1 ∧ bnd x.2.2.2.2.1 ∧ bnd x.2.2.2.2.2
def BoOk (l : List Bo) : Prop := ∀ x ∈ l, boB x
def boT (a z m p : Int) : Bool := timB a z && (inB m 0 a && inB p 0 100)
def boErr (b : ByteArray) : List Bo → Int
  | [] => 0
  | x :: r => if keyB x.1 = false then 5 else if keyB x.2.1 = false then 5 else if leB x.1 b = true then 7 else if boT x.2.2.1 x.2.2.2.1 x.2.2.2.2.1 x.2.2.2.2.2 = false then 1 else boErr x.1 r
def boE (l : List Bo) : Int := if 500 < l.length then 2 else boErr ⟨#[]⟩ l
def BoRel (w : World) (l : List Bo) (v i : Value) (wr : World) : Prop :=
  ∃ (k : Nat) (b : ByteArray), k ≤ l.length ∧ i = .int .i64 k ∧ v = .string b ∧ boErr ⟨#[]⟩ l = boErr b (l.drop k) ∧ G w wr none
theorem boRow {W w : World} {bb bo n cap : Nat} {l : List Bo} (h : RdR W 6 boC (.slice (some ⟨bb, bo, none⟩) n cap) l) (hG : G W w none) {k : Nat} {p : Bo} (hp : l[k]? = some p) :
    ∀ j v, (boC p).toList[j]? = some v → w.cell? ((⟨bb, bo + k * 6, none⟩ : Addr).add j) = some v := fun j v hv => by
  rw [add_at]
  exact RdR.cell boC_sz h hG hp j v hv
theorem boTime {w : World} {g : Nat} {T : TypeId} {p : Bo} (h : Bk w g T (boC p)) : ∀ j v, (#[Value.int .i64 p.2.2.1, .int .i64 p.2.2.2.1] : Array Value).toList[j]? = some v → w.cell? ((⟨g, 2, none⟩ : Addr).add j) = some v := fun j v hv => by
  rw [add_at, h.cell]
  match j, hv with
  | 0, hv => exact hv
  | 1, hv => exact hv
  | n + 2, hv => simp at hv
set_option maxRecDepth 100000 in
set_option maxHeartbeats 4000000 in
theorem checkForm_c (v : Value) (l : List Bo) (w : World) (hr : RdR w 6 boC v l) (hl : BoOk l) (hn : l.length ≤ 1000) :
    Calls Tryd.prog 81 #[v] w fun e w' => e = .returned (.int .i64 (boE l)) ∧ G w w' none := by
  have HR := Lib.hid hr
  obtain ⟨a, cap, rfl, hcap, hm⟩ := RdR.form hr
  clear hr
  by_cases h30 : 500 < l.length
  · have H := Lib.hid (show boE l = 2 by simp [boE, h30])
    go_enter Tryd.func81, Tryd.ntmps81
    go_wp2_with fail
    go_ret
    exact ⟨by rw [H.out]; rfl, G.refl _ _⟩
  · have H := Lib.hid (show boE l = boErr ⟨#[]⟩ l by simp [boE, h30])
    go_enter Tryd.func81, Tryd.ntmps81
    go_wp2_with fail
    go_loopw [3, 11] (BoRel w l) (fun _ i _ => l.length - (intOf i).toNat)
    case atStart => exact ⟨0, ⟨#[]⟩, by omega, rfl, rfl, rfl, G.refl _ _⟩
    case round =>
      obtain ⟨k, b, hkl, rfl, rfl, heq, hG⟩ := hrel
      have HE := Lib.hid heq
      clear heq
      by_cases hk : k < l.length
      · obtain ⟨p, hp⟩ : ∃ p, l[k]? = some p := ⟨_, List.getElem?_eq_getElem hk⟩
        have hdrop : l.drop k = p :: l.drop (k + 1) := by rw [List.drop_eq_getElem_cons hk, ← (List.getElem?_eq_some_iff.1 hp).2]
        have hpl := hl p (List.mem_of_getElem? hp)
        obtain ⟨bb, bo, rfl, hbb, _⟩ := RdR.elem boC_sz HR.out hG hp
        have HW := Lib.hid (boRow HR.out hG hp)
        have hs1 := hpl.1
        have hs2 := hpl.2.1
        unfold Small at hs1 hs2
        have HS : Hid (boErr b (l.drop k) = if keyB p.1 = false then 5 else if keyB p.2.1 = false then 5 else if leB p.1 b = true then 7 else if boT p.2.2.1 p.2.2.2.1 p.2.2.2.2.1 p.2.2.2.2.2 = false then 1 else boErr p.1 (l.drop (k + 1))) := Lib.hid (by rw [hdrop]; rfl)
        have hB5 := Bk.new wr 31 (boC p)
        have hG5 := hG.alloc (.cells (boC p) 31)
        clear hdrop hp hpl hG
        go_wp2_with (refine wpList_load_at rfl 31 _ rfl ⟨bb, bo + k * 6, none⟩ rfl #[.string p.1, .string p.2.1, .int .i64 p.2.2.1, .int .i64 p.2.2.2.1, .int .i64 p.2.2.2.2.1, .int .i64 p.2.2.2.2.2] _ HW.out Tryd.underlying31 rfl (bo_info p) ?_)
        have hB5 : Bk (wr.alloc (.cells #[.string p.1, .string p.2.1, .int .i64 p.2.2.1, .int .i64 p.2.2.2.1, .int .i64 p.2.2.2.2.1, .int .i64 p.2.2.2.2.2] 31)) wr.heap.size 31 (boC p) := hB5
        have hG5 : G w (wr.alloc (.cells #[.string p.1, .string p.2.1, .int .i64 p.2.2.1, .int .i64 p.2.2.2.1, .int .i64 p.2.2.2.2.1, .int .i64 p.2.2.2.2.2] 31)) none := hG5
        have hg5 := hB5.lt
        generalize wr.alloc (.cells #[.string p.1, .string p.2.1, .int .i64 p.2.2.1, .int .i64 p.2.2.2.1, .int .i64 p.2.2.2.2.1, .int .i64 p.2.2.2.2.2] 31) = w5 at hB5 hG5 hg5 ⊢
        generalize wr.heap.size = g at hB5 hg5 ⊢
        refine (isKey_c _ _ hs1).mono ?_; rintro e w1 ⟨rfl, rfl⟩
        have c0 : World.cell? w5 ⟨g, 0, none⟩ = some (.string p.1) := hB5.cell 0
        have c1 : World.cell? w5 ⟨g, 1, none⟩ = some (.string p.2.1) := hB5.cell 1
        have c2 : World.cell? w5 ⟨g, 2, none⟩ = some (.int .i64 p.2.2.1) := hB5.cell 2
        have c3 : World.cell? w5 ⟨g, 3, none⟩ = some (.int .i64 p.2.2.2.1) := hB5.cell 3
        have c4 : World.cell? w5 ⟨g, 4, none⟩ = some (.int .i64 p.2.2.2.2.1) := hB5.cell 4
        have c5 : World.cell? w5 ⟨g, 5, none⟩ = some (.int .i64 p.2.2.2.2.2) := hB5.cell 5
        cases hkb : keyB p.1 with
        | false =>
          have HF : Hid (boE l = 5) := Lib.hid (by rw [H.out, HE.out, HS.out, if_pos hkb])
          clear hkb
          go_wp2_with fail
          go_ret
          exact ⟨by rw [HF.out]; rfl, hG5⟩
        | true =>
          have HK := Lib.hid hkb
          clear hkb
          go_wp2_with fail
          refine (isKey_c _ _ hs2).mono ?_; rintro e w1 ⟨rfl, rfl⟩
          cases hkb : keyB p.2.1 with
          | false =>
            have HF : Hid (boE l = 5) := Lib.hid (by rw [H.out, HE.out, HS.out, if_neg (by simp [HK.out]), if_pos hkb])
            clear hkb
            go_wp2_with fail
            go_ret
            exact ⟨by rw [HF.out]; rfl, hG5⟩
          | true =>
            have HK2 := Lib.hid hkb
            clear hkb
            cases hle : leB p.1 b with
            | true =>
              have HF : Hid (boE l = 7) := Lib.hid (by rw [H.out, HE.out, HS.out, if_neg (by simp [HK.out]), if_neg (by simp [HK2.out]), if_pos hle])
              unfold leB at hle
              go_wp2_with fail
              go_ret
              exact ⟨by rw [HF.out]; rfl, hG5⟩
            | false =>
              have HS2 : Hid (boErr ⟨#[]⟩ l = if boT p.2.2.1 p.2.2.2.1 p.2.2.2.2.1 p.2.2.2.2.2 = false then 1 else boErr p.1 (l.drop (k + 1))) := Lib.hid (by rw [HE.out, HS.out, if_neg (by simp [HK.out]), if_neg (by simp [HK2.out]), if_neg (by simp [hle])])
              unfold leB at hle
              clear HS HE
              have HT := Lib.hid (boTime hB5)
              go_wp2_with (refine wpList_load_at rfl 29 _ rfl ⟨g, 2, none⟩ rfl #[.int .i64 p.2.2.1, .int .i64 p.2.2.2.1] _ HT.out Tryd.underlying29 rfl (wi_info _ _) ?_)
              refine (isTime_c _ _ _).mono ?_; rintro e w2 ⟨rfl, hG2⟩
              have hB5 := hB5.quiet hG2
              have hG5 := hG5.trans hG2
              clear hG2 HT c0 c1 c2 c3 c4 c5
              have c0 : w2.cell? ⟨g, 0, none⟩ = some (.string p.1) := hB5.cell 0
              have c1 : w2.cell? ⟨g, 1, none⟩ = some (.string p.2.1) := hB5.cell 1
              have c2 : w2.cell? ⟨g, 2, none⟩ = some (.int .i64 p.2.2.1) := hB5.cell 2
              have c3 : w2.cell? ⟨g, 3, none⟩ = some (.int .i64 p.2.2.2.1) := hB5.cell 3
              have c4 : w2.cell? ⟨g, 4, none⟩ = some (.int .i64 p.2.2.2.2.1) := hB5.cell 4
              have c5 : w2.cell? ⟨g, 5, none⟩ = some (.int .i64 p.2.2.2.2.2) := hB5.cell 5
              cases ht : timB p.2.2.1 p.2.2.2.1 with
              | false =>
                have HF : Hid (boE l = 1) := Lib.hid (by rw [H.out, HS2.out, if_pos (by simp [boT, ht])])
                go_wp2_with fail
                go_ret
                exact ⟨by rw [HF.out]; rfl, hG5⟩
              | true =>
                have HTB := Lib.hid ht
                clear ht
                go_wp2_with fail
                refine (within_c _ _ _ _).mono ?_; rintro e w' ⟨rfl, rfl⟩
                cases hm1 : inB p.2.2.2.2.1 0 p.2.2.1 with
                | false =>
                  have HF : Hid (boE l = 1) := Lib.hid (by rw [H.out, HS2.out, if_pos (by simp [boT, hm1])])
                  go_wp2_with fail
                  go_ret
                  exact ⟨by rw [HF.out]; rfl, hG5⟩
                | true =>
                  have HM := Lib.hid hm1
                  clear hm1
                  go_wp2_with fail
                  refine (within_c _ _ _ _).mono ?_; rintro e w' ⟨rfl, rfl⟩
                  cases hp1 : inB p.2.2.2.2.2 0 100 with
                  | false =>
                    have HF : Hid (boE l = 1) := Lib.hid (by rw [H.out, HS2.out, if_pos (by simp [boT, hp1])])
                    go_wp2_with fail
                    go_ret
                    exact ⟨by rw [HF.out]; rfl, hG5⟩
                  | true =>
                    have HF : Hid (boErr ⟨#[]⟩ l = boErr p.1 (l.drop (k + 1))) := Lib.hid (by rw [HS2.out, if_neg (by simp [boT, HTB.out, HM.out, hp1])])
                    clear hp1
                    go_wp2_with fail
                    go_roundw
                    case rel => exact ⟨k + 1, p.1, by omega, by go_num, rfl, HF.out, hG5⟩
                    case measure => simp [intOf]; omega
      · obtain rfl : k = l.length := by omega
        have HE2 : Hid (boE l = 0) := Lib.hid (by rw [H.out, HE.out, List.drop_length]; rfl)
        go_wp2_with fail
        go_ret
        exact ⟨by rw [HE2.out]; rfl, hG⟩
set_option maxRecDepth 100000 in
set_option maxHeartbeats 4000000 in
theorem bookingForm_c (v : Value) (l : List Bo) (w : World) (hr : RdR w 6 boC v l) (hl : BoOk l) (hn : l.length ≤ 1000) :
    Calls Tryd.prog 19 #[v] w fun e w' => e = .returned (.int .i64 (boE l)) ∧ G w w' none := by
  have HR := Lib.hid hr
  obtain ⟨a, cap, rfl, hcap, hm⟩ := RdR.form hr
  clear hr
  by_cases h30 : 500 < l.length
  · have H := Lib.hid (show boE l = 2 by simp [boE, h30])
    go_enter Tryd.func19, Tryd.ntmps19
    go_wp2_with fail
    go_ret
    exact ⟨by rw [H.out]; rfl, G.refl _ _⟩
  · have H := Lib.hid (show boE l = boErr ⟨#[]⟩ l by simp [boE, h30])
    go_enter Tryd.func19, Tryd.ntmps19
    go_wp2_with fail
    go_loopw [3, 11] (BoRel w l) (fun _ i _ => l.length - (intOf i).toNat)
    case atStart => exact ⟨0, ⟨#[]⟩, by omega, rfl, rfl, rfl, G.refl _ _⟩
    case round =>
      obtain ⟨k, b, hkl, rfl, rfl, heq, hG⟩ := hrel
      have HE := Lib.hid heq
      clear heq
      by_cases hk : k < l.length
      · obtain ⟨p, hp⟩ : ∃ p, l[k]? = some p := ⟨_, List.getElem?_eq_getElem hk⟩
        have hdrop : l.drop k = p :: l.drop (k + 1) := by rw [List.drop_eq_getElem_cons hk, ← (List.getElem?_eq_some_iff.1 hp).2]
        have hpl := hl p (List.mem_of_getElem? hp)
        obtain ⟨bb, bo, rfl, hbb, _⟩ := RdR.elem boC_sz HR.out hG hp
        have HW := Lib.hid (boRow HR.out hG hp)
        have hs1 := hpl.1
        have hs2 := hpl.2.1
        unfold Small at hs1 hs2
        have HS : Hid (boErr b (l.drop k) = if keyB p.1 = false then 5 else if keyB p.2.1 = false then 5 else if leB p.1 b = true then 7 else if boT p.2.2.1 p.2.2.2.1 p.2.2.2.2.1 p.2.2.2.2.2 = false then 1 else boErr p.1 (l.drop (k + 1))) := Lib.hid (by rw [hdrop]; rfl)
        have hB5 := Bk.new wr 31 (boC p)
        have hG5 := hG.alloc (.cells (boC p) 31)
        clear hdrop hp hpl hG
        go_wp2_with (refine wpList_load_at rfl 31 _ rfl ⟨bb, bo + k * 6, none⟩ rfl #[.string p.1, .string p.2.1, .int .i64 p.2.2.1, .int .i64 p.2.2.2.1, .int .i64 p.2.2.2.2.1, .int .i64 p.2.2.2.2.2] _ HW.out Tryd.underlying31 rfl (bo_info p) ?_)
        have hB5 : Bk (wr.alloc (.cells #[.string p.1, .string p.2.1, .int .i64 p.2.2.1, .int .i64 p.2.2.2.1, .int .i64 p.2.2.2.2.1, .int .i64 p.2.2.2.2.2] 31)) wr.heap.size 31 (boC p) := hB5
        have hG5 : G w (wr.alloc (.cells #[.string p.1, .string p.2.1, .int .i64 p.2.2.1, .int .i64 p.2.2.2.1, .int .i64 p.2.2.2.2.1, .int .i64 p.2.2.2.2.2] 31)) none := hG5
        have hg5 := hB5.lt
        generalize wr.alloc (.cells #[.string p.1, .string p.2.1, .int .i64 p.2.2.1, .int .i64 p.2.2.2.1, .int .i64 p.2.2.2.2.1, .int .i64 p.2.2.2.2.2] 31) = w5 at hB5 hG5 hg5 ⊢
        generalize wr.heap.size = g at hB5 hg5 ⊢
        refine (rkey_c _ _ hs1).mono ?_; rintro e w1 ⟨rfl, hG1⟩
        have hB5 := hB5.quiet hG1
        have hG5 := hG5.trans hG1
        clear hG1
        have c0 : World.cell? w1 ⟨g, 0, none⟩ = some (.string p.1) := hB5.cell 0
        have c1 : World.cell? w1 ⟨g, 1, none⟩ = some (.string p.2.1) := hB5.cell 1
        have c2 : World.cell? w1 ⟨g, 2, none⟩ = some (.int .i64 p.2.2.1) := hB5.cell 2
        have c3 : World.cell? w1 ⟨g, 3, none⟩ = some (.int .i64 p.2.2.2.1) := hB5.cell 3
        have c4 : World.cell? w1 ⟨g, 4, none⟩ = some (.int .i64 p.2.2.2.2.1) := hB5.cell 4
        have c5 : World.cell? w1 ⟨g, 5, none⟩ = some (.int .i64 p.2.2.2.2.2) := hB5.cell 5
        cases hkb : keyB p.1 with
        | false =>
          have HF : Hid (boE l = 5) := Lib.hid (by rw [H.out, HE.out, HS.out, if_pos hkb])
          clear hkb
          go_wp2_with fail
          go_ret
          exact ⟨by rw [HF.out]; rfl, hG5⟩
        | true =>
          have HK := Lib.hid hkb
          clear hkb
          go_wp2_with fail
          refine (rkey_c _ _ hs2).mono ?_; rintro e w1 ⟨rfl, hG1⟩
          have hB5 := hB5.quiet hG1
          have hG5 := hG5.trans hG1
          clear hG1
          clear c0 c1 c2 c3 c4 c5
          have c0 : w1.cell? ⟨g, 0, none⟩ = some (.string p.1) := hB5.cell 0
          have c1 : w1.cell? ⟨g, 1, none⟩ = some (.string p.2.1) := hB5.cell 1
          have c2 : w1.cell? ⟨g, 2, none⟩ = some (.int .i64 p.2.2.1) := hB5.cell 2
          have c3 : w1.cell? ⟨g, 3, none⟩ = some (.int .i64 p.2.2.2.1) := hB5.cell 3
          have c4 : w1.cell? ⟨g, 4, none⟩ = some (.int .i64 p.2.2.2.2.1) := hB5.cell 4
          have c5 : w1.cell? ⟨g, 5, none⟩ = some (.int .i64 p.2.2.2.2.2) := hB5.cell 5
          cases hkb : keyB p.2.1 with
          | false =>
            have HF : Hid (boE l = 5) := Lib.hid (by rw [H.out, HE.out, HS.out, if_neg (by simp [HK.out]), if_pos hkb])
            clear hkb
            go_wp2_with fail
            go_ret
            exact ⟨by rw [HF.out]; rfl, hG5⟩
          | true =>
            have HK2 := Lib.hid hkb
            clear hkb
            cases hle : leB p.1 b with
            | true =>
              have HF : Hid (boE l = 7) := Lib.hid (by rw [H.out, HE.out, HS.out, if_neg (by simp [HK.out]), if_neg (by simp [HK2.out]), if_pos hle])
              unfold leB at hle
              go_wp2_with fail
              go_ret
              exact ⟨by rw [HF.out]; rfl, hG5⟩
            | false =>
              have HS2 : Hid (boErr ⟨#[]⟩ l = if boT p.2.2.1 p.2.2.2.1 p.2.2.2.2.1 p.2.2.2.2.2 = false then 1 else boErr p.1 (l.drop (k + 1))) := Lib.hid (by rw [HE.out, HS.out, if_neg (by simp [HK.out]), if_neg (by simp [HK2.out]), if_neg (by simp [hle])])
              unfold leB at hle
              clear HS HE
              rcases (show p.2.2.1 < 0 ∨ (0 ≤ p.2.2.1 ∧ p.2.2.2.1 ≤ p.2.2.1) ∨ (0 ≤ p.2.2.1 ∧ p.2.2.1 < p.2.2.2.1 ∧ 5761439 < p.2.2.2.1) ∨ (0 ≤ p.2.2.1 ∧ p.2.2.1 < p.2.2.2.1 ∧ p.2.2.2.1 ≤ 5761439) by omega) with t1 | ⟨t1, t2⟩ | ⟨t1, t2, t3⟩ | ⟨t1, t2, t3⟩
              · have HF : Hid (boE l = 1) := Lib.hid (by rw [H.out, HS2.out, if_pos (by rw [boT, timB_no (by omega)]; rfl)])
                go_wp2_with fail
                go_ret
                exact ⟨by rw [HF.out]; rfl, hG5⟩
              · have HF : Hid (boE l = 1) := Lib.hid (by rw [H.out, HS2.out, if_pos (by rw [boT, timB_no (by omega)]; rfl)])
                go_wp2_with fail
                go_ret
                exact ⟨by rw [HF.out]; rfl, hG5⟩
              · have HF : Hid (boE l = 1) := Lib.hid (by rw [H.out, HS2.out, if_pos (by rw [boT, timB_no (by omega)]; rfl)])
                go_wp2_with fail
                go_ret
                exact ⟨by rw [HF.out]; rfl, hG5⟩
              · have HTB := Lib.hid (timB_yes ⟨t1, t2, show p.2.2.2.1 < 5761440 by omega⟩)
                go_wp2_with fail
                refine (in_c _ _ _ _).mono ?_; rintro e w' ⟨rfl, rfl⟩
                cases hm1 : inB p.2.2.2.2.1 0 p.2.2.1 with
                | false =>
                  have HF : Hid (boE l = 1) := Lib.hid (by rw [H.out, HS2.out, if_pos (by simp [boT, hm1])])
                  go_wp2_with fail
                  go_ret
                  exact ⟨by rw [HF.out]; rfl, hG5⟩
                | true =>
                  have HM := Lib.hid hm1
                  clear hm1
                  go_wp2_with fail
                  refine (in_c _ _ _ _).mono ?_; rintro e w' ⟨rfl, rfl⟩
                  cases hp1 : inB p.2.2.2.2.2 0 100 with
                  | false =>
                    have HF : Hid (boE l = 1) := Lib.hid (by rw [H.out, HS2.out, if_pos (by simp [boT, hp1])])
                    go_wp2_with fail
                    go_ret
                    exact ⟨by rw [HF.out]; rfl, hG5⟩
                  | true =>
                    have HF : Hid (boErr ⟨#[]⟩ l = boErr p.1 (l.drop (k + 1))) := Lib.hid (by rw [HS2.out, if_neg (by simp [boT, HTB.out, HM.out, hp1])])
                    clear hp1
                    go_wp2_with fail
                    go_roundw
                    case rel => exact ⟨k + 1, p.1, by omega, by go_num, rfl, HF.out, hG5⟩
                    case measure => simp [intOf]; omega
      · obtain rfl : k = l.length := by omega
        have HE2 : Hid (boE l = 0) := Lib.hid (by rw [H.out, HE.out, List.drop_length]; rfl)
        go_wp2_with fail
        go_ret
        exact ⟨by rw [HE2.out]; rfl, hG⟩
end Go.Proofs.YtndeidcddlmhbaaDoor

/- Tiers: CheckTiers; the reference's TiersFault. -/
namespace Go.Proofs.YtndeidcddlmhbaaDoor
open Go.RowKit

/-- A tier: before, permille. -/
abbrev Ti := Int × Int
def tiC (x : Ti) : Array Value := #[.int .i64 x.1, .int .i64 x.2]
theorem tiC_sz (x : Ti) : (tiC x).size = 2 := rfl
theorem ti_info (x : Ti) : (Tryd.prog.info? 122).map (·.size) = some (tiC x).size := (by kernel_rfl : (Tryd.prog.info? 122).map (·.size) = some 2)
def TiOk (l : List Ti) : Prop := ∀ x ∈ l, bnd x.1 ∧ bnd x.2
def tiAfter (b : Option Ti) (x : Ti) : Bool := match b with | none => false | some y => decide (y.1 ≤ x.1) || decide (x.2 < y.2)
def tiErr : Option Ti → List Ti → Int
  | _, [] => 0
  | b, x :: r => if inB x.1 1 5761440 = false then 1 else if inB x.2 0 1000 = false then 1 else if tiAfter b x = true then 7 else tiErr (some x) r
def tiE (l : List Ti) : Int := if 10 < l.length then 2 else tiErr none l
def TiRel (w : World) (l : List Ti) (i : Value) (wr : World) : Prop :=
  ∃ k : Nat, k ≤ l.length ∧ i = .int .i64 k ∧ tiErr none l = tiErr (prevAt l k) (l.drop k) ∧ G w wr none
theorem tiRow {W w : World} {bb bo n cap : Nat} {l : List Ti} (h : RdR W 2 tiC (.slice (some ⟨bb, bo, none⟩) n cap) l) (hG : G W w none) {k : Nat} {p : Ti} (hp : l[k]? = some p) :
    ∀ j v, (tiC p).toList[j]? = some v → w.cell? ((⟨bb, bo + k * 2, none⟩ : Addr).add j) = some v := fun j v hv => by
  rw [add_at]
  exact RdR.cell tiC_sz h hG hp j v hv
set_option maxRecDepth 100000 in
set_option maxHeartbeats 4000000 in
theorem checkTiers_c (v : Value) (l : List Ti) (w : World) (hr : RdR w 2 tiC v l) (hn : l.length ≤ 1000) :
    Calls Tryd.prog 17 #[v] w fun e w' => e = .returned (.int .i64 (tiE l)) ∧ G w w' none := by
  have HR := Lib.hid hr
  obtain ⟨a, cap, rfl, hcap, hm⟩ := RdR.form hr
  clear hr
  by_cases h30 : 10 < l.length
  · have H := Lib.hid (show tiE l = 2 by simp [tiE, h30])
    go_enter Tryd.func17, Tryd.ntmps17
    go_wp2_with fail
    go_ret
    exact ⟨by rw [H.out]; rfl, G.refl _ _⟩
  · have H := Lib.hid (show tiE l = tiErr none l by simp [tiE, h30])
    go_enter Tryd.func17, Tryd.ntmps17
    go_wp2_with fail
    go_loopw [10] (TiRel w l) (fun i _ => l.length - (intOf i).toNat)
    case atStart => exact ⟨0, by omega, rfl, rfl, G.refl _ _⟩
    case round =>
      obtain ⟨k, hkl, rfl, heq, hG⟩ := hrel
      have HE := Lib.hid heq
      clear heq
      by_cases hk : k < l.length
      · obtain ⟨p, hp⟩ : ∃ p, l[k]? = some p := ⟨_, List.getElem?_eq_getElem hk⟩
        have hdrop : l.drop k = p :: l.drop (k + 1) := by rw [List.drop_eq_getElem_cons hk, ← (List.getElem?_eq_some_iff.1 hp).2]
        obtain ⟨bb, bo, rfl, hbb, _⟩ := RdR.elem tiC_sz HR.out hG hp
        have HW := Lib.hid (tiRow HR.out hG hp)
        have HP := Lib.hid hp
        have HS : Hid (tiErr (prevAt l k) (l.drop k) = if inB p.1 1 5761440 = false then 1 else if inB p.2 0 1000 = false then 1 else if tiAfter (prevAt l k) p = true then 7 else tiErr (some p) (l.drop (k + 1))) := Lib.hid (by rw [hdrop]; rfl)
        have hB5 := Bk.new wr 122 (tiC p)
        have hG5 := hG.alloc (.cells (tiC p) 122)
        clear hdrop hp hG
        go_wp2_with (refine wpList_load_at rfl 122 _ rfl ⟨bb, bo + k * 2, none⟩ rfl #[.int .i64 p.1, .int .i64 p.2] _ HW.out Tryd.underlying122 rfl (ti_info p) ?_)
        have hB5 : Bk (wr.alloc (.cells #[.int .i64 p.1, .int .i64 p.2] 122)) wr.heap.size 122 (tiC p) := hB5
        have hG5 : G w (wr.alloc (.cells #[.int .i64 p.1, .int .i64 p.2] 122)) none := hG5
        clear HW
        have hg5 := hB5.lt
        generalize wr.alloc (.cells #[.int .i64 p.1, .int .i64 p.2] 122) = w5 at hB5 hG5 hg5 ⊢
        generalize wr.heap.size = g at hB5 hg5 ⊢
        have c0 : w5.cell? ⟨g, 0, none⟩ = some (.int .i64 p.1) := hB5.cell 0
        have c1 : w5.cell? ⟨g, 1, none⟩ = some (.int .i64 p.2) := hB5.cell 1
        refine (within_c _ _ _ _).mono ?_; rintro e w' ⟨rfl, rfl⟩
        cases h1 : inB p.1 1 5761440 with
        | false =>
          have HF : Hid (tiE l = 1) := Lib.hid (by rw [H.out, HE.out, HS.out, if_pos h1])
          go_wp2_with fail
          go_ret
          exact ⟨by rw [HF.out]; rfl, hG5⟩
        | true =>
          have H1 := Lib.hid h1
          clear h1
          go_wp2_with fail
          refine (within_c _ _ _ _).mono ?_; rintro e w' ⟨rfl, rfl⟩
          cases h2 : inB p.2 0 1000 with
          | false =>
            have HF : Hid (tiE l = 1) := Lib.hid (by rw [H.out, HE.out, HS.out, if_neg (by simp [H1.out]), if_pos h2])
            go_wp2_with fail
            go_ret
            exact ⟨by rw [HF.out]; rfl, hG5⟩
          | true =>
            have HS2 : Hid (tiErr none l = if tiAfter (prevAt l k) p = true then 7 else tiErr (some p) (l.drop (k + 1))) := Lib.hid (by rw [HE.out, HS.out, if_neg (by simp [H1.out]), if_neg (by simp [h2])])
            clear h2 HS HE
            go_wp2_with fail
            cases k with
            | zero =>
              have HF : Hid (tiErr none l = tiErr (prevAt l (0 + 1)) (l.drop (0 + 1))) := Lib.hid (by rw [HS2.out, if_neg (by simp [prevAt, tiAfter]), prevAt_succ l 0 p HP.out])
              clear HS2
              go_quiet (fail)
              have hGq := hG5.drewN nq
              go_wp2_with fail
              go_roundw
              case rel => exact ⟨0 + 1, by omega, by go_num, HF.out, hGq⟩
              case measure => simp [intOf]; omega
            | succ m =>
              obtain ⟨q, hq2⟩ : ∃ q, l[m]? = some q := ⟨_, List.getElem?_eq_getElem (by omega)⟩
              have HA : Hid (tiAfter (prevAt l (m + 1)) p = (decide (q.1 ≤ p.1) || decide (p.2 < q.2))) := Lib.hid (by rw [prevAt_succ l m q hq2]; rfl)
              have hsub : IntKind.i64.wrap (((m + 1 : Nat) : Int) - 1) = (m : Int) := by rw [show ((m + 1 : Nat) : Int) - 1 = (m : Int) by omega]; rw [IntKind.wrap_i64]; omega
              have d0 := RdR.cell tiC_sz HR.out hG5 hq2 0 (.int .i64 q.1) rfl
              have d1 := RdR.cell tiC_sz HR.out hG5 hq2 1 (.int .i64 q.2) rfl
              have hsub2 : IntKind.i64.wrap (m : Int) = (m : Int) := by rw [IntKind.wrap_i64]; omega
              have hsub3 : IntKind.i64.wrap ((m : Int) + 1 - 1) = (m : Int) := by rw [IntKind.wrap_i64]; omega
              have hm0 : (0 : Int) ≤ (m : Int) := Int.natCast_nonneg m
              have hml : (m : Int) < (l.length : Int) := by omega
              simp only [Nat.add_zero] at d0
              clear hq2
              rcases (show q.1 ≤ p.1 ∨ (p.1 < q.1 ∧ p.2 < q.2) ∨ (p.1 < q.1 ∧ q.2 ≤ p.2) by omega) with t1 | ⟨t1, t2⟩ | ⟨t1, t2⟩
              · have HF : Hid (tiE l = 7) := Lib.hid (by rw [H.out, HS2.out, if_pos (by rw [HA.out, decide_eq_true t1]; rfl)])
                go_quiet (fail)
                have hGq := hG5.drewN nq
                go_wp2_with fail
                go_ret
                exact ⟨by rw [HF.out]; rfl, hGq⟩
              · have HF : Hid (tiE l = 7) := Lib.hid (by rw [H.out, HS2.out, if_pos (by rw [HA.out, decide_eq_true t2, Bool.or_true])])
                have hd : decide (q.1 ≤ p.1) = false := decide_eq_false (by omega)
                go_quiet (fail)
                have hGq := hG5.drewN nq
                go_wp2_with fail
                go_ret
                exact ⟨by rw [HF.out]; rfl, hGq⟩
              · have HF : Hid (tiErr none l = tiErr (prevAt l (m + 1 + 1)) (l.drop (m + 1 + 1))) := Lib.hid (by rw [HS2.out, if_neg (by rw [HA.out, decide_eq_false (show ¬ q.1 ≤ p.1 by omega), decide_eq_false (show ¬ p.2 < q.2 by omega)]; decide), prevAt_succ l (m + 1) p HP.out])
                have hd : decide (q.1 ≤ p.1) = false := decide_eq_false (by omega)
                have hd2 : decide (p.2 < q.2) = false := decide_eq_false (by omega)
                go_quiet (fail)
                have hGq := hG5.drewN nq
                go_wp2_with fail
                go_roundw
                case rel => exact ⟨m + 1 + 1, by omega, by go_num, HF.out, hGq⟩
                case measure => simp [intOf]; omega
      · obtain rfl : k = l.length := by omega
        have HE2 : Hid (tiE l = 0) := Lib.hid (by rw [H.out, HE.out, List.drop_length]; rfl)
        go_wp2_with fail
        go_ret
        exact ⟨by rw [HE2.out]; rfl, hG⟩
set_option maxRecDepth 100000 in
set_option maxHeartbeats 4000000 in
theorem tiersFault_c (v : Value) (l : List Ti) (w : World) (hr : RdR w 2 tiC v l) (hn : l.length ≤ 1000) :
    Calls Tryd.prog 16 #[v] w fun e w' => e = .returned (.int .i64 (tiE l)) ∧ G w w' none := by
  have HR := Lib.hid hr
  obtain ⟨a, cap, rfl, hcap, hm⟩ := RdR.form hr
  clear hr
  by_cases h30 : 10 < l.length
  · have H := Lib.hid (show tiE l = 2 by simp [tiE, h30])
    go_enter Tryd.func16, Tryd.ntmps16
    go_wp2_with fail
    go_ret
    exact ⟨by rw [H.out]; rfl, G.refl _ _⟩
  · have H := Lib.hid (show tiE l = tiErr none l by simp [tiE, h30])
    go_enter Tryd.func16, Tryd.ntmps16
    go_wp2_with fail
    go_loopw [10] (TiRel w l) (fun i _ => l.length - (intOf i).toNat)
    case atStart => exact ⟨0, by omega, rfl, rfl, G.refl _ _⟩
    case round =>
      obtain ⟨k, hkl, rfl, heq, hG⟩ := hrel
      have HE := Lib.hid heq
      clear heq
      by_cases hk : k < l.length
      · obtain ⟨p, hp⟩ : ∃ p, l[k]? = some p := ⟨_, List.getElem?_eq_getElem hk⟩
        have hdrop : l.drop k = p :: l.drop (k + 1) := by rw [List.drop_eq_getElem_cons hk, ← (List.getElem?_eq_some_iff.1 hp).2]
        obtain ⟨bb, bo, rfl, hbb, _⟩ := RdR.elem tiC_sz HR.out hG hp
        have HW := Lib.hid (tiRow HR.out hG hp)
        have HP := Lib.hid hp
        have HS : Hid (tiErr (prevAt l k) (l.drop k) = if inB p.1 1 5761440 = false then 1 else if inB p.2 0 1000 = false then 1 else if tiAfter (prevAt l k) p = true then 7 else tiErr (some p) (l.drop (k + 1))) := Lib.hid (by rw [hdrop]; rfl)
        have hB5 := Bk.new wr 122 (tiC p)
        have hG5 := hG.alloc (.cells (tiC p) 122)
        clear hdrop hp hG
        go_wp2_with (refine wpList_load_at rfl 122 _ rfl ⟨bb, bo + k * 2, none⟩ rfl #[.int .i64 p.1, .int .i64 p.2] _ HW.out Tryd.underlying122 rfl (ti_info p) ?_)
        have hB5 : Bk (wr.alloc (.cells #[.int .i64 p.1, .int .i64 p.2] 122)) wr.heap.size 122 (tiC p) := hB5
        have hG5 : G w (wr.alloc (.cells #[.int .i64 p.1, .int .i64 p.2] 122)) none := hG5
        clear HW
        have hg5 := hB5.lt
        generalize wr.alloc (.cells #[.int .i64 p.1, .int .i64 p.2] 122) = w5 at hB5 hG5 hg5 ⊢
        generalize wr.heap.size = g at hB5 hg5 ⊢
        have c0 : w5.cell? ⟨g, 0, none⟩ = some (.int .i64 p.1) := hB5.cell 0
        have c1 : w5.cell? ⟨g, 1, none⟩ = some (.int .i64 p.2) := hB5.cell 1
        refine (in_c _ _ _ _).mono ?_; rintro e w' ⟨rfl, rfl⟩
        cases h1 : inB p.1 1 5761440 with
        | false =>
          have HF : Hid (tiE l = 1) := Lib.hid (by rw [H.out, HE.out, HS.out, if_pos h1])
          go_wp2_with fail
          go_ret
          exact ⟨by rw [HF.out]; rfl, hG5⟩
        | true =>
          have H1 := Lib.hid h1
          clear h1
          go_wp2_with fail
          refine (in_c _ _ _ _).mono ?_; rintro e w' ⟨rfl, rfl⟩
          cases h2 : inB p.2 0 1000 with
          | false =>
            have HF : Hid (tiE l = 1) := Lib.hid (by rw [H.out, HE.out, HS.out, if_neg (by simp [H1.out]), if_pos h2])
            go_wp2_with fail
            go_ret
            exact ⟨by rw [HF.out]; rfl, hG5⟩
          | true =>
            have HS2 : Hid (tiErr none l = if tiAfter (prevAt l k) p = true then 7 else tiErr (some p) (l.drop (k + 1))) := Lib.hid (by rw [HE.out, HS.out, if_neg (by simp [H1.out]), if_neg (by simp [h2])])
            clear h2 HS HE
            go_wp2_with fail
            cases k with
            | zero =>
              have HF : Hid (tiErr none l = tiErr (prevAt l (0 + 1)) (l.drop (0 + 1))) := Lib.hid (by rw [HS2.out, if_neg (by simp [prevAt, tiAfter]), prevAt_succ l 0 p HP.out])
              clear HS2
              go_quiet (fail)
              have hGq := hG5.drewN nq
              go_wp2_with fail
              go_roundw
              case rel => exact ⟨0 + 1, by omega, by go_num, HF.out, hGq⟩
              case measure => simp [intOf]; omega
            | succ m =>
              obtain ⟨q, hq2⟩ : ∃ q, l[m]? = some q := ⟨_, List.getElem?_eq_getElem (by omega)⟩
              have HA : Hid (tiAfter (prevAt l (m + 1)) p = (decide (q.1 ≤ p.1) || decide (p.2 < q.2))) := Lib.hid (by rw [prevAt_succ l m q hq2]; rfl)
              have hsub : IntKind.i64.wrap (((m + 1 : Nat) : Int) - 1) = (m : Int) := by rw [show ((m + 1 : Nat) : Int) - 1 = (m : Int) by omega]; rw [IntKind.wrap_i64]; omega
              have d0 := RdR.cell tiC_sz HR.out hG5 hq2 0 (.int .i64 q.1) rfl
              have d1 := RdR.cell tiC_sz HR.out hG5 hq2 1 (.int .i64 q.2) rfl
              have hsub2 : IntKind.i64.wrap (m : Int) = (m : Int) := by rw [IntKind.wrap_i64]; omega
              have hsub3 : IntKind.i64.wrap ((m : Int) + 1 - 1) = (m : Int) := by rw [IntKind.wrap_i64]; omega
              have hm0 : (0 : Int) ≤ (m : Int) := Int.natCast_nonneg m
              have hml : (m : Int) < (l.length : Int) := by omega
              simp only [Nat.add_zero] at d0
              clear hq2
              rcases (show q.1 ≤ p.1 ∨ (p.1 < q.1 ∧ p.2 < q.2) ∨ (p.1 < q.1 ∧ q.2 ≤ p.2) by omega) with t1 | ⟨t1, t2⟩ | ⟨t1, t2⟩
              · have HF : Hid (tiE l = 7) := Lib.hid (by rw [H.out, HS2.out, if_pos (by rw [HA.out, decide_eq_true t1]; rfl)])
                go_quiet (fail)
                have hGq := hG5.drewN nq
                go_wp2_with fail
                go_ret
                exact ⟨by rw [HF.out]; rfl, hGq⟩
              · have HF : Hid (tiE l = 7) := Lib.hid (by rw [H.out, HS2.out, if_pos (by rw [HA.out, decide_eq_true t2, Bool.or_true])])
                have hd : decide (q.1 ≤ p.1) = false := decide_eq_false (by omega)
                go_quiet (fail)
                have hGq := hG5.drewN nq
                go_wp2_with fail
                go_ret
                exact ⟨by rw [HF.out]; rfl, hGq⟩
              · have HF : Hid (tiErr none l = tiErr (prevAt l (m + 1 + 1)) (l.drop (m + 1 + 1))) := Lib.hid (by rw [HS2.out, if_neg (by rw [HA.out, decide_eq_false (show ¬ q.1 ≤ p.1 by omega), decide_eq_false (show ¬ p.2 < q.2 by omega)]; decide), prevAt_succ l (m + 1) p HP.out])
                have hd : decide (q.1 ≤ p.1) = false := decide_eq_false (by omega)
                have hd2 : decide (p.2 < q.2) = false := decide_eq_false (by omega)
                go_quiet (fail)
                have hGq := hG5.drewN nq
                go_wp2_with fail
                go_roundw
                case rel => exact ⟨m + 1 + 1, by omega, by go_num, HF.out, hGq⟩
                case measure => simp [intOf]; omega
      · obtain rfl : k = l.length := by omega
        have HE2 : Hid (tiE l = 0) := Lib.hid (by rw [H.out, HE.out, List.drop_length]; rfl)
        go_wp2_with fail
        go_ret
        exact ⟨by rw [HE2.out]; rfl, hG⟩
end Go.Proofs.YtndeidcddlmhbaaDoor

/- CancelFee; the reference's CancelOf. -/
namespace Go.Proofs.YtndeidcddlmhbaaDoor
open Go.RowKit

/-- The permille of the last tier that is meant. -/
def cnS (d a : Int) (x : Ti) : Int := if d < x.1 then x.2 else a
def cnP (l : List Ti) (d : Int) : Int := l.foldl (cnS d) 0
theorem cnP_succ {l : List Ti} {k : Nat} {p : Ti} (d : Int) (hp : l[k]? = some p) : cnP (l.take (k + 1)) d = cnS d (cnP (l.take k) d) p := by
  have hk : k < l.length := (List.getElem?_eq_some_iff.1 hp).1
  have e : l.take (k + 1) = l.take k ++ [p] := by
    rw [List.take_succ_eq_append_getElem hk, (List.getElem?_eq_some_iff.1 hp).2]
  unfold cnP
  rw [e, List.foldl_append]
  rfl
theorem cnP_rng {l : List Ti} (h : ∀ x ∈ l, 0 ≤ x.2 ∧ x.2 ≤ 1000) (d : Int) : 0 ≤ cnP l d ∧ cnP l d ≤ 1000 := by
  have : ∀ (r : List Ti) (a : Int), (∀ x ∈ r, 0 ≤ x.2 ∧ x.2 ≤ 1000) → 0 ≤ a ∧ a ≤ 1000 → 0 ≤ r.foldl (cnS d) a ∧ r.foldl (cnS d) a ≤ 1000 := by
    intro r
    induction r with
    | nil => intro a _ ha; exact ha
    | cons x r ih =>
      intro a hx ha
      refine ih _ (fun y hy => hx y (List.mem_cons_of_mem _ hy)) ?_
      unfold cnS
      split
      · exact hx x (List.mem_cons_self ..)
      · exact ha
  exact this l 0 h (by omega)
theorem tiErr_ok {l : List Ti} : ∀ {b : Option Ti}, tiErr b l = 0 → ∀ x ∈ l, 0 ≤ x.2 ∧ x.2 ≤ 1000 := by
  induction l with
  | nil => intro b _ x hx; cases hx
  | cons y r ih =>
    intro b h
    unfold tiErr at h
    split at h
    · exact absurd h (by decide)
    · split at h
      · exact absurd h (by decide)
      · rename_i h2
        split at h
        · exact absurd h (by decide)
        · intro x hx
          rcases List.mem_cons.1 hx with rfl | hx
          · simp only [inB, Bool.not_eq_false, Bool.and_eq_true, decide_eq_true_eq] at h2
            omega
          · exact ih h x hx
theorem tiE_ok {l : List Ti} (h : tiE l = 0) : ∀ x ∈ l, 0 ≤ x.2 ∧ x.2 ≤ 1000 := by
  unfold tiE at h
  split at h
  · exact absurd h (by decide)
  · exact tiErr_ok h
theorem boE_ok {b : Bo} (h : boE [b] = 0) : 0 ≤ b.2.2.1 ∧ b.2.2.1 < 5761440 := by
  have h1 : boErr ⟨#[]⟩ [b] = 0 := h
  unfold boErr at h1
  split at h1
  · exact absurd h1 (by decide)
  · split at h1
    · exact absurd h1 (by decide)
    · split at h1
      · exact absurd h1 (by decide)
      · split at h1
        · exact absurd h1 (by decide)
        · rename_i h2
          simp only [boT, Bool.not_eq_false, Bool.and_eq_true] at h2
          have := (timB_iff _ _).1 h2.1
          omega
theorem one_len (b : Bo) : ([b] : List Bo).length ≤ 1000 := by simp
theorem RdR.one {w : World} {g : Nat} {b : Bo} (h : Bk w g 31 (boC b)) : RdR w 6 boC (.slice (some ⟨g, 0, none⟩) 1 1) [b] := h.rd 6 1 rfl (by omega)
theorem BoOk.one {b : Bo} (h : boB b) : BoOk [b] := fun x hx => by
  obtain rfl := List.mem_singleton.1 hx
  exact h
def cfE (l : List Ti) (b : Bo) (c t : Int) : Int := if tiE l = 0 then (if boE [b] = 0 then (if inB c 0 1000000000 = false then 1 else if momB t = false then 1 else 0) else boE [b]) else tiE l
def cfN (l : List Ti) (b : Bo) (c t : Int) : Int := if cfE l b c t = 0 then c * cnP l (b.2.2.1 - t) / 1000 else 0
def CfRel (w : World) (l : List Ti) (d : Int) (g : Nat) (b : Bo) (s i : Value) (wr : World) : Prop :=
  ∃ k : Nat, k ≤ l.length ∧ i = .int .i64 k ∧ s = .int .i64 (cnP (l.take k) d) ∧ Bk wr g 31 (boC b) ∧ G w wr none
set_option maxRecDepth 100000 in
set_option maxHeartbeats 4000000 in
theorem cancelFee_c (v : Value) (l : List Ti) (b : Bo) (c t : Int) (w : World) (hr : RdR w 2 tiC v l) (hn : l.length ≤ 1000) (hb : boB b) :
    Calls Tryd.prog 15 #[v, .agg (boC b), .int .i64 c, .int .i64 t] w fun e w' => e = .returned (.tuple #[.int .i64 (cfN l b c t), .int .i64 (cfE l b c t)]) ∧ G w w' none := by
  have HR := Lib.hid hr
  have HB : Hid (boB b) := Lib.hid hb
  have hB0 := Bk.new w 31 (boC b)
  have hG0 := (G.refl w none).alloc (.cells (boC b) 31)
  obtain ⟨a, cap, rfl, hcap, hm⟩ := RdR.form hr
  clear hr hb
  go_enter Tryd.func15, Tryd.ntmps15
  go_wp2_with fail
  refine (checkTiers_c _ l _ (HR.out.quiet hG0) hn).mono ?_; rintro e w1 ⟨rfl, hG1⟩
  have hB := hB0.quiet hG1
  have hG := hG0.trans hG1
  clear hB0 hG0 hG1
  by_cases h0 : tiE l = 0
  · have HE : Hid (cfE l b c t = if boE [b] = 0 then (if inB c 0 1000000000 = false then 1 else if momB t = false then 1 else 0) else boE [b]) := Lib.hid (by rw [cfE, if_pos h0])
    have HOK := Lib.hid (tiE_ok h0)
    rw [h0]
    clear h0
    go_wp2_with (refine wpList_load_row rfl 31 _ rfl w.heap.size rfl 31 #[.string b.1, .string b.2.1, .int .i64 b.2.2.1, .int .i64 b.2.2.2.1, .int .i64 b.2.2.2.2.1, .int .i64 b.2.2.2.2.2] (0, 0) _ hB Tryd.underlying31 rfl (bo_info b) ?_)
    have hN2 : Bk (w1.alloc (.cells #[.string b.1, .string b.2.1, .int .i64 b.2.2.1, .int .i64 b.2.2.2.1, .int .i64 b.2.2.2.2.1, .int .i64 b.2.2.2.2.2] 31)) w1.heap.size 31 (boC b) := Bk.new w1 31 (boC b)
    have hG2 := hG.alloc (.cells #[.string b.1, .string b.2.1, .int .i64 b.2.2.1, .int .i64 b.2.2.2.1, .int .i64 b.2.2.2.2.1, .int .i64 b.2.2.2.2.2] 31)
    have hB2 := hB.alloc (.cells #[.string b.1, .string b.2.1, .int .i64 b.2.2.1, .int .i64 b.2.2.2.1, .int .i64 b.2.2.2.2.1, .int .i64 b.2.2.2.2.2] 31)
    clear hB hG
    refine (checkForm_c _ [b] _ (RdR.one hN2) (BoOk.one HB.out) (one_len b)).mono ?_; rintro e w3 ⟨rfl, hG3⟩
    have hB := hB2.quiet hG3
    have hG := hG2.trans hG3
    clear hN2 hB2 hG2 hG3
    by_cases h1 : boE [b] = 0
    · have HE2 : Hid (cfE l b c t = if inB c 0 1000000000 = false then 1 else if momB t = false then 1 else 0) := Lib.hid (by rw [HE.out, if_pos h1])
      obtain ⟨a0, a1⟩ := boE_ok h1
      rw [h1]
      clear h1 HE
      go_wp2_with fail
      refine (within_c _ _ _ _).mono ?_; rintro e w' ⟨rfl, rfl⟩
      cases hc : inB c 0 1000000000 with
      | false =>
        have HF : Hid (cfE l b c t = 1) := Lib.hid (by rw [HE2.out, if_pos hc])
        have HN : Hid (cfN l b c t = 0) := Lib.hid (by rw [cfN, if_neg (by rw [HF.out]; decide)])
        go_wp2_with fail
        go_ret2
        exact ⟨by rw [HF.out, HN.out]; rfl, hG⟩
      | true =>
        have HC := Lib.hid hc
        clear hc
        go_wp2_with fail
        refine (isMoment_c _ _).mono ?_; rintro e w' ⟨rfl, rfl⟩
        cases ht : momB t with
        | false =>
          have HF : Hid (cfE l b c t = 1) := Lib.hid (by rw [HE2.out, if_neg (by simp [HC.out]), if_pos ht])
          have HN : Hid (cfN l b c t = 0) := Lib.hid (by rw [cfN, if_neg (by rw [HF.out]; decide)])
          go_wp2_with fail
          go_ret2
          exact ⟨by rw [HF.out, HN.out]; rfl, hG⟩
        | true =>
          have HF : Hid (cfE l b c t = 0) := Lib.hid (by rw [HE2.out, if_neg (by simp [HC.out]), if_neg (by simp [ht])])
          have HN : Hid (cfN l b c t = c * cnP l (b.2.2.1 - t) / 1000) := Lib.hid (by rw [cfN, if_pos HF.out])
          obtain ⟨t0, t1⟩ : 0 ≤ t ∧ t < 5761440 := by simpa [momB] using ht
          obtain ⟨c0, c1⟩ : 0 ≤ c ∧ c ≤ 1000000000 := by simpa [inB] using HC.out
          clear ht HE2
          go_wp2_with fail
          go_loopw [12, 36] (CfRel w l (b.2.2.1 - t) w.heap.size b) (fun _ i _ => l.length - (intOf i).toNat)
          case atStart => exact ⟨0, by omega, rfl, rfl, hB, hG⟩
          case round =>
            clear hB hG
            obtain ⟨k, hkl, rfl, rfl, hB, hG⟩ := hrel
            by_cases hk : k < l.length
            · obtain ⟨p, hp⟩ : ∃ p, l[k]? = some p := ⟨_, List.getElem?_eq_getElem hk⟩
              have HP : Hid (cnP (l.take (k + 1)) (b.2.2.1 - t) = if b.2.2.1 - t < p.1 then p.2 else cnP (l.take k) (b.2.2.1 - t)) := Lib.hid (cnP_succ _ hp)
              obtain ⟨bb, bo, rfl, hbb, _⟩ := RdR.elem tiC_sz HR.out hG hp
              have HW := Lib.hid (tiRow HR.out hG hp)
              have hB5 := Bk.new wr 122 (tiC p)
              have hG5 := hG.alloc (.cells (tiC p) 122)
              have hB6 := hB.alloc (.cells (tiC p) 122)
              have cb : wr.cell? ⟨w.heap.size, 2, none⟩ = some (.int .i64 b.2.2.1) := hB.cell 2
              have hlt := hB.lt
              have HB6 := Lib.hid hB6
              have HG5 := Lib.hid hG5
              clear hp hG hB hB5 hB6 hG5
              rcases (show b.2.2.1 - t < p.1 ∨ p.1 ≤ b.2.2.1 - t by omega) with h2 | h2
              · have HQ : Hid (p.2 = cnP (l.take (k + 1)) (b.2.2.1 - t)) := Lib.hid (by rw [HP.out, if_pos h2])
                clear HP
                generalize cnP (l.take k) (b.2.2.1 - t) = N0
                go_wp2_with (refine wpList_load_at rfl 122 _ rfl ⟨bb, bo + k * 2, none⟩ rfl #[.int .i64 p.1, .int .i64 p.2] _ HW.out Tryd.underlying122 rfl (ti_info p) ?_)
                go_roundw
                case rel => exact ⟨k + 1, by omega, by go_num, by rw [← HQ.out], HB6.out, HG5.out⟩
                case measure => simp [intOf]; omega
              · have HQ : Hid (cnP (l.take k) (b.2.2.1 - t) = cnP (l.take (k + 1)) (b.2.2.1 - t)) := Lib.hid (by rw [HP.out, if_neg (by omega)])
                have h3 : ¬ b.2.2.1 - t < p.1 := by omega
                clear HP
                go_wp2_with (refine wpList_load_at rfl 122 _ rfl ⟨bb, bo + k * 2, none⟩ rfl #[.int .i64 p.1, .int .i64 p.2] _ HW.out Tryd.underlying122 rfl (ti_info p) ?_)
                go_roundw
                case rel => exact ⟨k + 1, by omega, by go_num, by rw [← HQ.out], HB6.out, HG5.out⟩
                case measure => simp [intOf]; omega
            · obtain rfl : k = l.length := by omega
              rw [List.take_length] at *
              obtain ⟨n0, n1⟩ := cnP_rng HOK.out (b.2.2.1 - t)
              generalize cnP l (b.2.2.1 - t) = N at HN n0 n1 ⊢
              have m0 : 0 ≤ c * N := Int.mul_nonneg c0 n0
              have m1 : c * N ≤ 1000000000000 := by
                have := Int.mul_le_mul c1 n1 n0 (by omega)
                omega
              go_wp2_with fail
              go_ret2
              exact ⟨by rw [HF.out, HN.out]; rfl, hG⟩
    · have HF : Hid (cfE l b c t = boE [b]) := Lib.hid (by rw [HE.out, if_neg h1])
      have HN : Hid (cfN l b c t = 0) := Lib.hid (by rw [cfN, if_neg (by rw [HF.out]; exact h1)])
      have h1' : (boE [b] != 0) = true := by rw [bne_iff_ne]; exact h1
      clear h1 HE
      generalize boE [b] = E at h1' HF ⊢
      go_wp2_with fail
      go_ret2
      exact ⟨by rw [HF.out, HN.out]; rfl, hG⟩
  · have HF : Hid (cfE l b c t = tiE l) := Lib.hid (by rw [cfE, if_neg h0])
    have HN : Hid (cfN l b c t = 0) := Lib.hid (by rw [cfN, if_neg (by rw [HF.out]; exact h0)])
    have h0' : (tiE l != 0) = true := by rw [bne_iff_ne]; exact h0
    clear h0
    generalize tiE l = E at h0' HF ⊢
    go_wp2_with fail
    go_ret2
    exact ⟨by rw [HF.out, HN.out]; rfl, hG⟩
def CcoRel (w : World) (l : List Ti) (d c : Int) (g : Nat) (b : Bo) (s i : Value) (wr : World) : Prop :=
  ∃ k : Nat, k ≤ l.length ∧ i = .int .i64 k ∧ s = .int .i64 (c * cnP (l.take k) d / 1000) ∧ Bk wr g 31 (boC b) ∧ G w wr none
set_option maxRecDepth 100000 in
set_option maxHeartbeats 4000000 in
theorem cancelOf_c (v : Value) (l : List Ti) (b : Bo) (c t : Int) (w : World) (hr : RdR w 2 tiC v l) (hn : l.length ≤ 1000) (h0 : tiE l = 0) (a0 : 0 ≤ b.2.2.1) (a1 : b.2.2.1 < 5761440) (t0 : 0 ≤ t) (t1 : t < 5761440) (c0 : 0 ≤ c) (c1 : c ≤ 1000000000) :
    Calls Tryd.prog 22 #[v, .agg (boC b), .int .i64 c, .int .i64 t] w fun e w' => e = .returned (.int .i64 (c * cnP l (b.2.2.1 - t) / 1000)) ∧ G w w' none := by
  have HR := Lib.hid hr
  have hB := Bk.new w 31 (boC b)
  have hG := (G.refl w none).alloc (.cells (boC b) 31)
  have HOK := Lib.hid (tiE_ok h0)
  obtain ⟨a, cap, rfl, hcap, hm⟩ := RdR.form hr
  clear hr h0
  go_enter Tryd.func22, Tryd.ntmps22
  go_wp2_with fail
  go_loopw [9, 14] (CcoRel w l (b.2.2.1 - t) c w.heap.size b) (fun _ i _ => l.length - (intOf i).toNat)
  case atStart => exact ⟨0, by omega, rfl, by rw [List.take_zero, show cnP [] (b.2.2.1 - t) = 0 from rfl, Int.mul_zero]; rfl, hB, hG⟩
  case round =>
    clear hB hG
    obtain ⟨k, hkl, rfl, rfl, hB, hG⟩ := hrel
    by_cases hk : k < l.length
    · obtain ⟨p, hp⟩ : ∃ p, l[k]? = some p := ⟨_, List.getElem?_eq_getElem hk⟩
      have HP : Hid (cnP (l.take (k + 1)) (b.2.2.1 - t) = if b.2.2.1 - t < p.1 then p.2 else cnP (l.take k) (b.2.2.1 - t)) := Lib.hid (cnP_succ _ hp)
      obtain ⟨n0, n1⟩ := HOK.out p (List.mem_of_getElem? hp)
      have m0 : 0 ≤ c * p.2 := Int.mul_nonneg c0 n0
      have m1 : c * p.2 ≤ 1000000000000 := by
        have := Int.mul_le_mul c1 n1 n0 (by omega)
        omega
      obtain ⟨bb, bo, rfl, hbb, _⟩ := RdR.elem tiC_sz HR.out hG hp
      have HW := Lib.hid (tiRow HR.out hG hp)
      have HB6 := Lib.hid (hB.alloc (.cells (tiC p) 122))
      have HG5 := Lib.hid (hG.alloc (.cells (tiC p) 122))
      have cb : wr.cell? ⟨w.heap.size, 2, none⟩ = some (.int .i64 b.2.2.1) := hB.cell 2
      have hlt := hB.lt
      clear hp hG hB
      rcases (show b.2.2.1 - t < p.1 ∨ p.1 ≤ b.2.2.1 - t by omega) with h2 | h2
      · have HQ : Hid (p.2 = cnP (l.take (k + 1)) (b.2.2.1 - t)) := Lib.hid (by rw [HP.out, if_pos h2])
        clear HP
        generalize c * cnP (l.take k) (b.2.2.1 - t) / 1000 = N0
        go_wp2_with (refine wpList_load_at rfl 122 _ rfl ⟨bb, bo + k * 2, none⟩ rfl #[.int .i64 p.1, .int .i64 p.2] _ HW.out Tryd.underlying122 rfl (ti_info p) ?_)
        go_roundw
        case rel => exact ⟨k + 1, by omega, by go_num, by rw [← HQ.out], HB6.out, HG5.out⟩
        case measure => simp [intOf]; omega
      · have HQ : Hid (cnP (l.take k) (b.2.2.1 - t) = cnP (l.take (k + 1)) (b.2.2.1 - t)) := Lib.hid (by rw [HP.out, if_neg (by omega)])
        have h3 : ¬ b.2.2.1 - t < p.1 := by omega
        clear HP
        go_wp2_with (refine wpList_load_at rfl 122 _ rfl ⟨bb, bo + k * 2, none⟩ rfl #[.int .i64 p.1, .int .i64 p.2] _ HW.out Tryd.underlying122 rfl (ti_info p) ?_)
        go_roundw
        case rel => exact ⟨k + 1, by omega, by go_num, by rw [← HQ.out], HB6.out, HG5.out⟩
        case measure => simp [intOf]; omega
    · obtain rfl : k = l.length := by omega
      rw [List.take_length] at *
      obtain ⟨N, hN⟩ : ∃ N, c * cnP l (b.2.2.1 - t) / 1000 = N := ⟨_, rfl⟩
      have HN := Lib.hid hN
      rw [hN]
      clear hN
      go_wp2_with fail
      go_ret
      exact ⟨by rw [HN.out]; rfl, hG⟩
end Go.Proofs.YtndeidcddlmhbaaDoor

/- basic.Lowest. -/
namespace Go.Proofs.YtndeidcddlmhbaaDoor
open Go.RowKit

def frC (a b : Int) : Array Value := #[.int .i64 a, .int .i64 b]
theorem fr_info (a b : Int) : (Tryd.prog.info? 134).map (·.size) = some (frC a b).size := (by kernel_rfl : (Tryd.prog.info? 134).map (·.size) = some 2)
theorem fr_one (a b : Int) : (frC a b).all (·.oneCell') = true := by simp [frC, Value.oneCell']
theorem quo_wrap (n a q : Nat) (hn : n ≤ 1000000000000000000) (hq : n / a = q) : IntKind.i64.wrap ((n : Int) / (a : Int)) = (q : Int) := by
  have h2 : q ≤ n := by rw [← hq]; exact Nat.div_le_self n a
  have h1 : (n : Int) / (a : Int) = (q : Int) := by rw [← hq]; rfl
  rw [h1, IntKind.wrap_i64]
  omega
def LowRel (n d : Nat) (s5 s6 : Value) (w wr : World) : Prop :=
  ∃ a b : Nat, s5 = .int .i64 a ∧ s6 = .int .i64 b ∧ Nat.gcd a b = Nat.gcd d n ∧ a ≤ 1000000000000000000 ∧ b ≤ 1000000000000000000 ∧ 0 < a ∧ Bk wr w.heap.size 134 (frC 0 0) ∧ G w wr none
set_option maxRecDepth 100000 in
set_option maxHeartbeats 2000000 in
theorem lowest_c (n d : Nat) (w : World) (hn : n ≤ 1000000000000000000) (hd : d ≤ 1000000000000000000) (h0 : 0 < d) :
    Calls Tryd.prog 135 #[.int .i64 n, .int .i64 d] w fun e w' => e = .returned (.agg (frC (n / Nat.gcd d n : Nat) (d / Nat.gcd d n : Nat))) ∧ G w w' none := by
  go_enter Tryd.func135, Tryd.ntmps135
  go_wp2_with fail
  go_loopw [5, 6] (fun s5 s6 wr => LowRel n d s5 s6 w wr) (fun _ i _ => (intOf i).toNat)
  case atStart => exact ⟨d, n, rfl, rfl, rfl, hd, hn, h0, Bk.new w _ _, (G.refl _ _).alloc _⟩
  case round =>
    obtain ⟨a, b, rfl, rfl, hg, ha, hb, a0, hB, hG⟩ := hrel
    have HG := Lib.hid hg
    clear hg
    by_cases hb0 : b = 0
    · subst hb0
      have hag : a = Nat.gcd d n := by rw [← HG.out]; simp
      have HA := Lib.hid hag
      clear hag
      obtain ⟨q1, hq1⟩ : ∃ q, n / a = q := ⟨_, rfl⟩
      obtain ⟨q2, hq2⟩ : ∃ q, d / a = q := ⟨_, rfl⟩
      have hane : ¬ a = 0 := by omega
      have hw1 := quo_wrap n a q1 hn hq1
      have hw2 := quo_wrap d a q2 hd hq2
      have HQ1 := Lib.hid hq1
      have HQ2 := Lib.hid hq2
      clear hq1 hq2
      go_wp2_with fail
      have HQQ : Hid (Ending.returned (.agg (frC q1 q2)) = .returned (.agg (frC (n / Nat.gcd d n : Nat) (d / Nat.gcd d n : Nat)))) := Lib.hid (by rw [← HA.out, HQ1.out, HQ2.out])
      go_still_tail 7, (by kernel_rfl)
      change wpList _ _ _ _ _ wr.drew
      have hBd := hB.quiet ((G.refl wr none).drew)
      have hGd := hG.drew
      clear hB hG
      generalize wr.drew = w2 at hBd hGd ⊢
      go_wp2_with (refine wpList_store_row rfl 134 _ _ rfl w.heap.size (frC q1 q2) rfl rfl 134 _ hBd (fr_info q1 q2) rfl (fr_one q1 q2) ?_)
      refine bodyPost_ret (results_cell_row rfl _ _ w.heap.size 134 (frC q1 q2) (0, 0) _ rfl (hBd.setRow _) Tryd.underlying134 rfl (fr_info q1 q2)) rfl ?_
      exact ⟨HQQ.out, hGd.setRow (.inl (Nat.le_refl _)) _⟩
    · have hbp : 0 < b := by omega
      have hne : ((b : Int) != 0) = true := by rw [bne_iff_ne]; omega
      have hbq : ((b : Int) == 0) = false := by rw [beq_eq_false_iff_ne]; omega
      have htm : (a : Int).tmod (b : Int) = ((a % b : Nat) : Int) := by rw [Int.tmod_eq_emod_of_nonneg (by omega)]; rfl
      have hmw : IntKind.i64.wrap ((a % b : Nat) : Int) = ((a % b : Nat) : Int) := by have := Nat.mod_lt a hbp; rw [IntKind.wrap_i64]; omega
      have HML := Lib.hid (Nat.mod_lt a hbp)
      go_wp2_with fail
      go_quiet (fail)
      have hGq := hG.drewN nq
      have hBq := hB.drewN nq
      go_wp2_with fail
      go_roundw
      case rel => exact ⟨b, a % b, rfl, rfl, by rw [← HG.out, Nat.gcd_comm a b]; exact (Nat.gcd_rec b a).symm ▸ by rw [Nat.gcd_comm], hb, by have := HML.out; omega, hbp, hBq, hGq⟩
      case measure => have := HML.out; simp [intOf]; omega
end Go.Proofs.YtndeidcddlmhbaaDoor

/- The law's own 'booked': the odds of one booking. -/
namespace Go.Proofs.YtndeidcddlmhbaaDoor
open Go.RowKit

def coE (l : List Bo) : Int := if boE l = 0 then (if 9 < l.length then 2 else 0) else boE l
set_option maxRecDepth 100000 in
set_option maxHeartbeats 1000000 in
theorem checkOdds_c (v : Value) (l : List Bo) (w : World) (hr : RdR w 6 boC v l) (hl : BoOk l) (hn : l.length ≤ 1000) :
    Calls Tryd.prog 133 #[v] w fun e w' => e = .returned (.int .i64 (coE l)) ∧ G w w' none := by
  have HR := Lib.hid hr
  obtain ⟨a, cap, rfl, hcap, hm⟩ := RdR.form hr
  clear hr
  go_enter Tryd.func133, Tryd.ntmps133
  go_wp2_with fail
  refine (checkForm_c _ l _ HR.out hl hn).mono ?_; rintro e w1 ⟨rfl, hG1⟩
  by_cases h0 : boE l = 0
  · have HE : Hid (coE l = if 9 < l.length then 2 else 0) := Lib.hid (by rw [coE, if_pos h0])
    rw [h0]
    clear h0
    by_cases h9 : 9 < l.length
    · have HF : Hid (coE l = 2) := Lib.hid (by rw [HE.out, if_pos h9])
      go_wp2_with fail
      go_ret
      exact ⟨by rw [HF.out]; rfl, hG1⟩
    · have HF : Hid (coE l = 0) := Lib.hid (by rw [HE.out, if_neg h9])
      go_wp2_with fail
      go_ret
      exact ⟨by rw [HF.out]; rfl, hG1⟩
  · have HF : Hid (coE l = boE l) := Lib.hid (by rw [coE, if_neg h0])
    have h0' : (boE l != 0) = true := by rw [bne_iff_ne]; exact h0
    clear h0
    generalize boE l = E at h0' HF ⊢
    go_wp2_with fail
    go_ret
    exact ⟨by rw [HF.out]; rfl, hG1⟩
def bo1 : Bo := (⟨#[97]⟩, ⟨#[99]⟩, 0, 1, 0, 50)
set_option maxRecDepth 100000 in
set_option maxHeartbeats 4000000 in
theorem casesOf1_c (w : World) (b : Nat) (h : Bk w b 31 (boC bo1)) :
    Calls Tryd.prog 134 #[.slice (some ⟨b, 0, none⟩) 1 1] w fun e w' => ∃ g, e = .returned (.tuple #[.slice (some ⟨g, 0, none⟩) 2 2, .int .i64 100]) ∧ Bk w' g 3 #[.int .i64 50, .int .i64 50] ∧ G w w' none := by
  have HA := Lib.hid h.at_
  have hb := h.lt
  have h1 := h.alloc (.cells #[.int .i64 1] 3)
  have hG1 := (G.refl w none).alloc (.cells #[.int .i64 1] 3)
  have hN1 := Bk.new w 3 #[.int .i64 1]
  have HA1 := Lib.hid h1.at_
  have hms : ∀ w : World, (Instr.makeSlice 22 (.int .i64 2) (.int .i64 2)).run Tryd.prog w = .ok (.slice (some ⟨w.heap.size, 0, none⟩) 2 2) (w.alloc (.cells #[.int .i64 0, .int .i64 0] 3)) := fun _ => by kernel_rfl
  clear h
  go_enter Tryd.func134, Tryd.ntmps134
  go_wp2_with fail
  refine wp_loop_rounds 2 ?_
  rw [rounds_succ]
  go_wp2_with (refine wpList_load_at rfl 31 _ rfl ⟨b, 0, none⟩ rfl #[.string ⟨#[97]⟩, .string ⟨#[99]⟩, .int .i64 0, .int .i64 1, .int .i64 0, .int .i64 50] _ HA1.out Tryd.underlying31 rfl (bo_info bo1) ?_)
  refine wp_loop_rounds 2 ?_
  rw [rounds_succ]
  go_wp2_with fail
  have hP : Bk (((w.alloc (.cells #[.int .i64 1] 3)).alloc (.cells #[.string ⟨#[97]⟩, .string ⟨#[99]⟩, .int .i64 0, .int .i64 1, .int .i64 0, .int .i64 50] 31)).alloc (.cells #[.int .i64 0, .int .i64 0] 3)) (w.heap.size + 1) 31 (boC bo1) := (Bk.newAt (w := w.alloc (.cells #[.int .i64 1] 3)) (b := w.heap.size + 1) (by simp) 31 (boC bo1)).alloc _
  have hN : Bk (((w.alloc (.cells #[.int .i64 1] 3)).alloc (.cells #[.string ⟨#[97]⟩, .string ⟨#[99]⟩, .int .i64 0, .int .i64 1, .int .i64 0, .int .i64 50] 31)).alloc (.cells #[.int .i64 0, .int .i64 0] 3)) (w.heap.size + 1 + 1) 3 #[.int .i64 0, .int .i64 0] := Bk.newAt (w := ((w.alloc (.cells #[.int .i64 1] 3)).alloc (.cells #[.string ⟨#[97]⟩, .string ⟨#[99]⟩, .int .i64 0, .int .i64 1, .int .i64 0, .int .i64 50] 31))) (b := w.heap.size + 1 + 1) (by simp) 3 #[.int .i64 0, .int .i64 0]
  have hO : Bk (((w.alloc (.cells #[.int .i64 1] 3)).alloc (.cells #[.string ⟨#[97]⟩, .string ⟨#[99]⟩, .int .i64 0, .int .i64 1, .int .i64 0, .int .i64 50] 31)).alloc (.cells #[.int .i64 0, .int .i64 0] 3)) w.heap.size 3 #[.int .i64 1] := ((Bk.new w 3 #[.int .i64 1]).alloc _).alloc _
  have hG : G w (((w.alloc (.cells #[.int .i64 1] 3)).alloc (.cells #[.string ⟨#[97]⟩, .string ⟨#[99]⟩, .int .i64 0, .int .i64 1, .int .i64 0, .int .i64 50] 31)).alloc (.cells #[.int .i64 0, .int .i64 0] 3)) none := (((G.refl w none).alloc _).alloc _).alloc _
  clear h1 hG1 hN1 HA HA1
  generalize (((w.alloc (.cells #[.int .i64 1] 3)).alloc (.cells #[.string ⟨#[97]⟩, .string ⟨#[99]⟩, .int .i64 0, .int .i64 1, .int .i64 0, .int .i64 50] 31)).alloc (.cells #[.int .i64 0, .int .i64 0] 3)) = w4 at hP hN hO hG ⊢
  have p5 : w4.cell? ⟨w.heap.size + 1, 5, none⟩ = some (.int .i64 50) := hP.cell 5
  have n0 : w4.cell? ⟨w.heap.size + 1 + 1, 0, none⟩ = some (.int .i64 0) := hN.cell 0
  have f0 : w4.frozen? ⟨w.heap.size + 1 + 1, 0, none⟩ = false := hN.free 0
  go_still_tail 11, (by kernel_rfl)
  change wpList _ _ _ _ _ w4.drew
  have hPd := hP.quiet ((G.refl w4 none).drew)
  have hOd := hO.quiet ((G.refl w4 none).drew)
  have hNd := hN.quiet ((G.refl w4 none).drew)
  have hGd := hG.drew
  clear hP hN hO hG p5 n0 f0
  generalize w4.drew = w5 at hPd hOd hNd hGd ⊢
  have n0 : w5.cell? ⟨w.heap.size + 1 + 1, 0, none⟩ = some (.int .i64 0) := hNd.cell 0
  have f0 : w5.frozen? ⟨w.heap.size + 1 + 1, 0, none⟩ = false := hNd.free 0
  have hN : Bk (w5.setCell ⟨w.heap.size + 1 + 1, 0, none⟩ (.int .i64 50)) (w.heap.size + 1 + 1) 3 #[.int .i64 50, .int .i64 0] := hNd.set 0 _
  have hP := hPd.far (p := ⟨w.heap.size + 1 + 1, 0, none⟩) (show w.heap.size + 1 ≠ w.heap.size + 1 + 1 by omega) (.int .i64 50)
  have hG := hGd.setCell (p := ⟨w.heap.size + 1 + 1, 0, none⟩) (.inl (show w.heap.size ≤ w.heap.size + 1 + 1 by omega)) (.int .i64 50)
  clear hPd hNd hOd hGd
  go_wp2_with fail
  generalize w5.setCell ⟨w.heap.size + 1 + 1, 0, none⟩ (.int .i64 50) = w6 at hP hN hG ⊢
  have p5 : w6.cell? ⟨w.heap.size + 1, 5, none⟩ = some (.int .i64 50) := hP.cell 5
  have n1 : w6.cell? ⟨w.heap.size + 1 + 1, 1, none⟩ = some (.int .i64 0) := hN.cell 1
  have hw1 : IntKind.i64.wrap 1 = 1 := by decide
  have f1 : w6.frozen? ⟨w.heap.size + 1 + 1, 1, none⟩ = false := hN.free 1
  go_still_tail 11, (by kernel_rfl)
  change wpList _ _ _ _ _ w6.drew
  have hNd := hN.quiet ((G.refl w6 none).drew)
  have hGd := hG.drew
  clear hP hN hG p5 n1 f1
  generalize w6.drew = w7 at hNd hGd ⊢
  have n1 : w7.cell? ⟨w.heap.size + 1 + 1, 1, none⟩ = some (.int .i64 0) := hNd.cell 1
  have f1 : w7.frozen? ⟨w.heap.size + 1 + 1, 1, none⟩ = false := hNd.free 1
  have hN : Bk (w7.setCell ⟨w.heap.size + 1 + 1, 1, none⟩ (.int .i64 50)) (w.heap.size + 1 + 1) 3 #[.int .i64 50, .int .i64 50] := hNd.set 1 _
  have hG := hGd.setCell (p := ⟨w.heap.size + 1 + 1, 1, none⟩) (.inl (show w.heap.size ≤ w.heap.size + 1 + 1 by omega)) (.int .i64 50)
  clear hNd hGd
  go_wp2_with fail
  rw [rounds_succ]
  go_wp2_with fail
  rw [rounds_succ]
  go_wp2_with fail
  go_ret2
  exact ⟨_, rfl, hN, hG⟩
theorem bo1_ok : boB bo1 := ⟨small_of (by decide), small_of (by decide), by unfold bnd bo1; dsimp only; omega, by unfold bnd bo1; dsimp only; omega, by unfold bnd bo1; dsimp only; omega, by unfold bnd bo1; dsimp only; omega⟩
theorem coE_one : coE [bo1] = 0 := by
  have h1 : boE [bo1] = 0 := by
    show boErr ⟨#[]⟩ [bo1] = 0
    unfold boErr bo1
    dsimp only
    rw [if_neg (by rw [show keyB ⟨#[97]⟩ = true by decide]; decide), if_neg (by rw [show keyB ⟨#[99]⟩ = true by decide]; decide), if_neg (by rw [leB_cmp]; decide), if_neg (by decide)]
    rfl
  rw [coE, if_pos h1, if_neg (by decide)]
/-! A row of fractions that the call owns. -/
abbrev Fr := Int × Int
def frV (x : Fr) : Array Value := frC x.1 x.2
theorem frV_sz (x : Fr) : (frV x).size = 2 := rfl
abbrev OwnFr (w : World) (base : Nat) (v : Value) (l : List Fr) : Prop := w.ownsRow base 134 2 v l.length (rowL frV l)
theorem fr_row : (Tryd.prog.info? 134).map (fun i => (i.zero, i.size, i.bytes)) = some (some (.agg (frC 0 0)), 2, 16) := by kernel_rfl
theorem frV_one (r : Fr) : ∀ u ∈ (frV r).toList, u.oneCell' = true := by
  intro u hu
  simp [frV, frC] at hu
  rcases hu with rfl | rfl <;> rfl
theorem wp_append_fr {w : World} {o : Oper} {a : Act} {K : Act → World → Prop} {Q : Exit → Act → World → Prop} (s x : Operand)
    (ho : o.op = .call { callee := .builtin .append, args := #[s, x], argTypes := #[129, 129] }) (base : Nat) (v : Value) (l : List Fr) (hs : a.eval s = v) (hown : OwnFr w base v l)
    (g : Nat) (r : Fr) (hx : a.eval x = .slice (some ⟨g, 0, none⟩) 1 1) (hb : Bk w g 134 (frV r)) (hl : l.length ≤ 1000) (hbase : base ≤ w.heap.size)
    (hK : ∀ v' w', OwnFr w' base v' (l ++ [r]) → w.grownBy w' v.ownBlock → K (a.put o.dst v') w') : o.wp Tryd.prog a w K Q := by
  obtain ⟨i0, hi, hz0, hz1, hz2⟩ := info_parts fr_row
  refine wp_append_own w s x 129 ho base 134 i0 _ 2 16 Tryd.underlying129 hi hz0 hz1 hz2 rfl (by decide) v l.length (rowL frV l) hs hown ⟨g, 0, none⟩ 1 1 (frV r).toList hx rfl hb.at_ (frV_one r) (by unfold maxLen; omega) (by omega) hbase ?_
  intro v' w' h1 h2 _
  refine hK v' w' ?_ h2
  unfold OwnFr
  rw [List.length_append, rowL_snoc]
  exact h1
theorem OwnFr.alloc {w : World} {base : Nat} {v : Value} {l : List Fr} (h : OwnFr w base v l) (o : Obj) : OwnFr (w.alloc o) base v l := World.ownsRow.alloc h o
theorem OwnFr.quiet {w w' : World} {base : Nat} {v : Value} {l : List Fr} (h : OwnFr w base v l) (hg : G w w' none) : OwnFr w' base v l :=
  World.ownsRow.kept h hg (Classical.em _)
set_option maxRecDepth 100000 in
set_option maxHeartbeats 4000000 in
theorem spread1_c (w : World) (b : Nat) (h : Bk w b 31 (boC bo1)) :
    Calls Tryd.prog 87 #[.slice (some ⟨b, 0, none⟩) 1 1] w fun e w' => ∃ v, e = .returned (.tuple #[v, .int .i64 0]) ∧ OwnFr w' w.heap.size v [(1, 2), (1, 2)] ∧ G w w' none := by
  go_enter Tryd.func87, Tryd.ntmps87
  go_wp2_with fail
  refine (checkOdds_c _ [bo1] _ (RdR.one h) (BoOk.one bo1_ok) (one_len bo1)).mono ?_; rintro e w1 ⟨rfl, hG1⟩
  rw [coE_one]
  have h1 := h.quiet hG1
  go_wp2_with fail
  refine (casesOf1_c _ b h1).mono ?_; rintro e w2 ⟨g, rfl, hN2, hG2⟩
  have hG02 := hG1.trans hG2
  clear hG1 hG2 h h1
  have c0 : w2.cell? ⟨g, 0, none⟩ = some (.int .i64 50) := hN2.cell 0
  go_wp2_with fail
  refine wp_loop_rounds 3 ?_
  rw [rounds_succ]
  go_wp2_with fail
  refine (lowest_c 50 100 _ (by omega) (by omega) (by omega)).mono ?_; rintro e w3 ⟨rfl, hG3⟩
  rw [show frC ((50 / Nat.gcd 100 50 : Nat) : Int) ((100 / Nat.gcd 100 50 : Nat) : Int) = #[.int .i64 1, .int .i64 2] by rfl]
  have hN3 := (hN2.quiet hG3).alloc (.cells #[.int .i64 1, .int .i64 2] 134)
  have hG03 := (hG02.trans hG3).alloc (.cells #[.int .i64 1, .int .i64 2] 134)
  have hz3 := hG03.size
  clear hN2 hG02 hG3 c0
  go_wp2_with (at_builtin; refine wpList_plain rfl fun K' hK' => wp_append_fr _ _ rfl w.heap.size (.slice none 0 0) [] rfl (World.ownsRow_nil _ _ _ _) w3.heap.size (1, 2) rfl (Bk.new w3 _ _) (by simp) hz3 ?_; intro v1 w4 hown1 hgrow1; refine hK' _ _ ?_)
  have hN4 := hN3.quiet hgrow1
  have hG04 := hG03.trans hgrow1
  clear hN3 hG03 hz3 hgrow1
  have c1 : w4.cell? ⟨g, 1, none⟩ = some (.int .i64 50) := hN4.cell 1
  rw [rounds_succ]
  go_wp2_with fail
  refine (lowest_c 50 100 _ (by omega) (by omega) (by omega)).mono ?_; rintro e w5 ⟨rfl, hG5⟩
  rw [show frC ((50 / Nat.gcd 100 50 : Nat) : Int) ((100 / Nat.gcd 100 50 : Nat) : Int) = #[.int .i64 1, .int .i64 2] by rfl]
  have hown2 := (hown1.quiet hG5).alloc (.cells #[.int .i64 1, .int .i64 2] 134)
  have hG05 := (hG04.trans hG5).alloc (.cells #[.int .i64 1, .int .i64 2] 134)
  have hz5 := hG05.size
  clear hN4 hG04 hG5 c1 hown1
  go_wp2_with (at_builtin; refine wpList_plain rfl fun K' hK' => wp_append_fr _ _ rfl w.heap.size v1 [(1, 2)] rfl hown2 w5.heap.size (1, 2) rfl (Bk.new w5 _ _) (by simp) hz5 ?_; intro v2 w6 hown3 hgrow2; refine hK' _ _ ?_)
  have hG06 := hG05.other hgrow2 (fun j e => .inl (World.ownsRow.lt hown2 j e).1)
  rw [rounds_succ]
  go_wp2_with fail
  go_ret2
  exact ⟨_, rfl, hown3, hG06⟩
theorem fr_neq (x y : Fr) (w : World) : (binOp .neq 134 (.agg (frV x)) (.agg (frV y))).run Tryd.prog w = .ok (.bool (!(decide (x = y)))) w := by
  obtain ⟨a, b⟩ := x
  obtain ⟨c, d⟩ := y
  have ht : Tryd.prog.underlying 134 = some (.struct (Tryd.prog.fieldsOf 134)) := by kernel_rfl
  have hp : Tryd.prog.stoodInHeld 134 = false := by kernel_rfl
  rw [run_neq_struct, run_equalIn_agg w 9999 134 _ _ ht hp]
  simp [frV, frC, Tryd.underlying134, Tryd.underlying3, go_sem]
  by_cases h1 : a = c <;> by_cases h2 : b = d <;> simp [h1, h2]
def EqfRel (l m : List Fr) (w : World) (i : Value) (wr : World) : Prop := ∃ k n : Nat, k ≤ l.length ∧ i = .int .i64 k ∧ l.take k = m.take k ∧ wr = w.drewN n
theorem take_succ_eq {l m : List Fr} {k : Nat} {x : Fr} (h : l.take k = m.take k) (hx : l[k]? = some x) (hy : m[k]? = some x) : l.take (k + 1) = m.take (k + 1) := by
  rw [List.take_add_one, List.take_add_one, h, hx, hy]
set_option maxRecDepth 100000 in
set_option maxHeartbeats 4000000 in
theorem frEqual_c (v u : Value) (l m : List Fr) (w : World) (hr : RdR w 2 frV v l) (hs : RdR w 2 frV u m) (hn : l.length ≤ 1000000) :
    Calls Tryd.prog 88 #[v, u] w fun e w' => e = .returned (.bool (decide (l = m))) ∧ G w w' none := by
  have HR := Lib.hid hr
  have HS := Lib.hid hs
  obtain ⟨a, cap, rfl, hcap, hm1⟩ := RdR.form hr
  obtain ⟨a2, cap2, rfl, hcap2, hm2⟩ := RdR.form hs
  clear hr hs
  by_cases hlen : l.length = m.length
  · have hlq : ((l.length : Int) != (m.length : Int)) = false := by rw [hlen]; simp
    have hlq2 : ((m.length : Int) != (l.length : Int)) = false := by rw [hlen]; simp
    have HL := Lib.hid hlen
    clear hlen
    go_enter Tryd.func88, Tryd.ntmps88
    go_wp2_with fail
    go_loopw [13] (EqfRel l m w) (fun i _ => l.length - (intOf i).toNat)
    case atStart => exact ⟨0, 0, by omega, rfl, rfl, rfl⟩
    case round =>
      obtain ⟨k, n, hk, rfl, heq, rfl⟩ := hrel
      have HE := Lib.hid heq
      clear heq
      by_cases hlt : k < l.length
      · obtain ⟨x, hx⟩ : ∃ x, l[k]? = some x := ⟨_, List.getElem?_eq_getElem hlt⟩
        obtain ⟨y, hy⟩ : ∃ y, m[k]? = some y := ⟨_, List.getElem?_eq_getElem (by rw [← HL.out]; exact hlt)⟩
        have hlt2 : k < m.length := by have := HL.out; omega
        obtain ⟨bb, bo, rfl, hbb, _⟩ := RdR.elem frV_sz HR.out (G.refl w none) hx
        obtain ⟨b2, o2, rfl, hb2, _⟩ := RdR.elem frV_sz HS.out (G.refl w none) hy
        have d0 := RdR.cell frV_sz HR.out (G.refl w none) hx 0 (.int .i64 x.1) rfl
        have d1 := RdR.cell frV_sz HR.out (G.refl w none) hx 1 (.int .i64 x.2) rfl
        have e0 := RdR.cell frV_sz HS.out (G.refl w none) hy 0 (.int .i64 y.1) rfl
        have e1 := RdR.cell frV_sz HS.out (G.refl w none) hy 1 (.int .i64 y.2) rfl
        simp only [Nat.add_zero] at d0 e0
        have HX := Lib.hid hx
        have HY := Lib.hid hy
        clear hx hy
        by_cases hxy : x = y
        · have hnq : ∀ w : World, (binOp .neq 134 (.agg #[.int .i64 x.1, .int .i64 x.2]) (.agg #[.int .i64 y.1, .int .i64 y.2])).run Tryd.prog w = .ok (.bool false) w := fun w => by
            have := fr_neq x y w
            rw [decide_eq_true hxy] at this
            exact this
          have HT : Hid (l.take (k + 1) = m.take (k + 1)) := Lib.hid (take_succ_eq HE.out HX.out (by rw [hxy]; exact HY.out))
          clear hxy HX HY
          go_wp2_with fail
          go_quiet (fail)
          go_wp2_with fail
          go_roundw
          case rel => exact ⟨k + 1, _, by omega, by go_num, HT.out, rfl⟩
          case measure => simp [intOf]; omega
        · have hnq : ∀ w : World, (binOp .neq 134 (.agg #[.int .i64 x.1, .int .i64 x.2]) (.agg #[.int .i64 y.1, .int .i64 y.2])).run Tryd.prog w = .ok (.bool true) w := fun w => by
            have := fr_neq x y w
            rw [decide_eq_false hxy] at this
            exact this
          have HT : Hid (decide (l = m) = false) := Lib.hid (decide_eq_false (fun e => hxy (by have h1 := HX.out; rw [e, HY.out] at h1; exact (Option.some.inj h1).symm)))
          clear hxy HX HY
          go_wp2_with fail
          go_quiet (fail)
          go_wp2_with fail
          go_ret
          exact ⟨ret_bool HT.out.symm, ((G.refl _ _).drewN _).drewN _⟩
      · obtain rfl : k = l.length := by omega
        have HT : Hid (decide (l = m) = true) := Lib.hid (decide_eq_true (by have h := HE.out; rwa [List.take_length, HL.out, List.take_length] at h))
        go_wp2_with fail
        go_ret
        exact ⟨ret_bool HT.out.symm, (G.refl _ _).drewN _⟩
  · have hlq : ((l.length : Int) != (m.length : Int)) = true := by rw [bne_iff_ne]; omega
    have hlq2 : ¬ l.length = m.length := hlen
    have HT : Hid (decide (l = m) = false) := Lib.hid (decide_eq_false (fun e => hlen (by rw [e])))
    clear hlen
    go_enter Tryd.func88, Tryd.ntmps88
    go_wp2_with fail
    go_ret
    exact ⟨ret_bool HT.out.symm, G.refl _ _⟩
set_option maxRecDepth 100000 in
set_option maxHeartbeats 4000000 in
theorem booked_c (w : World) : Calls Tryd.prog 23 #[] w fun e w' => e = .returned (.bool true) ∧ G w w' none := by
  have hB := Bk.new w 31 (boC bo1)
  have hG := (G.refl w none).alloc (.cells (boC bo1) 31)
  go_enter Tryd.func23, Tryd.ntmps23
  go_wp2_with fail
  refine (spread1_c _ _ hB).mono ?_; rintro e w1 ⟨v, rfl, hown, hG1⟩
  have hG01 := hG.trans hG1
  have hown2 := hown.alloc (.cells #[.int .i64 1, .int .i64 2, .int .i64 1, .int .i64 2] 134)
  have hN2 : Bk (w1.alloc (.cells #[.int .i64 1, .int .i64 2, .int .i64 1, .int .i64 2] 134)) w1.heap.size 134 #[.int .i64 1, .int .i64 2, .int .i64 1, .int .i64 2] := Bk.new _ _ _
  have hG02 := hG01.alloc (.cells #[.int .i64 1, .int .i64 2, .int .i64 1, .int .i64 2] 134)
  go_wp2_with fail
  refine (frEqual_c v _ [(1, 2), (1, 2)] [(1, 2), (1, 2)] _ (Rd.of_owns hown2) (hN2.rd 2 2 rfl (by omega)) (by decide)).mono ?_; rintro e w3 ⟨rfl, hG3⟩
  rw [show decide (([(1, 2), (1, 2)] : List Fr) = [(1, 2), (1, 2)]) = true by decide]
  go_wp2_with fail
  go_ret
  exact ⟨rfl, hG02.trans hG3⟩
end Go.Proofs.YtndeidcddlmhbaaDoor

/- Odds: casesOf, for any bookings that are right. -/
namespace Go.Proofs.YtndeidcddlmhbaaDoor
open Go.RowKit

def pcs (l : List Bo) : List Int := l.map fun x => x.2.2.2.2.2
def PcOk (l : List Bo) : Prop := ∀ p ∈ pcs l, 0 ≤ p ∧ p ≤ 100
theorem pow_le (k : Nat) (h : k ≤ 9) : (100 : Int) ^ k ≤ 1000000000000000000 := by
  have : k = 0 ∨ k = 1 ∨ k = 2 ∨ k = 3 ∨ k = 4 ∨ k = 5 ∨ k = 6 ∨ k = 7 ∨ k = 8 ∨ k = 9 := by omega
  rcases this with rfl | rfl | rfl | rfl | rfl | rfl | rfl | rfl | rfl | rfl <;> decide
theorem pow_pos100 (k : Nat) : (0 : Int) < 100 ^ k := Int.pow_pos (by omega)
theorem made_ints (n : Nat) : madeCells (Value.cells (.int .i64 0)) n = ic (List.replicate n 0) := by
  apply Array.ext
  · simp [madeCells, ic]
  · intro k h1 h2
    simp [madeCells, ic, Value.cells, Nat.mod_one]
theorem make_ints (n : Nat) (hn : n ≤ 1000) (w : World) : (Instr.makeSlice 22 (.int .i64 (n : Int)) (.int .i64 (n : Int))).run Tryd.prog w = .ok (.slice (some ⟨w.heap.size, 0, none⟩) n n) (w.alloc (.cells (ic (List.replicate n 0)) 3)) := by
  obtain ⟨i0, hi, hz0, hz1, hz2⟩ := info_parts (show (Tryd.prog.info? 3).map (fun i => (i.zero, i.size, i.bytes)) = some (some (.int .i64 0), 1, 8) by kernel_rfl)
  have h := run_make (P := Tryd.prog) w 22 3 i0 (.int .i64 0) Tryd.underlying22 hi hz0 .i64 .i64 n n (by omega) (by omega) (by rw [hz2]; omega) (by omega)
  rw [h, hz1, Int.toNat_natCast, Nat.mul_one, made_ints]
theorem take_le {c : List Int} (h : NN c) (j : Nat) : (c.take j).sum ≤ c.sum := by
  induction c generalizing j with
  | nil => simp
  | cons x r ih =>
    have h1 := h x (List.mem_cons_self ..)
    have hr : NN r := fun y hy => h y (List.mem_cons_of_mem _ hy)
    cases j with
    | zero =>
      have := hr.sum
      simp only [List.take_zero, List.sum_nil, List.sum_cons]
      omega
    | succ j =>
      have := ih hr j
      simp only [List.take_succ_cons, List.sum_cons]
      omega
theorem nx_bnds {c : List Int} {p P : Int} {j : Nat} (cn : NN c) (p0 : 0 ≤ p) (p1 : p ≤ 100) (hj : j < c.length) (hs : c.sum = P) :
    0 ≤ c.getD j 0 ∧ (0 ≤ c.getD j 0 * (100 - p) ∧ c.getD j 0 * (100 - p) ≤ P * 100) ∧ (0 ≤ c.getD j 0 * p ∧ c.getD j 0 * p ≤ P * 100) ∧
    (0 ≤ (nx c p j).getD j 0 ∧ (nx c p j).getD j 0 + c.getD j 0 * (100 - p) ≤ P * 100) ∧ (0 ≤ (nx c p j).getD (j + 1) 0 ∧ (nx c p j).getD (j + 1) 0 + c.getD j 0 * p ≤ P * 100) := by
  have h1 := cn.getD j
  have hn := nx_nn cn p0 p1 j
  have h2 := hn.le_sum j
  have h3 := hn.le_sum (j + 1)
  have h4 := nx_sum c p j (by omega)
  have h5 := take_sum c j hj
  have h6 := take_le cn (j + 1)
  have h7 := hn.getD j
  have h8 := hn.getD (j + 1)
  have m1 := Int.mul_nonneg h1 (show 0 ≤ 100 - p by omega)
  have m2 := Int.mul_nonneg h1 p0
  have m3 : c.getD j 0 * (100 - p) + c.getD j 0 * p = 100 * c.getD j 0 := by rw [← Int.mul_add]; rw [show (100 - p + p : Int) = 100 by omega, Int.mul_comm]
  have h9 := (show NN (c.take j) from fun x hx => cn x (List.mem_of_mem_take hx)).sum
  omega
def CoRelO (w : World) (l : List Bo) (s4 s5 s14 : Value) (wr : World) : Prop :=
  ∃ (k g : Nat), k ≤ l.length ∧ s14 = .int .i64 k ∧ s4 = .slice (some ⟨g, 0, none⟩) (k + 1) (k + 1) ∧ s5 = .int .i64 (100 ^ k) ∧ Bk wr g 3 (ic (cas ((pcs l).take k))) ∧ w.heap.size ≤ g ∧ G w wr none
def CoRelI (w : World) (c : List Int) (p : Int) (n g g2 gb : Nat) (x : Bo) (s24 : Value) (wr : World) : Prop :=
  ∃ j : Nat, j ≤ n ∧ s24 = .int .i64 j ∧ Bk wr g 3 (ic c) ∧ Bk wr g2 3 (ic (nx c p j)) ∧ Bk wr gb 31 (boC x) ∧ G w wr none
set_option maxRecDepth 100000 in
set_option maxHeartbeats 8000000 in
theorem casesOf_c (v : Value) (l : List Bo) (w : World) (hr : RdR w 6 boC v l) (hn : l.length ≤ 9) (hp : PcOk l) :
    Calls Tryd.prog 134 #[v] w fun e w' => ∃ g, e = .returned (.tuple #[.slice (some ⟨g, 0, none⟩) (l.length + 1) (l.length + 1), .int .i64 (100 ^ l.length)]) ∧ Bk w' g 3 (ic (cas (pcs l))) ∧ w.heap.size ≤ g ∧ G w w' none := by
  have HR := Lib.hid hr
  have HPC := Lib.hid hp
  obtain ⟨ad, cap, rfl, hcap, hm⟩ := RdR.form hr
  clear hr hp
  go_enter Tryd.func134, Tryd.ntmps134
  go_wp2_with fail
  go_loopw [4, 5, 14] (CoRelO w l) (fun _ _ i _ => l.length - (intOf i).toNat)
  case atStart => exact ⟨0, w.heap.size, by omega, rfl, rfl, rfl, Bk.new w _ _, Nat.le_refl _, (G.refl _ _).alloc _⟩
  case round =>
    obtain ⟨k, g, hkl, rfl, rfl, rfl, hB, hgw, hG⟩ := hrel
    by_cases hlt : k < l.length
    · obtain ⟨x, hx⟩ : ∃ x, l[k]? = some x := ⟨_, List.getElem?_eq_getElem hlt⟩
      have hpx : (pcs l)[k]? = some x.2.2.2.2.2 := by unfold pcs; rw [List.getElem?_map, hx]; rfl
      obtain ⟨p0, p1⟩ := HPC.out _ (List.mem_of_getElem? hpx)
      have hps : (pcs l).take (k + 1) = (pcs l).take k ++ [x.2.2.2.2.2] := by
        have hk' : k < (pcs l).length := (List.getElem?_eq_some_iff.1 hpx).1
        rw [List.take_succ_eq_append_getElem hk', (List.getElem?_eq_some_iff.1 hpx).2]
      obtain ⟨cl, cn, cs⟩ := cas_ok ((pcs l).take k) (fun q hq => HPC.out q (List.mem_of_mem_take hq))
      have htl : ((pcs l).take k).length = k := by rw [List.length_take]; unfold pcs; rw [List.length_map]; omega
      rw [htl] at cl cs
      have HC : Hid (cas ((pcs l).take (k + 1)) = nx (cas ((pcs l).take k)) x.2.2.2.2.2 (k + 1)) := Lib.hid (by rw [hps, cas_snoc, cl])
      obtain ⟨bb, bo, rfl, hbb, _⟩ := RdR.elem boC_sz HR.out hG hx
      have HW := Lib.hid (boRow HR.out hG hx)
      have hms : ∀ w : World, (Instr.makeSlice 22 (.int .i64 ((k : Int) + 1 + 1)) (.int .i64 ((k : Int) + 1 + 1))).run Tryd.prog w = .ok (.slice (some ⟨w.heap.size, 0, none⟩) (k + 1 + 1) (k + 1 + 1)) (w.alloc (.cells (ic (List.replicate (k + 1 + 1) 0)) 3)) := fun w => make_ints (k + 1 + 1) (by omega) w
      have hgl := hB.lt
      have hBx := Bk.new wr 31 (boC x)
      have hB1 := hB.alloc (.cells (boC x) 31)
      have hG1 := hG.alloc (.cells (boC x) 31)
      have hP9 := pow_le k (by omega)
      have hP10 := pow_le (k + 1) (by omega)
      have hPs : (100 : Int) ^ (k + 1) = 100 ^ k * 100 := Int.pow_succ ..
      have hPp := pow_pos100 k
      obtain ⟨P, hPd⟩ : ∃ P : Int, (100 : Int) ^ k = P := ⟨_, rfl⟩
      have HPd := Lib.hid hPd
      have HPs := Lib.hid hPs
      rw [hPs] at hP10
      rw [hPd] at cs hP9 hP10 hPp ⊢
      clear hx hpx hps hPd hPs hB hG htl
      obtain ⟨c, hc⟩ : ∃ c, cas ((pcs l).take k) = c := ⟨_, rfl⟩
      rw [hc] at cl cn cs HC hB1
      clear hc
      go_wp2_with (refine wpList_load_at rfl 31 _ rfl ⟨bb, bo + k * 6, none⟩ rfl #[.string x.1, .string x.2.1, .int .i64 x.2.2.1, .int .i64 x.2.2.2.1, .int .i64 x.2.2.2.2.1, .int .i64 x.2.2.2.2.2] _ HW.out Tryd.underlying31 rfl (bo_info x) ?_)
      have hX4 : Bk ((wr.alloc (.cells #[.string x.1, .string x.2.1, .int .i64 x.2.2.1, .int .i64 x.2.2.2.1, .int .i64 x.2.2.2.2.1, .int .i64 x.2.2.2.2.2] 31)).alloc (.cells (ic (List.replicate (k + 1 + 1) 0)) 3)) wr.heap.size 31 (boC x) := (Bk.new wr 31 (boC x)).alloc _
      have hN4 : Bk ((wr.alloc (.cells #[.string x.1, .string x.2.1, .int .i64 x.2.2.1, .int .i64 x.2.2.2.1, .int .i64 x.2.2.2.2.1, .int .i64 x.2.2.2.2.2] 31)).alloc (.cells (ic (List.replicate (k + 1 + 1) 0)) 3)) (wr.heap.size + 1) 3 (ic (nx c x.2.2.2.2.2 0)) := by
        have h := Bk.newAt (w := (wr.alloc (.cells #[.string x.1, .string x.2.1, .int .i64 x.2.2.1, .int .i64 x.2.2.2.1, .int .i64 x.2.2.2.2.1, .int .i64 x.2.2.2.2.2] 31))) (b := wr.heap.size + 1) (by simp) 3 (ic (List.replicate (k + 1 + 1) 0))
        have e : nx c x.2.2.2.2.2 0 = List.replicate (k + 1 + 1) 0 := by unfold nx; rw [cl]
        rw [e]
        exact h
      have hB4 : Bk ((wr.alloc (.cells #[.string x.1, .string x.2.1, .int .i64 x.2.2.1, .int .i64 x.2.2.2.1, .int .i64 x.2.2.2.2.1, .int .i64 x.2.2.2.2.2] 31)).alloc (.cells (ic (List.replicate (k + 1 + 1) 0)) 3)) g 3 (ic c) := hB1.alloc _
      have hG4 : G w ((wr.alloc (.cells #[.string x.1, .string x.2.1, .int .i64 x.2.2.1, .int .i64 x.2.2.2.1, .int .i64 x.2.2.2.2.1, .int .i64 x.2.2.2.2.2] 31)).alloc (.cells (ic (List.replicate (k + 1 + 1) 0)) 3)) none := hG1.alloc _
      clear hBx hB1 hG1 hms HW
      generalize ((wr.alloc (.cells #[.string x.1, .string x.2.1, .int .i64 x.2.2.1, .int .i64 x.2.2.2.1, .int .i64 x.2.2.2.2.1, .int .i64 x.2.2.2.2.2] 31)).alloc (.cells (ic (List.replicate (k + 1 + 1) 0)) 3)) = w4 at hX4 hN4 hB4 hG4 ⊢
      generalize wr.heap.size = gb at hX4 hN4 hgl ⊢
      go_loopw [24] (CoRelI w c x.2.2.2.2.2 (k + 1) g (gb + 1) gb x) (fun i _ => k + 1 - (intOf i).toNat)
      case atStart => exact ⟨0, by omega, rfl, hB4, hN4, hX4, hG4⟩
      case round =>
        clear hX4 hN4 hB4 hG4
        obtain ⟨j, hjk, rfl, hB, hN, hX, hG⟩ := hrel
        by_cases hj : j < k + 1
        · obtain ⟨b0, ⟨b1, b2⟩, ⟨b3, b4⟩, ⟨b5, b6⟩, b7, b8⟩ := nx_bnds cn p0 p1 (show j < c.length by omega) cs
          have hcj : World.cell? _ ⟨g, j, none⟩ = some (.int .i64 (c.getD j 0)) := (hB.cell j).trans (ic_at c j (by omega))
          have ha0 : World.cell? _ ⟨gb + 1, j, none⟩ = some (.int .i64 ((nx c x.2.2.2.2.2 j).getD j 0)) := (hN.cell j).trans (ic_at _ j (by rw [nx_len]; omega))
          have hp5 : World.cell? _ ⟨gb, 5, none⟩ = some (.int .i64 x.2.2.2.2.2) := hX.cell 5
          have fr0 := hN.free j
          have HNX : Hid (nx c x.2.2.2.2.2 (j + 1) = ((nx c x.2.2.2.2.2 j).set j ((nx c x.2.2.2.2.2 j).getD j 0 + c.getD j 0 * (100 - x.2.2.2.2.2))).set (j + 1) ((nx c x.2.2.2.2.2 j).getD (j + 1) 0 + c.getD j 0 * x.2.2.2.2.2)) := Lib.hid rfl
          have HL := Lib.hid (nx_len c x.2.2.2.2.2 j)
          have HIC : Hid (∀ (m : List Int), m.length = k + 1 + 1 → (ic m)[j + 1]? = some (.int .i64 (m.getD (j + 1) 0))) := Lib.hid fun m hm => ic_at m (j + 1) (by omega)
          have HGD : Hid (∀ v : Int, ((nx c x.2.2.2.2.2 j).set j v).getD (j + 1) 0 = (nx c x.2.2.2.2.2 j).getD (j + 1) 0) := Lib.hid fun v => gdset_ne _ _ _ _ (by omega)
          obtain ⟨A0, hA0⟩ : ∃ A0, (nx c x.2.2.2.2.2 j).getD j 0 = A0 := ⟨_, rfl⟩
          obtain ⟨A1, hA1⟩ : ∃ A1, (nx c x.2.2.2.2.2 j).getD (j + 1) 0 = A1 := ⟨_, rfl⟩
          obtain ⟨C, hC⟩ : ∃ C, c.getD j 0 = C := ⟨_, rfl⟩
          rw [hA0, hC] at HNX
          rw [hA1] at HNX HGD
          rw [hA0] at ha0 b5 b6
          rw [hA1] at b7 b8
          rw [hC] at hcj b0 b1 b2 b3 b4 b6 b8
          have hw1 : IntKind.i64.wrap (100 - x.2.2.2.2.2) = 100 - x.2.2.2.2.2 := by rw [IntKind.wrap_i64]; omega
          obtain ⟨M1, hM1⟩ : ∃ M1, C * (100 - x.2.2.2.2.2) = M1 := ⟨_, rfl⟩
          obtain ⟨M2, hM2⟩ : ∃ M2, C * x.2.2.2.2.2 = M2 := ⟨_, rfl⟩
          have hw2 : IntKind.i64.wrap (C * (100 - x.2.2.2.2.2)) = M1 := by rw [hM1, IntKind.wrap_i64]; omega
          have hw4 : IntKind.i64.wrap (C * x.2.2.2.2.2) = M2 := by rw [hM2, IntKind.wrap_i64]; omega
          rw [hM1] at b6 HNX
          rw [hM2] at b8 HNX
          obtain ⟨V1, hV1⟩ : ∃ V1, A0 + M1 = V1 := ⟨_, rfl⟩
          obtain ⟨V2, hV2⟩ : ∃ V2, A1 + M2 = V2 := ⟨_, rfl⟩
          have hw3 : IntKind.i64.wrap (A0 + M1) = V1 := by rw [hV1, IntKind.wrap_i64]; omega
          have hw5 : IntKind.i64.wrap (A1 + M2) = V2 := by rw [hV2, IntKind.wrap_i64]; omega
          rw [hV1, hV2] at HNX
          have hj0 : (0 : Int) ≤ (j : Int) := by omega
          have hj1 : (j : Int) < (k : Int) + 1 := by omega
          have hj2 : (j : Int) < (k : Int) + 1 + 1 := by omega
          have hj3 : (j : Int) + 1 < (k : Int) + 1 + 1 := by omega
          have hj4 : (0 : Int) ≤ (j : Int) + 1 := by omega
          have hwj : IntKind.i64.wrap ((j : Int) + 1) = (j : Int) + 1 := by rw [IntKind.wrap_i64]; omega
          have hjt : ((j : Int) + 1).toNat = j + 1 := by omega
          have hgg : g ≠ gb + 1 := by omega
          have hwg : w.heap.size ≤ gb + 1 := by omega
          clear hA0 hA1 hC hM1 hM2 hV1 hV2 b0 b1 b2 b3 b4 b5 b6 b7 b8
          go_wp2_with fail
          go_still_tail 11, (by kernel_rfl)
          change wpList _ _ _ _ _ wr.drew
          have hBd := hB.quiet ((G.refl wr none).drew)
          have hNd := hN.quiet ((G.refl wr none).drew)
          have hXd := hX.quiet ((G.refl wr none).drew)
          have hGd := hG.drew
          have ha0d : wr.drew.cell? ⟨gb + 1, j, none⟩ = some (.int .i64 A0) := ha0
          clear hB hN hX hG hcj ha0 hp5 fr0
          generalize wr.drew = w5 at hBd hNd hXd hGd ha0d ⊢
          have fr5 := hNd.free j
          have hN6 : Bk (w5.setCell ⟨gb + 1, j, none⟩ (.int .i64 V1)) (gb + 1) 3 (ic ((nx c x.2.2.2.2.2 j).set j V1)) := by
            have h := hNd.set j (.int .i64 V1)
            rw [ic_set] at h
            exact h
          have hB6 := hBd.far (p := ⟨gb + 1, j, none⟩) hgg (.int .i64 V1)
          have hX6 := hXd.far (p := ⟨gb + 1, j, none⟩) (show gb ≠ gb + 1 by omega) (.int .i64 V1)
          have hG6 := hGd.setCell (p := ⟨gb + 1, j, none⟩) (.inl hwg) (.int .i64 V1)
          clear hBd hNd hXd hGd
          go_wp2_with fail
          generalize w5.setCell ⟨gb + 1, j, none⟩ (.int .i64 V1) = w6 at hN6 hB6 hX6 hG6 ⊢
          have ha1 : w6.cell? ⟨gb + 1, j + 1, none⟩ = some (.int .i64 A1) := by
            rw [hN6.cell, HIC.out _ (by rw [List.length_set, HL.out, cl]), HGD.out]
          have hp5 : w6.cell? ⟨gb, 5, none⟩ = some (.int .i64 x.2.2.2.2.2) := hX6.cell 5
          have fr6 := hN6.free (j + 1)
          clear ha0d fr5
          go_still_tail 11, (by kernel_rfl)
          change wpList _ _ _ _ _ w6.drew
          have hBd := hB6.quiet ((G.refl w6 none).drew)
          have hNd := hN6.quiet ((G.refl w6 none).drew)
          have hXd := hX6.quiet ((G.refl w6 none).drew)
          have hGd := hG6.drew
          have ha1d : w6.drew.cell? ⟨gb + 1, j + 1, none⟩ = some (.int .i64 A1) := ha1
          clear hB6 hN6 hX6 hG6 ha1 hp5 fr6
          generalize w6.drew = w7 at hBd hNd hXd hGd ha1d ⊢
          have fr7 := hNd.free (j + 1)
          have hN8 : Bk (w7.setCell ⟨gb + 1, j + 1, none⟩ (.int .i64 V2)) (gb + 1) 3 (ic (nx c x.2.2.2.2.2 (j + 1))) := by
            have h := hNd.set (j + 1) (.int .i64 V2)
            rw [ic_set, ← HNX.out] at h
            exact h
          have hB8 := hBd.far (p := ⟨gb + 1, j + 1, none⟩) hgg (.int .i64 V2)
          have hX8 := hXd.far (p := ⟨gb + 1, j + 1, none⟩) (show gb ≠ gb + 1 by omega) (.int .i64 V2)
          have hG8 := hGd.setCell (p := ⟨gb + 1, j + 1, none⟩) (.inl hwg) (.int .i64 V2)
          clear hBd hNd hXd hGd
          go_wp2_with fail
          go_roundw
          case rel => exact ⟨j + 1, by omega, by go_num, hB8, hN8, hX8, hG8⟩
          case measure => simp [intOf]; omega
        · obtain rfl : j = k + 1 := by omega
          have hnj : ¬ (((k + 1 : Nat) : Int) < ((k + 1 : Nat) : Int)) := by omega
          have hnj2 : ¬ ((k : Int) + 1 < (k : Int) + 1) := by omega
          go_wp2_with fail
          go_roundw
          case rel => exact ⟨k + 1, gb + 1, by omega, by go_num, rfl, by rw [HPs.out, HPd.out], by rw [HC.out]; exact hN, by omega, hG⟩
          case measure => simp [intOf]; omega
    · obtain rfl : k = l.length := by omega
      have hB2 : Bk wr g 3 (ic (cas (pcs l))) := by
        have := hB
        rw [List.take_of_length_le (by unfold pcs; rw [List.length_map]; omega)] at this
        exact this
      go_wp2_with fail
      go_ret2
      exact ⟨g, rfl, hB2, hgw, hG⟩
end Go.Proofs.YtndeidcddlmhbaaDoor

/- Odds: Spread, over, checkUnits, Over, for any bookings. -/
namespace Go.Proofs.YtndeidcddlmhbaaDoor
open Go.RowKit

/-- A fraction in lowest terms. -/
def lowF (n d : Int) : Fr := (((n.toNat / Nat.gcd d.toNat n.toNat : Nat) : Int), ((d.toNat / Nat.gcd d.toNat n.toNat : Nat) : Int))
theorem lowest_i (n d : Int) (w : World) (n0 : 0 ≤ n) (hn : n ≤ 1000000000000000000) (d0 : 0 < d) (hd : d ≤ 1000000000000000000) :
    Calls Tryd.prog 135 #[.int .i64 n, .int .i64 d] w fun e w' => e = .returned (.agg (frV (lowF n d))) ∧ G w w' none := by
  obtain ⟨a, rfl⟩ := Int.eq_ofNat_of_zero_le n0
  obtain ⟨b, rfl⟩ := Int.eq_ofNat_of_zero_le (Int.le_of_lt d0)
  exact lowest_c a b w (by omega) (by omega) (by omega)
theorem boErr_pct {l : List Bo} : ∀ {b : ByteArray}, boErr b l = 0 → PcOk l := by
  induction l with
  | nil => intro b _ p hp; cases hp
  | cons y r ih =>
    intro b h
    unfold boErr at h
    split at h
    · exact absurd h (by decide)
    · split at h
      · exact absurd h (by decide)
      · split at h
        · exact absurd h (by decide)
        · split at h
          · exact absurd h (by decide)
          · rename_i h4
            intro p hp
            rcases List.mem_cons.1 (show p ∈ y.2.2.2.2.2 :: pcs r from hp) with rfl | hp
            · simp only [boT, inB, Bool.not_eq_false, Bool.and_eq_true, decide_eq_true_eq] at h4
              omega
            · exact ih h p hp
theorem coE_ok {l : List Bo} (h : coE l = 0) : PcOk l ∧ l.length ≤ 9 := by
  unfold coE at h
  split at h
  · rename_i h1
    split at h
    · exact absurd h (by decide)
    · refine ⟨?_, by omega⟩
      unfold boE at h1
      split at h1
      · exact absurd h1 (by decide)
      · exact boErr_pct h1
  · rename_i h1; exact absurd h h1
def spL (l : List Bo) : List Fr := (cas (pcs l)).map fun n => lowF n (100 ^ l.length)
theorem map_take_snoc {α β : Type} (f : α → β) {c : List α} {k : Nat} {x : α} (h : c[k]? = some x) : (c.take (k + 1)).map f = (c.take k).map f ++ [f x] := by
  have hk : k < c.length := (List.getElem?_eq_some_iff.1 h).1
  rw [List.take_succ_eq_append_getElem hk, (List.getElem?_eq_some_iff.1 h).2, List.map_append]
  rfl
def SpreadPost (l : List Bo) (w : World) (e : Ending) (w' : World) : Prop := ∃ u m, e = .returned (.tuple #[u, .int .i64 (coE l)]) ∧ RdR w' 2 frV u m ∧ m = (if coE l = 0 then spL l else []) ∧ G w w' none
def SpRel (w : World) (c : List Int) (H : Int) (g : Nat) (s7 s22 : Value) (wr : World) : Prop :=
  ∃ k : Nat, k ≤ c.length ∧ s22 = .int .i64 k ∧ OwnFr wr (g + 1) s7 ((c.take k).map fun n => lowF n H) ∧ Bk wr g 3 (ic c) ∧ w.heap.size ≤ g ∧ G w wr none
set_option maxRecDepth 100000 in
set_option maxHeartbeats 4000000 in
theorem spread_c (v : Value) (l : List Bo) (w : World) (hr : RdR w 6 boC v l) (hl : BoOk l) (hn : l.length ≤ 1000) :
    Calls Tryd.prog 87 #[v] w (SpreadPost l w) := by
  have HR := Lib.hid hr
  obtain ⟨ad, cap, rfl, hcap, hm⟩ := RdR.form hr
  clear hr
  go_enter Tryd.func87, Tryd.ntmps87
  go_wp2_with fail
  refine (checkOdds_c _ l _ HR.out hl hn).mono ?_; rintro e w1 ⟨rfl, hG1⟩
  by_cases h0 : coE l = 0
  · obtain ⟨hp, h9⟩ := coE_ok h0
    have HM : Hid ((if coE l = 0 then spL l else []) = (cas (pcs l)).map fun n => lowF n (100 ^ l.length)) := Lib.hid (by rw [if_pos h0]; rfl)
    have HZ := Lib.hid h0
    obtain ⟨cl, cn, cs⟩ := cas_ok (pcs l) hp
    have hpl : (pcs l).length = l.length := by unfold pcs; rw [List.length_map]
    rw [hpl] at cl cs
    have hH1 := pow_le l.length h9
    have hH0 := pow_pos100 l.length
    rw [h0]
    clear h0 hpl
    go_wp2_with fail
    refine (casesOf_c _ l _ (HR.out.quiet hG1) h9 hp).mono ?_; rintro e w2 ⟨g, rfl, hB2, hgw, hG2⟩
    have hG02 := hG1.trans hG2
    have hgw2 : w.heap.size ≤ g := Nat.le_trans hG1.size hgw
    clear hG1 hG2 hgw hp
    obtain ⟨c, hc⟩ : ∃ c, cas (pcs l) = c := ⟨_, rfl⟩
    obtain ⟨H, hH⟩ : ∃ H : Int, (100 : Int) ^ l.length = H := ⟨_, rfl⟩
    rw [hc, hH] at HM
    rw [hc] at cl cn cs hB2
    rw [hH] at cs hH1 hH0 ⊢
    clear hc hH
    go_wp2_with fail
    go_loopw [7, 22] (SpRel w c H g) (fun _ i _ => c.length - (intOf i).toNat)
    case atStart => exact ⟨0, by omega, rfl, World.ownsRow_nil _ _ _ _, hB2, hgw2, hG02⟩
    case round =>
      clear hB2 hgw2 hG02
      obtain ⟨k, hkc, rfl, hown, hB, hgw, hG⟩ := hrel
      by_cases hlt : k < l.length + 1
      · have hck : c[k]? = some (c.getD k 0) := by simp [List.getD, show k < c.length by omega]
        have hcell : wr.cell? ⟨g, k, none⟩ = some (.int .i64 (c.getD k 0)) := (hB.cell k).trans (ic_at c k (by omega))
        have HT : Hid ((c.take (k + 1)).map (fun n => lowF n H) = (c.take k).map (fun n => lowF n H) ++ [lowF (c.getD k 0) H]) := Lib.hid (map_take_snoc _ hck)
        have e0 := cn.getD k
        have e1 := cn.le_sum k
        have hkt : ((c.take k).map fun n => lowF n H).length ≤ 1000 := by rw [List.length_map, List.length_take]; omega
        have hki : (k : Int) < (l.length : Int) + 1 := by omega
        clear hck
        obtain ⟨x, hx⟩ : ∃ x, c.getD k 0 = x := ⟨_, rfl⟩
        rw [hx] at hcell HT e0 e1
        clear hx
        go_wp2_with fail
        refine (lowest_i x H _ e0 (by omega) hH0 hH1).mono ?_; rintro e w3 ⟨rfl, hG3⟩
        obtain ⟨F, hF⟩ : ∃ F, lowF x H = F := ⟨_, rfl⟩
        rw [hF] at HT ⊢
        clear hF
        rw [show frV F = #[.int .i64 F.1, .int .i64 F.2] from rfl]
        have hB3 := (hB.quiet hG3).alloc (.cells #[.int .i64 F.1, .int .i64 F.2] 134)
        have hown3 := (hown.quiet hG3).alloc (.cells #[.int .i64 F.1, .int .i64 F.2] 134)
        have hG03 := (hG.trans hG3).alloc (.cells #[.int .i64 F.1, .int .i64 F.2] 134)
        have hz3 := hB3.lt
        have hob := fun r e => (World.ownsRow.lt hown3 r e).1
        have hne : some g ≠ u7.ownBlock := fun e => by have := hob g e.symm; omega
        clear hB hown hG hG3 hcell
        go_wp2_with (at_builtin; refine wpList_plain rfl fun K' hK' => wp_append_fr _ _ rfl (g + 1) u7 _ rfl hown3 w3.heap.size F rfl (Bk.new w3 _ _) hkt hz3 ?_; intro v1 w4 hown4 hgrow; refine hK' _ _ ?_)
        go_roundw
        case rel => exact ⟨k + 1, by omega, by go_num, by rw [HT.out]; exact hown4, hB3.grown hgrow hne, hgw, hG03.other hgrow (fun r e => .inl (by have := hob r e; omega))⟩
        case measure => simp [intOf]; omega
      · obtain rfl : k = c.length := by omega
        have hnk : ¬ ((c.length : Int) < (l.length : Int) + 1) := by omega
        have hq : (c.take c.length).map (fun n => lowF n H) = c.map fun n => lowF n H := by rw [List.take_length]
        rw [hq] at hown
        clear hq
        go_wp2_with fail
        go_ret2
        exact ⟨_, _, by rw [HZ.out]; rfl, Rd.of_owns hown, HM.out.symm, hG⟩
  · have HZ : Hid ((if coE l = 0 then spL l else []) = []) := Lib.hid (by rw [if_neg h0])
    have h0' : (coE l != 0) = true := by rw [bne_iff_ne]; exact h0
    obtain ⟨E, hE⟩ : ∃ E, coE l = E := ⟨_, rfl⟩
    have HE := Lib.hid hE
    rw [hE] at h0' ⊢
    clear h0 hE
    go_wp2_with fail
    go_ret2
    exact ⟨_, [], by rw [HE.out]; rfl, RdR.nil _ _ _, HZ.out.symm, hG1⟩
end Go.Proofs.YtndeidcddlmhbaaDoor

/- ready: the packages do something. -/
namespace Go.Proofs.YtndeidcddlmhbaaDoor
open Go.RowKit

def hS1 : Nat → Int := fun i => if i = 1 then 9 else 0
theorem hS1_B : HB hS1 := fun j => by unfold hS1; split <;> omega
theorem at1 : atE ⟨#[115]⟩ hS1 8 = 0 := by decide +kernel
theorem op1 : isOpenR ⟨#[115]⟩ hS1 8 = true := by decide +kernel
theorem t1441 : tE 0 1441 = 0 ∧ tN 0 1441 = 2 := by decide +kernel
theorem isOpen1_c (w : World) : Calls Tryd.prog 128 #[.agg #[.string ⟨#[115]⟩, .int .i64 0, .int .i64 9, .int .i64 0, .int .i64 0, .int .i64 0, .int .i64 0, .int .i64 0, .int .i64 0, .int .i64 0, .int .i64 0, .int .i64 0, .int .i64 0, .int .i64 0, .int .i64 0], .int .i64 8] w fun e w' => e = .returned (.tuple #[.bool true, .int .i64 0]) ∧ G w w' none := by
  have := isOpen_c ⟨#[115]⟩ hS1 8 w (by decide) hS1_B
  rw [at1, op1] at this
  exact this
theorem days1_c (w : World) : Calls Tryd.prog 44 #[.agg #[.int .i64 0, .int .i64 1441]] w fun e w' => e = .returned (.tuple #[.int .i64 2, .int .i64 0]) ∧ G w w' none := by
  have := days_c 0 1441 w (by unfold bnd; omega) (by unfold bnd; omega)
  rw [t1441.1, t1441.2] at this
  exact this
theorem spread0_c (w : World) : Calls Tryd.prog 87 #[.slice none 0 0] w fun e w' => ∃ a c, e = .returned (.tuple #[.slice a 1 c, .int .i64 0]) ∧ G w w' none := by
  refine (spread_c (.slice none 0 0) [] w (RdR.nil _ _ _) (fun _ h => by cases h) (by simp)).mono ?_
  rintro e w' ⟨u, m, rfl, hr, hm, hG⟩
  have h0 : coE [] = 0 := rfl
  have hm1 : m = [(1, 1)] := by rw [hm, if_pos h0]; decide +kernel
  subst hm1
  obtain ⟨a, c, rfl, -, -⟩ := RdR.form hr
  exact ⟨a, c, by rw [h0]; rfl, hG⟩
set_option maxRecDepth 100000 in
set_option maxHeartbeats 4000000 in
theorem ready_c (w : World) : Calls Tryd.prog 76 #[] w fun e w' => e = .returned (.bool true) ∧ G w w' none := by
  go_enter Tryd.func76, Tryd.ntmps76
  go_wp2_with fail
  refine (days1_c _).mono ?_; rintro e w1 ⟨rfl, hG1⟩
  go_wp2_with fail
  refine (isOpen1_c _).mono ?_; rintro e w2 ⟨rfl, hG2⟩
  have hG02 := hG1.trans hG2
  clear hG1 hG2
  go_wp2_with fail
  refine (spread0_c _).mono ?_; rintro e w3 ⟨a, c, rfl, hG3⟩
  have hG03 := hG02.trans hG3
  clear hG02 hG3
  go_wp2_with fail
  refine (start1_c _).mono ?_; rintro e w4 ⟨a2, c2, rfl, hG4⟩
  have hG04 := hG03.trans hG4
  clear hG03 hG4
  go_wp2_with fail
  go_ret
  exact ⟨rfl, hG04.alloc _⟩
end Go.Proofs.YtndeidcddlmhbaaDoor
