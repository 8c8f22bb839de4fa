/- Txa, Pck, Reg, Txg, Txl, Txb, GenO. -/
import Derived.Test.YtkgkbjijiapcpaaDoorZt1
import Derived.RegionTactic
/- Taxes: whose key is the same; the check of kinds. Written by gentxa.py. -/
namespace Go.Proofs.YtkgkbjijiapcpaaDoor
open Go.RowKit

theorem tx_info (x : Tx) : (Tryd.prog.info? 52).map (·.size) = some (txC x).size := (by kernel_rfl : (Tryd.prog.info? 52).map (·.size) = some 4)
theorem txRow {W w : World} {bb bo n cap : Nat} {l : List Tx} (h : RdR W 4 txC (.slice (some ⟨bb, bo, none⟩) n cap) l) (hG : G W w none) {k : Nat} {p : Tx} (hp : l[k]? = some p) :
    ∀ j v, (txC p).toList[j]? = some v → w.cell? ((⟨bb, bo + k * 4, none⟩ : Addr).add j) = some v := fun j v hv => by
  rw [add_at]
  exact RdR.cell txC_sz h hG hp j v hv
theorem beq_strT (a b : ByteArray) : (a.toList == b.toList) = decide (a = b) := by
  by_cases e : a = b
  · subst e; simp
  · rw [decide_eq_false e]
    exact beq_eq_false_iff_ne.2 (fun e2 => e (eqB_iff.1 (by unfold eqB; rw [e2]; simp)))
set_option maxRecDepth 100000 in
set_option maxHeartbeats 4000000 in
theorem keyIs_c (x y : Tx) (g1 : Nat) (w : World) (hB : Bk w g1 52 (txC y)) : Calls Tryd.prog 33 #[.agg (txC x), .pointer (some ⟨g1, 0, none⟩)] w fun e w' => e = .returned (.bool (txK y.1.1 x)) ∧ G w w' none := by
  show Calls Tryd.prog 33 #[.agg #[.string x.1.1, .int .i64 x.1.2.1, .slice x.2.1.1 x.2.2.length x.2.1.2, .bool x.1.2.2], .pointer (some ⟨g1, 0, none⟩)] w _
  have hA := Bk.new w 52 #[.string x.1.1, .int .i64 x.1.2.1, .slice x.2.1.1 x.2.2.length x.2.1.2, .bool x.1.2.2]
  have hB2 := hB.alloc (.cells #[.string x.1.1, .int .i64 x.1.2.1, .slice x.2.1.1 x.2.2.length x.2.1.2, .bool x.1.2.2] 52)
  have hG := (G.refl w none).alloc (.cells #[.string x.1.1, .int .i64 x.1.2.1, .slice x.2.1.1 x.2.2.length x.2.1.2, .bool x.1.2.2] 52)
  have HQ : Hid (txK y.1.1 x = (x.1.1.toList == y.1.1.toList)) := Lib.hid (by rw [beq_strT]; rfl)
  clear hB
  go_enter Tryd.func33, Tryd.ntmps33
  go_upto_region 1 with fail
  generalize w.alloc (.cells #[.string x.1.1, .int .i64 x.1.2.1, .slice x.2.1.1 x.2.2.length x.2.1.2, .bool x.1.2.2] 52) = w2 at hA hB2 hG ⊢
  have c0 : w2.cell? ⟨w.heap.size, 0, none⟩ = some (.string x.1.1) := hA.cell 0
  have c1 : w2.cell? ⟨g1, 0, none⟩ = some (.string y.1.1) := hB2.cell 0
  go_wp2_with fail
  go_ret
  exact ⟨by rw [HQ.out]; rfl, hG⟩
set_option maxRecDepth 100000 in
set_option maxHeartbeats 4000000 in
theorem keyIsR_c (x y : Tx) (g1 : Nat) (w : World) (hB : Bk w g1 52 (txC y)) : Calls Tryd.prog 31 #[.agg (txC x), .pointer (some ⟨g1, 0, none⟩)] w fun e w' => e = .returned (.bool (txK y.1.1 x)) ∧ G w w' none := by
  show Calls Tryd.prog 31 #[.agg #[.string x.1.1, .int .i64 x.1.2.1, .slice x.2.1.1 x.2.2.length x.2.1.2, .bool x.1.2.2], .pointer (some ⟨g1, 0, none⟩)] w _
  have hA := Bk.new w 52 #[.string x.1.1, .int .i64 x.1.2.1, .slice x.2.1.1 x.2.2.length x.2.1.2, .bool x.1.2.2]
  have hB2 := hB.alloc (.cells #[.string x.1.1, .int .i64 x.1.2.1, .slice x.2.1.1 x.2.2.length x.2.1.2, .bool x.1.2.2] 52)
  have hG := (G.refl w none).alloc (.cells #[.string x.1.1, .int .i64 x.1.2.1, .slice x.2.1.1 x.2.2.length x.2.1.2, .bool x.1.2.2] 52)
  have HQ : Hid (txK y.1.1 x = (x.1.1.toList == y.1.1.toList)) := Lib.hid (by rw [beq_strT]; rfl)
  clear hB
  go_enter Tryd.func31, Tryd.ntmps31
  go_upto_region 1 with fail
  generalize w.alloc (.cells #[.string x.1.1, .int .i64 x.1.2.1, .slice x.2.1.1 x.2.2.length x.2.1.2, .bool x.1.2.2] 52) = w2 at hA hB2 hG ⊢
  have c0 : w2.cell? ⟨w.heap.size, 0, none⟩ = some (.string x.1.1) := hA.cell 0
  have c1 : w2.cell? ⟨g1, 0, none⟩ = some (.string y.1.1) := hB2.cell 0
  go_wp2_with fail
  go_ret
  exact ⟨by rw [HQ.out]; rfl, hG⟩
def txAt (k : ByteArray) (l : List Tx) : Int := ixP (txK k) l 0
def TxiRel (w : World) (l : List Tx) (y : ByteArray) (i : Value) (wr : World) : Prop :=
  ∃ k : Nat, k ≤ l.length ∧ i = .int .i64 k ∧ txAt y l = ixP (txK y) (l.drop k) k ∧ G w wr none
set_option maxRecDepth 100000 in
set_option maxHeartbeats 4000000 in
theorem txIx_c (F : FuncId) (hcf : ∀ (args : Array Value) (w : World), (callFunc F args).run Tryd.prog w = .ok (.enter F args) w) (u : Value) (l : List Tx) (y : ByteArray) (g1 : Nat) (w : World)
    (hF : ∀ (x : Tx) (w' : World), G w w' none → Calls Tryd.prog F #[.agg (txC x), .pointer (some ⟨g1, 0, none⟩)] w' fun e w'' => e = .returned (.bool (txK y x)) ∧ G w' w'' none) (hr : RdR w 4 txC u l) (hn : l.length ≤ 1000) :
    Calls Tryd.prog 46 #[u, .func (.func F) #[] #[.pointer (some ⟨g1, 0, none⟩)]] w fun e w' => e = .returned (.int .i64 (txAt y l)) ∧ G w w' none := by
  have HR := Lib.hid hr
  have HF := Lib.hid hF
  obtain ⟨a, cap, rfl, hcap, hm⟩ := RdR.form hr
  clear hr hF
  go_enter Tryd.func46, Tryd.ntmps46
  go_wp2_with fail
  go_loopw [8] (TxiRel w l y) (fun i _ => l.length - (intOf i).toNat)
  case atStart => exact ⟨0, by omega, rfl, rfl, G.refl _ _⟩
  case round =>
    obtain ⟨k, hk, rfl, heq, hG⟩ := hrel
    have HE := Lib.hid heq
    clear heq
    by_cases hlt : k < l.length
    · obtain ⟨x, hp⟩ : ∃ p, l[k]? = some p := ⟨_, List.getElem?_eq_getElem hlt⟩
      have HD : Hid (txAt y l = if txK y x = true then (k : Int) else ixP (txK y) (l.drop (k + 1)) ((k : Int) + 1)) := Lib.hid (by
        rw [HE.out, List.drop_eq_getElem_cons hlt, (List.getElem?_eq_some_iff.1 hp).2]; rfl)
      obtain ⟨bb, bo, rfl, -, -⟩ := RdR.elem txC_sz HR.out hG hp
      have HW := Lib.hid (txRow HR.out hG hp)
      have HK := Lib.hid hlt
      clear hp
      go_wp2_with (refine wpList_load_at rfl 52 _ rfl ⟨bb, bo + k * 4, none⟩ rfl #[.string x.1.1, .int .i64 x.1.2.1, .slice x.2.1.1 x.2.2.length x.2.1.2, .bool x.1.2.2] _ HW.out Tryd.underlying52 rfl (tx_info x) ?_)
      refine (HF.out x _ hG).mono ?_; rintro e w1 ⟨rfl, hG1⟩
      cases he : txK y x with
      | true =>
        have HF2 : Hid (txAt y l = k) := Lib.hid (by rw [HD.out, if_pos he])
        clear he
        go_wp2_with fail
        go_ret
        exact ⟨ret_int HF2.out.symm, hG.trans hG1⟩
      | false =>
        have HF2 : Hid (txAt y l = ixP (txK y) (l.drop (k + 1)) ((k + 1 : Nat) : Int)) := Lib.hid (by rw [HD.out, if_neg (by simp [he])]; rfl)
        clear he
        go_wp2_with fail
        go_roundw
        case rel => exact ⟨k + 1, by omega, by go_num, HF2.out, hG.trans hG1⟩
        case measure => have := HK.out; simp [intOf]; omega
    · obtain rfl : k = l.length := by omega
      have HF2 : Hid (txAt y l = -1) := Lib.hid (by rw [HE.out, List.drop_length]; rfl)
      go_wp2_with fail
      go_ret
      exact ⟨ret_int HF2.out.symm, hG⟩
set_option maxRecDepth 100000 in
set_option maxHeartbeats 4000000 in
theorem txHas_c (F : FuncId) (hcf : ∀ (args : Array Value) (w : World), (callFunc F args).run Tryd.prog w = .ok (.enter F args) w) (u : Value) (l : List Tx) (y : ByteArray) (g1 : Nat) (w : World)
    (hF : ∀ (x : Tx) (w' : World), G w w' none → Calls Tryd.prog F #[.agg (txC x), .pointer (some ⟨g1, 0, none⟩)] w' fun e w'' => e = .returned (.bool (txK y x)) ∧ G w' w'' none) (hr : RdR w 4 txC u l) (hn : l.length ≤ 1000) :
    Calls Tryd.prog 30 #[u, .func (.func F) #[] #[.pointer (some ⟨g1, 0, none⟩)]] w fun e w' => e = .returned (.bool (l.any (txK y))) ∧ G w w' none := by
  have hs := ixP_spec (txK y) l 0
  have HI := Lib.hid (txIx_c F hcf u l y g1 w hF hr hn)
  obtain ⟨a, cap, rfl, hcap, hm⟩ := RdR.form hr
  clear hr hF
  have hI : txAt y l = ixP (txK y) l ((0 : Nat) : Int) := rfl
  go_enter Tryd.func30, Tryd.ntmps30
  go_wp2_with fail
  refine HI.out.mono ?_; rintro e w1 ⟨rfl, hG1⟩
  rw [hI]
  clear hI HI
  rcases hs with ⟨h1, h2⟩ | ⟨i, p, h1, h2, h3⟩
  · rw [h1]
    have HF := Lib.hid h2
    clear h1 h2
    go_wp2_with fail
    go_ret
    exact ⟨ret_bool HF.out.symm, hG1⟩
  · have HF := Lib.hid (any_of_at (txK y) l i p h2 h3)
    rw [h1]
    clear h1 h2 h3
    have h0 : (0 : Int) ≤ ((0 + i : Nat) : Int) := by omega
    go_wp2_with fail
    go_ret
    exact ⟨ret_bool HF.out.symm, hG1⟩
def OnRel (w : World) (l : List Int) (s i : Value) (wr : World) : Prop :=
  ∃ (k : Nat) (b : Int), k ≤ l.length ∧ i = .int .i64 k ∧ s = .int .i64 b ∧ onErr 0 l = onErr b (l.drop k) ∧ G w wr none
set_option maxRecDepth 100000 in
set_option maxHeartbeats 4000000 in
theorem checkOn_c (v : Value) (l : List Int) (w : World) (hr : RdT w v l) (hn : l.length ≤ 1000) :
    Calls Tryd.prog 36 #[v] w fun e w' => e = .returned (.int .i64 (onErr 0 l)) ∧ G w w' none := by
  have HR := Lib.hid hr
  obtain ⟨a, cap, rfl, hcap, hm⟩ := RdR.form hr
  clear hr
  obtain ⟨E, hE⟩ : ∃ E, onErr 0 l = E := ⟨_, rfl⟩
  have H : Hid (E = onErr 0 l) := Lib.hid hE.symm
  rw [hE]
  clear hE
  go_enter Tryd.func36, Tryd.ntmps36
  go_wp2_with fail
  go_loopw [3, 8] (OnRel w l) (fun _ i _ => l.length - (intOf i).toNat)
  case atStart => exact ⟨0, 0, by omega, rfl, rfl, rfl, G.refl _ _⟩
  case round =>
    obtain ⟨k, b, hk, rfl, rfl, heq, hG⟩ := hrel
    have HE := Lib.hid heq
    clear heq
    by_cases hlt : k < l.length
    · obtain ⟨n, hp⟩ : ∃ p, l[k]? = some p := ⟨_, List.getElem?_eq_getElem hlt⟩
      have HS : Hid (onErr b (l.drop k) = if n = 5 then 4 else if inB n 1 6 = false then 4 else if n ≤ b then 7 else onErr n (l.drop (k + 1))) := Lib.hid (by rw [List.drop_eq_getElem_cons hlt, (List.getElem?_eq_some_iff.1 hp).2]; rfl)
      obtain ⟨bb, bo, rfl, -, -⟩ := RdR.elem tnC_sz HR.out hG hp
      have d0 := RdR.cell tnC_sz HR.out hG hp 0 (.int .i64 n) rfl
      simp only [Nat.mul_one, Nat.add_zero] at d0
      have HK := Lib.hid hlt
      clear hp
      by_cases h5 : n = 5
      · obtain rfl : E = 4 := by rw [H.out, HE.out, HS.out, if_pos h5]
        have hq : (n == 5) = true := by simp [h5]
        clear h5
        go_wp2_with fail
        go_ret
        exact ⟨rfl, hG⟩
      have hq : (n == 5) = false := beq_eq_false_iff_ne.2 h5
      have HS2 : Hid (onErr b (l.drop k) = if inB n 1 6 = false then 4 else if n ≤ b then 7 else onErr n (l.drop (k + 1))) := Lib.hid (by rw [HS.out, if_neg h5])
      clear h5 HS
      go_wp2_with fail
      refine (isLineKind_c n _).mono ?_; rintro e w' ⟨rfl, rfl⟩
      cases hb : inB n 1 6 with
      | false =>
        obtain rfl : E = 4 := by rw [H.out, HE.out, HS2.out, if_pos hb]
        clear hb
        go_wp2_with fail
        go_ret
        exact ⟨rfl, hG⟩
      | true =>
        have HS3 : Hid (onErr b (l.drop k) = if n ≤ b then 7 else onErr n (l.drop (k + 1))) := Lib.hid (by rw [HS2.out, if_neg (by simp [hb])])
        clear hb HS2
        by_cases ho : n ≤ b
        · obtain rfl : E = 7 := by rw [H.out, HE.out, HS3.out, if_pos ho]
          go_wp2_with fail
          go_ret
          exact ⟨rfl, hG⟩
        · have HF : Hid (onErr 0 l = onErr n (l.drop (k + 1))) := Lib.hid (by rw [HE.out, HS3.out, if_neg ho])
          go_wp2_with fail
          go_roundw
          case rel => exact ⟨k + 1, n, (by have := HK.out; omega), by go_num, rfl, HF.out, hG⟩
          case measure => have := HK.out; simp [intOf]; omega
    · obtain rfl : k = l.length := by omega
      obtain rfl : E = 0 := by rw [H.out, HE.out, List.drop_length]; rfl
      go_wp2_with fail
      go_ret
      exact ⟨rfl, hG⟩
end Go.Proofs.YtkgkbjijiapcpaaDoor

/- What was picked; a block as a row; 'when' at literals. -/
namespace Go.Proofs.YtkgkbjijiapcpaaDoor
open Go.RowKit

theorem small_of {s : ByteArray} (h : s.size ≤ 100) : Small s := by unfold Small; omega
theorem bnd_pick {zs : List Int} {r : Int} (h : r ∈ zs) (hz : zs.all (fun z => decide (-1099511627776 ≤ z ∧ z ≤ 1099511627776)) = true) : bnd r := by
  unfold bnd
  exact of_decide_eq_true (List.all_eq_true.1 hz r h)
theorem small_pick {zs : List ByteArray} {r : ByteArray} (h : r ∈ zs) (hz : zs.all (fun z => decide (z.size ≤ 100)) = true) : Small r := small_of (of_decide_eq_true (List.all_eq_true.1 hz r h))
theorem Bk.rd {w : World} {g : Nat} {T : TypeId} {cs : Array Value} (h : Bk w g T cs) (z n : Nat) (hc : cs.size = n * z) (hn : n ≤ 1000) : Rd w z (.slice (some ⟨g, 0, none⟩) n n) n cs.toList := by
  refine ⟨_, n, rfl, Nat.le_refl _, by unfold maxLen; omega, by simpa using hc, (fun e => by cases e), fun b hb => ?_⟩
  obtain rfl := Option.some.inj hb
  refine ⟨rfl, h.lt, fun j u hj => ?_⟩
  rw [Nat.zero_add, h.cell]
  simpa using hj
theorem when_t (n : Int) (w : World) : Calls Tryd.prog 16 #[.bool true, .int .i64 n] w fun e w' => e = .returned (.int .i64 n) ∧ w = w' := by simpa using when_c true n w
theorem when_f (n : Int) (w : World) : Calls Tryd.prog 16 #[.bool false, .int .i64 n] w fun e w' => e = .returned (.int .i64 0) ∧ w = w' := by simpa using when_c false n w
end Go.Proofs.YtkgkbjijiapcpaaDoor

/- Steps of a region that draws its order, by hand. No program. -/
namespace Go.Proofs.YtkgkbjijiapcpaaDoor
open Go.RowKit
section
variable {P : Program} {ops : Array Oper} {o : Oper} {a : Act} {w : World} {K : Act → World → Prop} {Q : Exit → Act → World → Prop} {E : Prop}
theorem st_val (hg : o.guard = none) {v : Value} {w' : World} (hr : (execOp a.eval o).run P w = .ok (.value v) w') (hK : K (a.put o.dst v) w') : if Region.wanted o (yielded ops a.tmps) = true then Oper.wp P o a w K Q else E := by
  rw [if_pos (by simp [Region.wanted, hg])]
  unfold Oper.wp
  rw [hr]
  exact hK
theorem st_wp (hg : o.guard = none) (h : Oper.wp P o a w K Q) : if Region.wanted o (yielded ops a.tmps) = true then Oper.wp P o a w K Q else E := by
  rw [if_pos (by simp [Region.wanted, hg])]
  exact h
theorem st_call (hg : o.guard = none) {f : FuncId} {args : Array Value} {w1 : World} (hr : (execOp a.eval o).run P w = .ok (.enter f args) w1) (hc : Calls P f args w1 fun e w' => ∃ v, e = .returned v ∧ K (a.put o.dst v) w') : if Region.wanted o (yielded ops a.tmps) = true then Oper.wp P o a w K Q else E := by
  rw [if_pos (by simp [Region.wanted, hg])]
  unfold Oper.wp
  rw [hr]
  refine hc.mono ?_
  rintro e w' ⟨v, rfl, hK⟩
  exact hK
theorem run_load_row {ty : TypeId} {x : Operand} (ho : o.op = .load ty x) (g : Nat) (hx : a.eval x = .pointer (some ⟨g, 0, none⟩)) (t : TypeId) (cs : Array Value) (d : TypeDesc) (hg : Bk w g t cs)
    (hu : P.underlying ty = some d) (hd : (match d with | .struct _ | .array _ _ => true | _ => false) = true) (hi : (P.info? ty).map (·.size) = some cs.size) : (execOp a.eval o).run P w = .ok (.value (.agg cs)) w := by
  unfold execOp
  simp only [ho, hx, Instr.loadAt, Instr.sureAddr, Sem.run_bind, Sem.run_pure, Result.andThen_ok, run_loadVar_row w g t ty cs (0, 0) d hg hu hd hi]
/-- One that may come up, and it alone. -/
theorem ready_one {md : Region.Mode} {fuel : Nat} {listed : Array Bool} {i : Nat} (hr : Region.ready md ops listed = [i]) (ho : ops[i]? = some o)
    (h : ∀ K' : Act → World → Prop, (∀ a w, wpAny P md ops Q fuel (listed.setIfInBounds i true) a w → K' a w) → if Region.wanted o (yielded ops a.tmps) = true then Oper.wp P o a w K' Q else K' (a.put o.dst undef) w) : wpAny P md ops Q (fuel + 1) listed a w :=
  wpAny_ready hr (by simp) (AllReady.cons ho h AllReady.nil)
theorem ready_two {md : Region.Mode} {fuel : Nat} {listed : Array Bool} {i j : Nat} {o2 : Oper} (hr : Region.ready md ops listed = [i, j]) (ho : ops[i]? = some o) (ho2 : ops[j]? = some o2)
    (h : ∀ K' : Act → World → Prop, (∀ a w, wpAny P md ops Q fuel (listed.setIfInBounds i true) a w → K' a w) → if Region.wanted o (yielded ops a.tmps) = true then Oper.wp P o a w K' Q else K' (a.put o.dst undef) w)
    (h2 : ∀ K' : Act → World → Prop, (∀ a w, wpAny P md ops Q fuel (listed.setIfInBounds j true) a w → K' a w) → if Region.wanted o2 (yielded ops a.tmps) = true then Oper.wp P o2 a w K' Q else K' (a.put o2.dst undef) w) : wpAny P md ops Q (fuel + 1) listed a w :=
  wpAny_ready hr (by simp) (AllReady.cons ho h (AllReady.cons ho2 h2 AllReady.nil))
end
end Go.Proofs.YtkgkbjijiapcpaaDoor

/- Generator: Taxes. Written by gentxg.py. -/
namespace Go.Proofs.YtkgkbjijiapcpaaDoor
open Go.RowKit

theorem tx_rowOk : RowOk Tryd.prog 52 26 4 56 (.agg #[.string ⟨#[]⟩, .int .i64 0, .slice none 0 0, .bool false]) txC := ⟨by kernel_rfl, Tryd.underlying26, fun r u hu => by simp [txC] at hu; rcases hu with rfl | rfl | rfl | rfl <;> rfl, txC_sz, rfl, by omega, by omega⟩
theorem ti_rowOk : RowOk Tryd.prog 3 22 1 8 (.int .i64 0) tnC := ⟨by kernel_rfl, Tryd.underlying22, fun r u hu => by simp [tnC] at hu; rcases hu with rfl; rfl, tnC_sz, rfl, by omega, by omega⟩
theorem tx_form0 {α : Type} {T : TypeId} {z : Nat} {c : α → Array Value} {w : World} {base : Nat} {v : Value} {l : List α} (h : OwnX T z c w base v l) (h0 : 0 < l.length) : ∃ g cap cur, v = .slice (some ⟨g, 0, none⟩) l.length cap ∧ Bk w g T cur := by
  rcases h.2 with ⟨rfl, h3⟩ | ⟨g, cap, cur, rfl, hb, hg, _⟩
  · omega
  · exact ⟨g, cap, cur, rfl, hg⟩
theorem OwnX.two9 {α β : Type} {T T' : TypeId} {z z' base base' : Nat} {c : α → Array Value} {c' : β → Array Value} {w : World} {v v' : Value} {l : List α} {l' : List β} (h : OwnX T z c w base v l) (h' : OwnX T' z' c' w base' v' l') (hT : T ≠ T') : v.ownBlock = none ∨ v.ownBlock ≠ v'.ownBlock := by
  rcases h.2 with ⟨rfl, _⟩ | ⟨g, cap, cur, rfl, _, hg, _⟩
  · left; simp [Value.ownBlock]
  · right
    rcases h'.2 with ⟨rfl, _⟩ | ⟨g', cap', cur', rfl, _, hg', _⟩
    · simp [Value.ownBlock]
    · intro e
      simp only [Value.ownBlock, Option.map_some, Option.some.injEq] at e
      subst e
      have h2 := hg.symm.trans hg'
      simp only [Option.some.injEq, Obj.cells.injEq] at h2
      exact hT h2.2.1
theorem OwnX.bk9 {α : Type} {T T' : TypeId} {z g base : Nat} {c : α → Array Value} {w : World} {v : Value} {l : List α} {cs : Array Value} (h : OwnX T z c w base v l) (hB : Bk w g T' cs) (hT : T ≠ T') : some g ≠ v.ownBlock := by
  rcases h.2 with ⟨rfl, _⟩ | ⟨g', cap, cur, rfl, _, hg, _⟩
  · simp [Value.ownBlock]
  · intro e
    simp only [Value.ownBlock, Option.map_some, Option.some.injEq] at e
    subst e
    have h2 := hB.symm.trans hg
    simp only [Option.some.injEq, Obj.cells.injEq] at h2
    exact hT h2.2.1.symm
/-- All kinds of the taxes are owned. -/
def TxOw (w : World) (base : Nat) (L : List Tx) : Prop := ∀ x ∈ L, OwnX 3 1 tnC w base (txV x) x.2.2
def TxAp (L : List Tx) : Prop := L.Pairwise fun x y => ∀ b, (txV x).ownBlock = some b → (txV y).ownBlock ≠ some b
def TxSm (L : List Tx) : Prop := ∀ x ∈ L, Small x.1.1 ∧ x.2.2.length ≤ 5
theorem TxOw.kept {w w' : World} {base s : Nat} {L : List Tx} (h : TxOw w base L) (hg : G w w' (some s)) (hs : s < base) : TxOw w' base L := fun x hx => OwnX.kept (h x hx) hg hs
theorem TxOw.alloc {w : World} {base : Nat} {L : List Tx} (h : TxOw w base L) (o : Obj) : TxOw (w.alloc o) base L := fun x hx => OwnX.alloc (h x hx) o
theorem TxOw.gr {w w' : World} {base base' : Nat} {L L' : List Tx} {v : Value} (h : TxOw w base L) (ho : OwnX 52 4 txC w base' v L') (hg : G w w' v.ownBlock) : TxOw w' base L := fun x hx => World.ownsRow.kept (h x hx) hg (OwnX.two9 (h x hx) ho (by decide))
theorem TxOw.snoc {w : World} {base : Nat} {L : List Tx} {x : Tx} (h : TxOw w base L) (hx : OwnX 3 1 tnC w base (txV x) x.2.2) : TxOw w base (L ++ [x]) := fun p hp => by
  rcases List.mem_append.1 hp with hp | hp
  · exact h p hp
  · obtain rfl := List.mem_singleton.1 hp; exact hx
theorem TxSm.snoc {L : List Tx} {x : Tx} (h : TxSm L) (hx : Small x.1.1 ∧ x.2.2.length ≤ 5) : TxSm (L ++ [x]) := fun p hp => by
  rcases List.mem_append.1 hp with hp | hp
  · exact h p hp
  · obtain rfl := List.mem_singleton.1 hp; exact hx
theorem TxAp.snoc {w : World} {base N : Nat} {L : List Tx} {x : Tx} (h : TxAp L) (ho : TxOw w base L) (hN : w.heap.size ≤ N) (hx : ∀ b, (txV x).ownBlock = some b → N ≤ b) : TxAp (L ++ [x]) := by
  refine List.pairwise_append.2 ⟨h, List.pairwise_singleton _ _, fun y hy z hz b hb hc => ?_⟩
  obtain rfl := List.mem_singleton.1 hz
  have h1 := (World.ownsRow.lt (ho y hy) b hb).2
  have h2 := hx b hc
  omega
theorem TxAp.ne {L : List Tx} (h : TxAp L) {i j : Nat} {x y : Tx} (hi : L[i]? = some x) (hj : L[j]? = some y) (hij : i ≠ j) : (txV x).ownBlock = none ∨ (txV x).ownBlock ≠ (txV y).ownBlock := by
  obtain ⟨li, rfl⟩ := List.getElem?_eq_some_iff.1 hi
  obtain ⟨lj, rfl⟩ := List.getElem?_eq_some_iff.1 hj
  cases hx : (txV L[i]).ownBlock with
  | none => exact .inl rfl
  | some b =>
    refine .inr fun e => ?_
    rcases Nat.lt_or_gt_of_ne hij with q | q
    · exact List.pairwise_iff_getElem.1 h i j li lj q b hx e.symm
    · exact List.pairwise_iff_getElem.1 h j i lj li q b e.symm hx
def TxPost (s K : Nat) (w : World) (e : Ending) (w' : World) : Prop :=
  ∃ (v : Value) (L : List Tx), e = .returned v ∧ TxR w' v L ∧ TxNew w.heap.size v L ∧ TxOk L ∧ L.length ≤ 3 ∧ SB w' s (K + 200) ∧ G w w' (some s)
theorem TxPost.mk {s K : Nat} {w w' : World} {v : Value} {L : List Tx} (ho : OwnX 52 4 txC w' w.heap.size v L) (hx : TxOw w' w.heap.size L) (hs : ∀ x ∈ L, Small x.1.1 ∧ x.2.2.length ≤ 6) (hl : L.length ≤ 3) (hSB : SB w' s (K + 200)) (hG : G w w' (some s)) : TxPost s K w (.returned v) w' :=
  ⟨v, L, rfl, ⟨Rd.of_owns ho, fun x hxx => Rd.of_owns (hx x hxx)⟩, ⟨fun k e => OwnX.low ho k e, fun x hxx k e => OwnX.low (hx x hxx) k e⟩, hs, hl, hSB, hG⟩
def TxgRel (w : World) (s K gk : Nat) (s3 s12 : Value) (wr : World) : Prop :=
  ∃ (k : Nat) (L : List Tx), k ≤ 3 ∧ L.length ≤ k ∧ s12 = .int .i64 k ∧ Bk wr gk 9 #[.string ⟨#[99, 105, 116, 121]⟩, .string ⟨#[115, 116, 97, 116, 101]⟩, .string ⟨#[118, 97, 116]⟩] ∧ OwnX 52 4 txC wr w.heap.size s3 L ∧ TxOw wr w.heap.size L ∧ TxAp L ∧ TxSm L ∧ SB wr s (K + 1 + 10 * k) ∧ G w wr (some s)
def TxnRel (wq : World) (s K gx gj base : Nat) (ky : ByteArray) (pm : Int) (ov : Bool) (s27 : Value) (wr : World) : Prop :=
  ∃ (j : Nat) (ks : List Int) (ao : Option Addr) (co : Nat), j ≤ 5 ∧ ks.length ≤ j ∧ s27 = .int .i64 j ∧ Bk wr gx 52 #[.string ky, .int .i64 pm, .slice ao ks.length co, .bool ov] ∧ Bk wr gj 3 #[.int .i64 1, .int .i64 2, .int .i64 3, .int .i64 4, .int .i64 6] ∧ OwnX 3 1 tnC wr base (.slice ao ks.length co) ks ∧ SB wr s (K + j) ∧ G wq wr (some s)
set_option maxRecDepth 100000 in
set_option maxHeartbeats 16000000 in
theorem taxesG_c (w : World) (s : Nat) (K : Nat) (hs : SB w s K) (hk : K ≤ 600000000000) :
    Calls Tryd.prog 4 #[.pointer (some ⟨s, 0, none⟩)] w (TxPost s K w) := by
  have hsw := hs.lt
  have hK := Bk.new w 9 #[.string ⟨#[99, 105, 116, 121]⟩, .string ⟨#[115, 116, 97, 116, 101]⟩, .string ⟨#[118, 97, 116]⟩]
  have hSB1 := hs.alloc (.cells #[.string ⟨#[99, 105, 116, 121]⟩, .string ⟨#[115, 116, 97, 116, 101]⟩, .string ⟨#[118, 97, 116]⟩] 9)
  have hG1 := (G.refl w (some s)).alloc (.cells #[.string ⟨#[99, 105, 116, 121]⟩, .string ⟨#[115, 116, 97, 116, 101]⟩, .string ⟨#[118, 97, 116]⟩] 9)
  go_enter Tryd.func4, Tryd.ntmps4
  go_wp2_with fail
  generalize w.alloc (.cells #[.string ⟨#[99, 105, 116, 121]⟩, .string ⟨#[115, 116, 97, 116, 101]⟩, .string ⟨#[118, 97, 116]⟩] 9) = w1 at hK hSB1 hG1 ⊢
  have hsk : s < w.heap.size := hsw
  obtain ⟨gk, hgk⟩ : ∃ g, w.heap.size = g := ⟨_, rfl⟩
  have hgks : s ≠ gk := by omega
  have hgkw : w.heap.size ≤ gk := by omega
  rw [hgk] at hK ⊢
  clear hgk
  go_loopw [3, 12] (TxgRel w s K gk) (fun _ i _ => 3 - (intOf i).toNat)
  case atStart => exact ⟨0, [], by omega, by simp, rfl, hK, World.ownsRow_nil _ _ _ _, fun x hx => (by cases hx), List.Pairwise.nil, fun x hx => (by cases hx), hSB1.le (by omega), hG1⟩
  case round =>
    clear hK hSB1 hG1 hs
    obtain ⟨k, L, hkn, hlk, rfl, hK, hown, how, hap, hsm, hSB, hG⟩ := hrel
    have HAP := Lib.hid hap
    have HSM := Lib.hid hsm
    clear hap hsm
    by_cases hlt : k < 3
    · have HLK := Lib.hid hlk
      have HKN := Lib.hid hlt
      obtain ⟨ky, hky, hcy⟩ : ∃ ky : ByteArray, Small ky ∧ wr.cell? ⟨gk, k, none⟩ = some (.string ky) := by
        rcases (show k = 0 ∨ k = 1 ∨ k = 2 by omega) with rfl | rfl | rfl
        · exact ⟨_, small_of (by decide), hK.cell 0⟩
        · exact ⟨_, small_of (by decide), hK.cell 1⟩
        · exact ⟨_, small_of (by decide), hK.cell 2⟩
      have HKY := Lib.hid hky
      have hki : (k : Int) < 3 := by omega
      clear hlk hky
      go_wp2_with fail
      refine (flip_c _ _ _ _ hSB (by omega) (by omega)).mono ?_; rintro e v11 ⟨q, rfl, hSB11, hg⟩

      have hh := hg
      have hown11 := OwnX.kept hown hh hsw
      have hG11 := hG.trans hh
      have hK11 := hK.grown hh (fun e => hgks (Option.some.inj e).symm)
      have how11 := TxOw.kept how hh hsw
      clear hown hG hSB hK how hg hh 
      clear hcy
      cases q with
      | true =>
        go_wp2_with fail
        go_roundw
        case rel => exact ⟨k + 1, L, (by have := HKN.out; omega), (by have := HLK.out; omega), by go_num, hK11, hown11, how11, HAP.out, HSM.out, hSB11.le (by omega), hG11⟩
        case measure => have := HKN.out; simp [intOf]; omega
      | false =>
        go_wp2_with fail
        refine (pick_c _ _ _ [0, 50, 75, 200, 1000] _ _ _ (hSB11.alloc _) (by omega) (by decide) (by decide) (Rd.newAt _ rfl rfl (by decide)) (hSB11.newAt _ _ _ (Nat.le_refl _))).mono ?_; rintro e v12 ⟨pm, rfl, hp, hSB12, hg⟩

        have hh := ((G.refl v11 (some s)).alloc (.cells _ 3)).trans hg
        have hown12 := OwnX.kept hown11 hh hsw
        have hG12 := hG11.trans hh
        have hK12 := hK11.grown hh (fun e => hgks (Option.some.inj e).symm)
        have how12 := TxOw.kept how11 hh hsw
        clear hown11 hG11 hSB11 hK11 how11 hg hh hp
        go_wp2_with fail
        refine (flip_c _ _ _ _ hSB12 (by omega) (by omega)).mono ?_; rintro e v13 ⟨ov, rfl, hSB13, hg⟩

        have hh := hg
        have hown13 := OwnX.kept hown12 hh hsw
        have hG13 := hG12.trans hh
        have hK13 := hK12.grown hh (fun e => hgks (Option.some.inj e).symm)
        have how13 := TxOw.kept how12 hh hsw
        clear hown12 hG12 hSB12 hK12 how12 hg hh 
        have hgq := hG13.size
        have hX := (Bk.new v13 52 #[.string ky, .int .i64 pm, .slice none 0 0, .bool ov]).alloc (.cells #[.int .i64 1, .int .i64 2, .int .i64 3, .int .i64 4, .int .i64 6] 3)
        have hJ := Bk.newAt (w := v13.alloc (.cells #[.string ky, .int .i64 pm, .slice none 0 0, .bool ov] 52)) (b := v13.heap.size + 1) (by simp) 3 #[.int .i64 1, .int .i64 2, .int .i64 3, .int .i64 4, .int .i64 6]
        have hSB6 := (hSB13.alloc (.cells #[.string ky, .int .i64 pm, .slice none 0 0, .bool ov] 52)).alloc (.cells #[.int .i64 1, .int .i64 2, .int .i64 3, .int .i64 4, .int .i64 6] 3)
        have hGq6 := ((G.refl v13 (some s)).alloc (.cells #[.string ky, .int .i64 pm, .slice none 0 0, .bool ov] 52)).alloc (.cells #[.int .i64 1, .int .i64 2, .int .i64 3, .int .i64 4, .int .i64 6] 3)
        go_upto_region 8 with fail
        have hz6 : ((v13.alloc (.cells #[.string ky, .int .i64 pm, .slice none 0 0, .bool ov] 52)).alloc (.cells #[.int .i64 1, .int .i64 2, .int .i64 3, .int .i64 4, .int .i64 6] 3)).heap.size = v13.heap.size + 2 := by simp
        generalize ((v13.alloc (.cells #[.string ky, .int .i64 pm, .slice none 0 0, .bool ov] 52)).alloc (.cells #[.int .i64 1, .int .i64 2, .int .i64 3, .int .i64 4, .int .i64 6] 3)) = w6 at hX hJ hSB6 hGq6 hz6 ⊢
        have hsq : s < v13.heap.size := by omega
        obtain ⟨gx, hgx⟩ : ∃ n, v13.heap.size = n := ⟨_, rfl⟩
        obtain ⟨gj, hgj⟩ : ∃ n, v13.heap.size + 1 = n := ⟨_, rfl⟩
        obtain ⟨base, hbase⟩ : ∃ n, w6.heap.size = n := ⟨_, rfl⟩
        have hb1 : gx < base := by omega
        have hb2 : gj < base := by omega
        have hb3 : v13.heap.size ≤ gx := by omega
        have hb4 : gx ≠ gj := by omega
        have hb5 : s < gx := by omega
        have hb6 : s < gj := by omega
        have hb7 : base = gj + 1 := by omega
        rw [hgj] at hJ ⊢
        rw [hgx] at hX ⊢
        clear hgj hgx hz6
        go_loopw [27] (TxnRel v13 s (K + 4 + 10 * k) gx gj base ky pm ov) (fun i _ => 5 - (intOf i).toNat)
        case atStart => exact ⟨0, [], none, 0, by omega, by simp, rfl, hX, hJ, World.ownsRow_nil _ _ _ _, hSB6.le (by omega), hGq6⟩
        case round =>
          clear hX hJ hSB6 hGq6
          obtain ⟨j, ks, ao, co, hj5, hkj, rfl, hX, hJ, hko, hSB, hGq⟩ := hrel
          have HKO := Lib.hid hko
          have HJ5 := Lib.hid hkj
          clear hko hkj
          by_cases hjl : j < 5
          · have HJL := Lib.hid hjl
            have hji : (j : Int) < 5 := by omega
            obtain ⟨kd, hkd⟩ : ∃ kd : Int, wr.cell? ⟨gj, j, none⟩ = some (.int .i64 kd) := by
              rcases (show j = 0 ∨ j = 1 ∨ j = 2 ∨ j = 3 ∨ j = 4 by omega) with rfl | rfl | rfl | rfl | rfl
              · exact ⟨_, hJ.cell 0⟩
              · exact ⟨_, hJ.cell 1⟩
              · exact ⟨_, hJ.cell 2⟩
              · exact ⟨_, hJ.cell 3⟩
              · exact ⟨_, hJ.cell 4⟩
            go_wp2_with fail
            refine (flip_c _ _ _ _ hSB (by omega) (by omega)).mono ?_; rintro e w7 ⟨q, rfl, hSB7, hh⟩
            have hX7 := hX.grown hh (fun e => by have := Option.some.inj e; omega)
            have hJ7 := hJ.grown hh (fun e => by have := Option.some.inj e; omega)
            have hko7 := OwnX.kept HKO.out hh (show s < base by omega)
            have hGq7 := hGq.trans hh
            clear hX hJ hSB hGq hh hkd HKO
            cases q with
            | false =>
              go_wp2_with fail
              go_roundw
              case rel => exact ⟨j + 1, ks, ao, co, (by have := HJL.out; omega), (by have := HJ5.out; omega), by go_num, hX7, hJ7, hko7, hSB7.le (by omega), hGq7⟩
              case measure => have := HJL.out; simp [intOf]; omega
            | true =>
              have x2 : w7.cell? ⟨gx, 2, none⟩ = some (.slice ao ks.length co) := hX7.cell 2
              have hkA := OwnX.alloc hko7 (.cells #[.int .i64 kd] 3)
              have hXA := hX7.alloc (.cells #[.int .i64 kd] 3)
              have hJA := hJ7.alloc (.cells #[.int .i64 kd] 3)
              have hnx : some gx ≠ (Value.slice ao ks.length co).ownBlock := OwnX.ne hko7 (.inl hb1)
              have hnj : some gj ≠ (Value.slice ao ks.length co).ownBlock := OwnX.ne hko7 (.inl hb2)
              have hlow := OwnX.low hko7
              have hz7 := hGq7.size
              have hbz : base ≤ w7.heap.size := by have := hJ7.lt; omega
              go_wp2_with (at_builtin; refine wpList_plain rfl fun K' hK' => wp_append_x ti_rowOk _ _ rfl base (.slice ao ks.length co) ks rfl hkA w7.heap.size kd rfl (Bk.new w7 _ _) (by have := HJ5.out; omega) (by simp; omega) ?_; intro v8 w8 hown8 hgrow; obtain ⟨a8, c8, rfl, -, -⟩ := RdR.form (c := tnC) (Rd.of_owns hown8); have hX8 := hXA.grown hgrow hnx; have y2 : w8.cell? ⟨gx, 2, none⟩ = some (.slice ao ks.length co) := hX8.cell 2; have z2 : w8.frozen? ⟨gx, 2, none⟩ = false := hX8.free 2; refine hK' _ _ ?_)
              go_roundw
              case rel => exact ⟨j + 1, ks ++ [kd], a8, c8, (by have := HJL.out; omega), (by have := HJ5.out; simp; omega), by go_num, (by rw [List.length_append]; exact hX8.set 2 _), (hJA.grown hgrow hnj).far (p := ⟨gx, 2, none⟩) hb4.symm _, OwnX.far (p := ⟨gx, 2, none⟩) hown8 (OwnX.ne hown8 (.inl hb1)) _, ((((hSB7.alloc _).own hgrow (fun r e => by have := hlow r e; omega))).setCell (p := ⟨gx, 2, none⟩) hb5 _).le (by omega), ((hGq7.alloc _).other hgrow (fun r e => .inl (by have := hlow r e; omega))).setCell (p := ⟨gx, 2, none⟩) (.inl hb3) _⟩
              case measure => have := HJL.out; simp [intOf]; omega
          · have HK5 : Hid (ks.length ≤ 5) := Lib.hid (by have := HJ5.out; omega)
            have hownq := OwnX.kept hown13 hGq hsw
            have howq := TxOw.kept how13 hGq hsw
            have hKq := hK13.grown hGq (fun e => hgks (Option.some.inj e).symm)
            have hG9 := hG13.trans hGq
            have hXn := OwnX.down HKO.out (show w.heap.size ≤ base by omega)
            have hXlow : ∀ b, (txV ((ky, pm, ov), (ao, co), ks)).ownBlock = some b → v13.heap.size ≤ b := fun b e => by have := OwnX.low HKO.out b e; omega
            have HAP2 := Lib.hid (TxAp.snoc (x := ((ky, pm, ov), (ao, co), ks)) HAP.out how13 (Nat.le_refl _) hXlow)
            have hownA := OwnX.alloc hownq (.cells #[.string ky, .int .i64 pm, .slice ao ks.length co, .bool ov] 52)
            have howA := (howq.snoc (x := ((ky, pm, ov), (ao, co), ks)) hXn).alloc (.cells #[.string ky, .int .i64 pm, .slice ao ks.length co, .bool ov] 52)
            have hKA := hKq.alloc (.cells #[.string ky, .int .i64 pm, .slice ao ks.length co, .bool ov] 52)
            have hnk : some gk ≠ u3.ownBlock := OwnX.bk9 hownq hKq (by decide)
            have hob := OwnX.low hownq
            have hz9 := hG9.size
            have HXL := Lib.hid hXlow
            clear hXlow hXn howq
            go_wp2_with (first | (refine wpList_load_row rfl 52 _ rfl gx rfl 52 #[.string ky, .int .i64 pm, .slice ao ks.length co, .bool ov] (0, 0) _ hX Tryd.underlying52 rfl (tx_info ((ky, pm, ov), (ao, co), ks)) ?_) | (at_builtin; refine wpList_plain rfl fun K' hK' => wp_append_x tx_rowOk _ _ rfl w.heap.size u3 L rfl hownA wr.heap.size ((ky, pm, ov), (ao, co), ks) rfl (Bk.new wr _ _) (by have := HLK.out; omega) (by simp; omega) ?_; intro v8 w8 hown8 hgrow; refine hK' _ _ ?_))
            go_roundw
            case rel => exact ⟨k + 1, L ++ [((ky, pm, ov), (ao, co), ks)], (by have := HKN.out; omega), (by have := HLK.out; simp; omega), by go_num, hKA.grown hgrow hnk, hown8, TxOw.gr howA hownA hgrow, HAP2.out, HSM.out.snoc ⟨HKY.out, HK5.out⟩, ((hSB.alloc _).own hgrow (fun r e => Nat.lt_of_lt_of_le hsw (hob r e))).le (by omega), (hG9.alloc _).other hgrow (fun r e => .inl (hob r e))⟩
            case measure => have := HKN.out; simp [intOf]; omega
    · have hl3 : L.length ≤ 3 := by omega
      have hk3 : k = 3 := by omega
      subst hk3
      have HS6 : Hid (∀ x ∈ L, Small x.1.1 ∧ x.2.2.length ≤ 6) := Lib.hid (fun x hx => ⟨(HSM.out x hx).1, by have := (HSM.out x hx).2; omega⟩)
      clear hlk hK
      rcases Nat.eq_zero_or_pos L.length with h0 | h0
      · obtain rfl : L = [] := List.eq_nil_of_length_eq_zero h0
        obtain ⟨aa, cc, hv, -, -⟩ := RdR.form (c := txC) (Rd.of_owns hown)
        have hv' : u3 = .slice aa 0 cc := hv
        clear hv h0
        subst hv'
        go_wp2_with fail
        go_ret
        exact TxPost.mk hown how HS6.out (by simp) (hSB.le (by omega)) hG
      · obtain ⟨g, cap, cur, e, hgb⟩ := tx_form0 hown h0
        subst e
        have hgs := OwnX.low hown g rfl
        have h0i : ((0 : Int) < (L.length : Int)) := by omega
        clear h0 hgb
        go_wp2_with fail
        refine (flip_c _ _ _ _ hSB (by omega) (by omega)).mono ?_; rintro e v61 ⟨q, rfl, hSB61, hg⟩

        have hh := hg
        have hown61 := OwnX.kept hown hh hsw
        have hG61 := hG.trans hh
        have how61 := TxOw.kept how hh hsw
        clear hown hG hSB how hg hh 
        cases q with
        | false =>
          go_wp2_with fail
          go_ret
          exact TxPost.mk hown61 how61 HS6.out hl3 (hSB61.le (by omega)) hG61
        | true =>
          go_wp2_with fail
          refine (next_c _ _ _ _ hSB61 (by omega) (by omega)).mono ?_; rintro e v62 ⟨j, rfl, hj, hSB62, hg⟩
          obtain ⟨j0, j1⟩ := hj
          obtain ⟨j, rfl⟩ := Int.eq_ofNat_of_zero_le j0
          have jl : j < L.length := by omega
          have jli : (j : Int) < (L.length : Int) := by omega
          clear j1
          have hh := hg
          have hown62 := OwnX.kept hown61 hh hsw
          have hG62 := hG61.trans hh
          have how62 := TxOw.kept how61 hh hsw
          clear hown61 hG61 hSB61 how61 hg hh 
          obtain ⟨⟨⟨z1, z2, z3⟩, ⟨za, zc⟩, zk⟩, hpj⟩ : ∃ p, L[j]? = some p := ⟨_, List.getElem?_eq_getElem jl⟩
          have HPJ := Lib.hid hpj
          have HPM := Lib.hid (List.mem_of_getElem? hpj)
          have HPG : Hid (Small z1 ∧ zk.length ≤ 5) := Lib.hid (HSM.out _ (List.mem_of_getElem? hpj))
          clear hpj
          have hgsg : s < g := Nat.lt_of_lt_of_le hsw hgs
          go_wp2_with fail
          refine (next_c _ _ _ _ hSB62 (by omega) (by omega)).mono ?_; rintro e v63 ⟨c, rfl, hc, hSB63, hg⟩
          obtain ⟨q0, q1⟩ := hc
          obtain ⟨c, rfl⟩ := Int.eq_ofNat_of_zero_le q0
          have hc3 : c = 0 ∨ c = 1 ∨ c = 2 := by omega
          clear q0 q1
          have hh := hg
          have hown63 := OwnX.kept hown62 hh hsw
          have hG63 := hG62.trans hh
          have how63 := TxOw.kept how62 hh hsw
          clear hown62 hG62 hSB62 how62 hg hh 
          rcases hc3 with rfl | rfl | rfl
          · go_wp2_with fail
            refine (some_c _ _ _ [⟨#[]⟩, ⟨#[99, 105, 116, 121]⟩, ⟨#[65]⟩] _ _ _ (hSB63.alloc _) (by omega) (by decide) (by decide) (Rd.newAt _ rfl rfl (by decide)) (hSB63.newAt _ _ _ (Nat.le_refl _))).mono ?_; rintro e v81 ⟨n7, rfl, hp, hSB81, hg⟩
            have Hn7 := Lib.hid (small_pick hp (by decide))
            have hh := ((G.refl v63 (some s)).alloc (.cells _ 9)).trans hg
            have hown81 := OwnX.kept hown63 hh hsw
            have hG81 := hG63.trans hh
            have how81 := TxOw.kept how63 hh hsw
            clear hown63 hG63 hSB63 how63 hg hh hp
            have d0 := RdR.cell txC_sz (Rd.of_owns hown81) (G.refl _ none) HPJ.out 0 (.string z1) rfl
            have f0 := ownsRow_free hown81 (j * 4 + 0)
            have q1 := OwnX.set txC_sz hown81 HPJ.out (q := ((n7, z2, z3), (za, zc), zk)) 0 (.string n7) (by omega) rfl
            simp only [Nat.zero_add, Nat.add_zero] at d0 f0 q1
            have HQ := Lib.hid q1
            have HOW := Lib.hid how81
            have HNG := Lib.hid (fun (x : Tx) (hx : x ∈ L) => OwnX.two9 (how81 x hx) hown81 (by decide))
            clear q1 hown81 how81
            go_wp2_with fail
            go_ret
            refine TxPost.mk (L := L.set j ((n7, z2, z3), (za, zc), zk)) (by unfold OwnX; rw [List.length_set]; exact HQ.out) (fun x hx => ?_) (fun x hx => ?_) (by rw [List.length_set]; exact hl3) ((hSB81.setCell (p := ⟨g, j * 4, none⟩) hgsg _).le (by omega)) (hG81.setCell (p := ⟨g, j * 4, none⟩) (.inl hgs) _)
            · rcases List.mem_or_eq_of_mem_set hx with hx | rfl
              · exact World.ownsRow.kept (HOW.out x hx) (grownBy_setCell_row _ ⟨g, j * 4, none⟩ _) (HNG.out x hx)
              · exact World.ownsRow.kept (HOW.out ((z1, z2, z3), (za, zc), zk) HPM.out) (grownBy_setCell_row _ ⟨g, j * 4, none⟩ _) (HNG.out ((z1, z2, z3), (za, zc), zk) HPM.out)
            · rcases List.mem_or_eq_of_mem_set hx with hx | rfl
              · exact HS6.out x hx
              · exact ⟨Hn7.out, by have := HPG.out.2; dsimp only; omega⟩
          · go_wp2_with fail
            refine (odd_c _ _ _ _ _ hSB63 (by omega) (by omega) (by omega) (by omega) (by omega)).mono ?_; rintro e v91 ⟨o1, rfl, o10, o11, hSB91, hg⟩

            have hh := hg
            have hown91 := OwnX.kept hown63 hh hsw
            have hG91 := hG63.trans hh
            have how91 := TxOw.kept how63 hh hsw
            clear hown63 hG63 hSB63 how63 hg hh 
            have d0 := RdR.cell txC_sz (Rd.of_owns hown91) (G.refl _ none) HPJ.out 1 (.int .i64 z2) rfl
            have f0 := ownsRow_free hown91 (j * 4 + 1)
            have q1 := OwnX.set txC_sz hown91 HPJ.out (q := ((z1, o1, z3), (za, zc), zk)) 1 (.int .i64 o1) (by omega) rfl
            simp only [Nat.zero_add] at d0
            have HQ := Lib.hid q1
            have HOW := Lib.hid how91
            have HNG := Lib.hid (fun (x : Tx) (hx : x ∈ L) => OwnX.two9 (how91 x hx) hown91 (by decide))
            clear q1 hown91 how91
            go_wp2_with fail
            go_ret
            refine TxPost.mk (L := L.set j ((z1, o1, z3), (za, zc), zk)) (by unfold OwnX; rw [List.length_set]; exact HQ.out) (fun x hx => ?_) (fun x hx => ?_) (by rw [List.length_set]; exact hl3) ((hSB91.setCell (p := ⟨g, j * 4 + 1, none⟩) hgsg _).le (by omega)) (hG91.setCell (p := ⟨g, j * 4 + 1, none⟩) (.inl hgs) _)
            · rcases List.mem_or_eq_of_mem_set hx with hx | rfl
              · exact World.ownsRow.kept (HOW.out x hx) (grownBy_setCell_row _ ⟨g, j * 4 + 1, none⟩ _) (HNG.out x hx)
              · exact World.ownsRow.kept (HOW.out ((z1, z2, z3), (za, zc), zk) HPM.out) (grownBy_setCell_row _ ⟨g, j * 4 + 1, none⟩ _) (HNG.out ((z1, z2, z3), (za, zc), zk) HPM.out)
            · rcases List.mem_or_eq_of_mem_set hx with hx | rfl
              · exact HS6.out x hx
              · exact ⟨HPG.out.1, by have := HPG.out.2; dsimp only; omega⟩
          · have HOL := Lib.hid hown63
            have HOW := Lib.hid how63
            have d0 := RdR.cell txC_sz (Rd.of_owns hown63) (G.refl _ none) HPJ.out 0 (.string z1) rfl
            have c2 := RdR.cell txC_sz (Rd.of_owns hown63) (G.refl _ none) HPJ.out 2 (.slice za zk.length zc) rfl
            have c2a := RdR.cell txC_sz (Rd.of_owns (OwnX.alloc (OwnX.drew hown63) (.cells #[.int .i64 0, .int .i64 5, .int .i64 6, .int .i64 7, .int .i64 1] 3))) (G.refl _ none) HPJ.out 2 (.slice za zk.length zc) rfl
            have n0 : g ≠ v63.heap.size := by have := (World.ownsRow.lt hown63 g rfl).2; omega
            have n0' := n0.symm
            have d0a := RdR.cell txC_sz (Rd.of_owns (OwnX.alloc (OwnX.drew hown63) (.cells #[.int .i64 0, .int .i64 5, .int .i64 6, .int .i64 7, .int .i64 1] 3))) (G.refl _ none) HPJ.out 0 (.string z1) rfl
            have hSBd := hSB63.quiet ((G.refl v63 none).drew)
            have hGd := hG63.drew
            have hzk : zk.length ≤ 5 := HPG.out.2
            simp only [Nat.add_zero, Nat.zero_add] at d0 d0a c2 c2a
            have c2b : (v63.alloc (.cells #[.int .i64 0, .int .i64 5, .int .i64 6, .int .i64 7, .int .i64 1] 3)).drew.cell? ⟨g, j * 4 + 2, none⟩ = some (.slice za zk.length zc) := c2a
            have c2c : (v63.alloc (.cells #[.int .i64 0, .int .i64 5, .int .i64 6, .int .i64 7, .int .i64 1] 3)).cell? ⟨g, j * 4 + 2, none⟩ = some (.slice za zk.length zc) := c2a
            clear hown63 how63 hSB63 hG63
            go_wp2_with fail
            refine wp_region_held_drew (S := (fun w' : World => w'.cell? ⟨g, j * 4, none⟩ = some (.string z1) ∧ True)) (by kernel_rfl) ?_ (fun hHeld => ?_)
            · exact ⟨d0, trivial⟩
            refine wpAnyH_take (i := 0) (oi := { dst := some 60, op := Op.move (Operand.tmp 9), type := 53, pos := _, after := #[], guard := none }) (v := ?_) rfl (by kernel_rfl) (by kernel_rfl) (by kernel_rfl) (fun _ _ _ h => h) (Or.inl ⟨by rfl, ?_⟩) (by assumption) ?_
            rotate_left
            · (intro w hSw; obtain ⟨s0, s1⟩ := hSw; (go_simp <;> with_reducible rfl))
            try simp only [Act.put, List.setIfInBounds_toArray, List.set_cons_zero, List.set_cons_succ]
            refine wpAnyH_take (i := 1) (oi := { dst := some 61, op := Op.move (Operand.tmp 9), type := 53, pos := _, after := #[], guard := none }) (v := ?_) rfl (by kernel_rfl) (by kernel_rfl) (by kernel_rfl) (fun _ _ _ h => h) (Or.inl ⟨by rfl, ?_⟩) (by assumption) ?_
            rotate_left
            · (intro w hSw; obtain ⟨s0, s1⟩ := hSw; (go_simp <;> with_reducible rfl))
            try simp only [Act.put, List.setIfInBounds_toArray, List.set_cons_zero, List.set_cons_succ]
            refine wpAnyH_take (i := 2) (oi := { dst := some 62, op := Op.nilCheck (Operand.tmp 61), type := 0, pos := _, after := #[{ on := 1, ground := Ground.data }], guard := none }) (v := ?_) rfl (by kernel_rfl) (by kernel_rfl) (by kernel_rfl) (fun _ _ _ h => h) (Or.inl ⟨by rfl, ?_⟩) (by assumption) ?_
            rotate_left
            · (intro w hSw; obtain ⟨s0, s1⟩ := hSw; (go_simp <;> with_reducible rfl))
            try simp only [Act.put, List.setIfInBounds_toArray, List.set_cons_zero, List.set_cons_succ]
            refine wpAnyH_take (i := 3) (oi := { dst := some 63, op := Op.fieldAddr 52 (Operand.tmp 62) 2, type := 0, pos := _, after := #[{ on := 2, ground := Ground.data }], guard := none }) (v := ?_) rfl (by kernel_rfl) (by kernel_rfl) (by kernel_rfl) (fun _ _ _ h => h) (Or.inl ⟨by rfl, ?_⟩) (by assumption) ?_
            rotate_left
            · (intro w hSw; obtain ⟨s0, s1⟩ := hSw; (go_simp <;> with_reducible rfl))
            try simp only [Act.put, List.setIfInBounds_toArray, List.set_cons_zero, List.set_cons_succ]
            refine wpAnyH_take (i := 5) (oi := { dst := some 65, op := Op.move (Operand.tmp 0), type := 23, pos := _, after := #[], guard := none }) (v := ?_) rfl (by kernel_rfl) (by kernel_rfl) (by kernel_rfl) (fun _ _ _ h => h) (Or.inl ⟨by rfl, ?_⟩) (by assumption) ?_
            rotate_left
            · (intro w hSw; obtain ⟨s0, s1⟩ := hSw; (go_simp <;> with_reducible rfl))
            try simp only [Act.put, List.setIfInBounds_toArray, List.set_cons_zero, List.set_cons_succ]
            refine wpAnyH_ready (rs := [4, 6]) (by kernel_rfl) (by simp) ?_
            refine (AllReadyH.cons (o := { dst := some 64, op := Op.load 22 (Operand.tmp 63), type := 22, pos := _, after := #[{ on := 3, ground := Ground.data }], guard := none }) rfl (fun K hK => ?_) (AllReadyH.cons (o := { dst := some 66, op := Op.buildSlice 22 5 #[(0, Operand.const (Value.int IntKind.i64 0)), (1, Operand.const (Value.int IntKind.i64 5)), (2, Operand.const (Value.int IntKind.i64 6)), (3, Operand.const (Value.int IntKind.i64 7)), (4, Operand.const (Value.int IntKind.i64 1))], type := 22, pos := _, after := #[], guard := none }) rfl (fun K hK => ?_) AllReadyH.nil))
            · go_simp
              refine hK.out _ _ ?_ (fun hHeld => ?_)
              · exact ⟨d0, trivial⟩
              clear hK K
              try simp only [Act.put, List.setIfInBounds_toArray, List.set_cons_zero, List.set_cons_succ]
              refine wpAnyH_ready (rs := [6]) (by kernel_rfl) (by simp) ?_
              refine (AllReadyH.cons (o := { dst := some 66, op := Op.buildSlice 22 5 #[(0, Operand.const (Value.int IntKind.i64 0)), (1, Operand.const (Value.int IntKind.i64 5)), (2, Operand.const (Value.int IntKind.i64 6)), (3, Operand.const (Value.int IntKind.i64 7)), (4, Operand.const (Value.int IntKind.i64 1))], type := 22, pos := _, after := #[], guard := none }) rfl (fun K hK => ?_) AllReadyH.nil)
              go_simp
              refine hK.out _ _ ?_ (fun hHeld => ?_)
              · exact ⟨d0a, trivial⟩
              clear hK K
              try simp only [Act.put, List.setIfInBounds_toArray, List.set_cons_zero, List.set_cons_succ]
              refine wpAnyH_ready (rs := [7]) (by kernel_rfl) (by simp) ?_
              refine (AllReadyH.cons (o := { dst := some 67, op := Op.call { callee := Callee.value (Operand.func 21), args := #[Operand.tmp 65, Operand.tmp 66], argTypes := #[23, 22] }, type := 3, pos := _, after := #[{ on := 5, ground := Ground.data }, { on := 6, ground := Ground.data }], guard := none }) rfl (fun K hK => ?_) AllReadyH.nil)
              go_simp
              refine (pick_c _ _ _ [0, 5, 6, 7, 1] _ _ _ (hSBd.alloc _) (by omega) (by decide) (by decide) (Rd.newAt _ rfl rfl (by decide)) (hSBd.newAt _ _ _ (Nat.le_refl _))).mono ?_
              rintro e w6 ⟨n, rfl, -, hSB6, hh⟩
              have ho6 := OwnX.kept (OwnX.alloc (OwnX.drew HOL.out) (.cells #[.int .i64 0, .int .i64 5, .int .i64 6, .int .i64 7, .int .i64 1] 3)) hh hsw
              have how6 : TxOw w6 w.heap.size L := (fun x hx => OwnX.kept (OwnX.alloc (OwnX.drew (HOW.out x hx)) (.cells #[.int .i64 0, .int .i64 5, .int .i64 6, .int .i64 7, .int .i64 1] 3)) hh hsw)
              have hG6 := (hGd.alloc (.cells #[.int .i64 0, .int .i64 5, .int .i64 6, .int .i64 7, .int .i64 1] 3)).trans hh
              have d06 := RdR.cell txC_sz (Rd.of_owns ho6) (G.refl _ none) HPJ.out 0 (.string z1) rfl
              have d06a := RdR.cell txC_sz (Rd.of_owns (OwnX.alloc ho6 (.cells #[.int .i64 n] 3))) (G.refl _ none) HPJ.out 0 (.string z1) rfl
              have c26 := RdR.cell txC_sz (Rd.of_owns ho6) (G.refl _ none) HPJ.out 2 (.slice za zk.length zc) rfl
              have c26a := RdR.cell txC_sz (Rd.of_owns (OwnX.alloc ho6 (.cells #[.int .i64 n] 3))) (G.refl _ none) HPJ.out 2 (.slice za zk.length zc) rfl
              have n6 : g ≠ w6.heap.size := (by have := (World.ownsRow.lt ho6 g rfl).2; omega)
              have n6' := n6.symm
              have hz6 := hG6.size
              simp only [Nat.add_zero, Nat.zero_add] at d06 d06a c26 c26a
              clear hh
              refine hK.out _ _ ?_ (fun hHeld => ?_)
              · exact ⟨d06, trivial⟩
              clear hK K
              try simp only [Act.put, List.setIfInBounds_toArray, List.set_cons_zero, List.set_cons_succ]
              refine wpAnyH_ready (rs := [8]) (by kernel_rfl) (by simp) ?_
              refine (AllReadyH.cons (o := { dst := some 68, op := Op.buildSlice 22 1 #[(0, Operand.tmp 67)], type := 22, pos := _, after := #[{ on := 7, ground := Ground.data }], guard := none }) rfl (fun K hK => ?_) AllReadyH.nil)
              go_simp
              refine hK.out _ _ ?_ (fun hHeld => ?_)
              · exact ⟨d06a, trivial⟩
              clear hK K
              try simp only [Act.put, List.setIfInBounds_toArray, List.set_cons_zero, List.set_cons_succ]
              refine wpAnyH_ready (rs := [9]) (by kernel_rfl) (by simp) ?_
              refine (AllReadyH.cons (o := { dst := some 69, op := Op.call { callee := Callee.builtin Builtin.append, args := #[Operand.tmp 64, Operand.tmp 68], argTypes := #[22, 22] }, type := 22, pos := _, after := #[{ on := 4, ground := Ground.data }, { on := 8, ground := Ground.data }, { on := 7, ground := Ground.chain }], guard := none }) rfl (fun K hK => ?_) AllReadyH.nil)
              have hkA : OwnX 3 1 tnC (w6.alloc (.cells #[.int .i64 n] 3)) w.heap.size (.slice za zk.length zc) zk := (OwnX.alloc (how6 _ HPM.out) _)
              have hoA := OwnX.alloc ho6 (.cells #[.int .i64 n] 3)
              have hNN := Bk.new w6 3 #[.int .i64 n]
              have hLL : zk.length ≤ 1000 := (by omega)
              have hZZ : w.heap.size ≤ (w6.alloc (.cells #[.int .i64 n] 3)).heap.size := (by simp; omega)
              refine st_wp rfl (wp_append_x ti_rowOk _ _ rfl w.heap.size (.slice za zk.length zc) zk rfl hkA w6.heap.size n rfl hNN hLL hZZ ?_)
              clear hNN hLL hZZ
              intro v8 w8 hown8 hgrow
              obtain ⟨a8, c8, rfl, -, -⟩ := RdR.form (c := tnC) (Rd.of_owns hown8)
              have ho8 : OwnX 52 4 txC w8 w.heap.size (.slice (some ⟨g, 0, none⟩) L.length cap) L := World.ownsRow.kept hoA hgrow (OwnX.two9 hoA hkA (by decide))
              have d08 := RdR.cell txC_sz (Rd.of_owns ho8) (G.refl _ none) HPJ.out 0 (.string z1) rfl
              have c28 := RdR.cell txC_sz (Rd.of_owns ho8) (G.refl _ none) HPJ.out 2 (.slice za zk.length zc) rfl
              have f28 := ownsRow_free ho8 (j * 4 + 2)
              have q9 := OwnX.set txC_sz ho8 HPJ.out (q := ((z1, z2, z3), (a8, c8), zk ++ [n])) 2 (.slice a8 (zk ++ [n]).length c8) (by omega) rfl
              have d09 := RdR.cell (c := txC) (l := L.set j ((z1, z2, z3), (a8, c8), zk ++ [n])) txC_sz (by have h9 := Rd.of_owns q9; unfold RdR; rw [List.length_set]; exact h9) (G.refl _ none) (List.getElem?_set_self jl) 0 (.string z1) rfl
              simp only [List.length_append, List.length_cons, List.length_nil, Nat.add_zero, Nat.zero_add] at d08 c28 d09
              refine hK.out _ _ ?_ (fun hHeld => ?_)
              · exact ⟨d08, trivial⟩
              clear hK K
              try simp only [Act.put, List.setIfInBounds_toArray, List.set_cons_zero, List.set_cons_succ]
              refine wpAnyH_take (i := 10) (oi := { dst := some 70, op := Op.nilCheck (Operand.tmp 60), type := 0, pos := _, after := #[{ on := 0, ground := Ground.data }, { on := 0, ground := Ground.phase }, { on := 1, ground := Ground.phase }, { on := 2, ground := Ground.phase }, { on := 3, ground := Ground.phase }, { on := 4, ground := Ground.phase }, { on := 5, ground := Ground.phase }, { on := 6, ground := Ground.phase }, { on := 7, ground := Ground.phase }, { on := 8, ground := Ground.phase }, { on := 9, ground := Ground.phase }], guard := none }) (v := ?_) rfl (by kernel_rfl) (by kernel_rfl) (by kernel_rfl) (fun _ _ _ h => h) (Or.inl ⟨by rfl, ?_⟩) (by assumption) ?_
              rotate_left
              · (intro w hSw; obtain ⟨s0, s1⟩ := hSw; (go_simp <;> with_reducible rfl))
              try simp only [Act.put, List.setIfInBounds_toArray, List.set_cons_zero, List.set_cons_succ]
              refine wpAnyH_take (i := 11) (oi := { dst := some 71, op := Op.fieldAddr 52 (Operand.tmp 70) 2, type := 0, pos := _, after := #[{ on := 10, ground := Ground.data }, { on := 0, ground := Ground.phase }, { on := 1, ground := Ground.phase }, { on := 2, ground := Ground.phase }, { on := 3, ground := Ground.phase }, { on := 4, ground := Ground.phase }, { on := 5, ground := Ground.phase }, { on := 6, ground := Ground.phase }, { on := 7, ground := Ground.phase }, { on := 8, ground := Ground.phase }, { on := 9, ground := Ground.phase }], guard := none }) (v := ?_) rfl (by kernel_rfl) (by kernel_rfl) (by kernel_rfl) (fun _ _ _ h => h) (Or.inl ⟨by rfl, ?_⟩) (by assumption) ?_
              rotate_left
              · (intro w hSw; obtain ⟨s0, s1⟩ := hSw; (go_simp <;> with_reducible rfl))
              try simp only [Act.put, List.setIfInBounds_toArray, List.set_cons_zero, List.set_cons_succ]
              refine wpAnyH_ready (rs := [12]) (by kernel_rfl) (by simp) ?_
              refine (AllReadyH.cons (o := { dst := none, op := Op.store 22 (Operand.tmp 71) (Operand.tmp 69), type := 0, pos := _, after := #[{ on := 11, ground := Ground.data }, { on := 9, ground := Ground.data }, { on := 9, ground := Ground.chain }, { on := 0, ground := Ground.phase }, { on := 1, ground := Ground.phase }, { on := 2, ground := Ground.phase }, { on := 3, ground := Ground.phase }, { on := 4, ground := Ground.phase }, { on := 5, ground := Ground.phase }, { on := 6, ground := Ground.phase }, { on := 7, ground := Ground.phase }, { on := 8, ground := Ground.phase }, { on := 9, ground := Ground.phase }], guard := none }) rfl (fun K hK => ?_) AllReadyH.nil)
              go_simp
              refine hK.out _ _ ?_ (fun hHeld => ?_)
              · exact ⟨d09, trivial⟩
              clear hK K
              try simp only [Act.put, List.setIfInBounds_toArray, List.set_cons_zero, List.set_cons_succ]
              refine wpAnyH_done (by kernel_rfl) ?_ _
              have HQ9 := Lib.hid q9
              have hlow := OwnX.low (how6 _ HPM.out)
              have hgsb : some g ≠ (Value.slice za zk.length zc).ownBlock := fun e => by
                rcases OwnX.two9 hoA hkA (by decide) with q | q
                · cases q
                · exact q e
              clear q9 d0 d0a c2 c2a c2b c2c d06 d06a c26 c26a d08 c28 f28 d09
              go_wp2_with fail
              go_ret
              refine TxPost.mk (L := L.set j ((z1, z2, z3), (a8, c8), zk ++ [n])) (by have h9 := HQ9.out; rw [List.length_append] at h9; unfold OwnX; rw [List.length_set]; exact h9) (fun x hx => ?_) (fun x hx => ?_) (by rw [List.length_set]; exact hl3) ((((hSB6.alloc _).own hgrow (fun r e => Nat.lt_of_lt_of_le hsw (hlow r e))).setCell (p := ⟨g, j * 4 + 2, none⟩) hgsg _).le (by omega)) (((hG6.alloc _).other hgrow (fun r e => .inl (hlow r e))).setCell (p := ⟨g, j * 4 + 2, none⟩) (.inl hgs) _)
              · obtain ⟨i, hi⟩ := List.getElem?_of_mem hx
                by_cases hij : i = j
                · subst hij
                  rw [List.getElem?_set_self jl] at hi
                  obtain rfl := Option.some.inj hi
                  exact World.ownsRow.kept hown8 (grownBy_setCell_row _ ⟨g, i * 4 + 2, none⟩ _) (OwnX.two9 hown8 ho8 (by decide))
                · rw [List.getElem?_set_ne (fun e => hij e.symm)] at hi
                  have hx6 := how6 x (List.mem_of_getElem? hi)
                  have hx8 : OwnX 3 1 tnC w8 w.heap.size (txV x) x.2.2 := World.ownsRow.kept (OwnX.alloc hx6 _) hgrow (TxAp.ne HAP.out hi HPJ.out hij)
                  exact World.ownsRow.kept hx8 (grownBy_setCell_row _ ⟨g, j * 4 + 2, none⟩ _) (OwnX.two9 hx8 ho8 (by decide))
              · rcases List.mem_or_eq_of_mem_set hx with hx | rfl
                · exact HS6.out x hx
                · exact ⟨HPG.out.1, by have := HPG.out.2; simp only [List.length_append, List.length_cons, List.length_nil]; omega⟩
            · go_simp
              refine hK.out _ _ ?_ (fun hHeld => ?_)
              · exact ⟨d0a, trivial⟩
              clear hK K
              try simp only [Act.put, List.setIfInBounds_toArray, List.set_cons_zero, List.set_cons_succ]
              refine wpAnyH_ready (rs := [4, 7]) (by kernel_rfl) (by simp) ?_
              refine (AllReadyH.cons (o := { dst := some 64, op := Op.load 22 (Operand.tmp 63), type := 22, pos := _, after := #[{ on := 3, ground := Ground.data }], guard := none }) rfl (fun K hK => ?_) (AllReadyH.cons (o := { dst := some 67, op := Op.call { callee := Callee.value (Operand.func 21), args := #[Operand.tmp 65, Operand.tmp 66], argTypes := #[23, 22] }, type := 3, pos := _, after := #[{ on := 5, ground := Ground.data }, { on := 6, ground := Ground.data }], guard := none }) rfl (fun K hK => ?_) AllReadyH.nil))
              · go_simp
                refine hK.out _ _ ?_ (fun hHeld => ?_)
                · exact ⟨d0a, trivial⟩
                clear hK K
                try simp only [Act.put, List.setIfInBounds_toArray, List.set_cons_zero, List.set_cons_succ]
                refine wpAnyH_ready (rs := [7]) (by kernel_rfl) (by simp) ?_
                refine (AllReadyH.cons (o := { dst := some 67, op := Op.call { callee := Callee.value (Operand.func 21), args := #[Operand.tmp 65, Operand.tmp 66], argTypes := #[23, 22] }, type := 3, pos := _, after := #[{ on := 5, ground := Ground.data }, { on := 6, ground := Ground.data }], guard := none }) rfl (fun K hK => ?_) AllReadyH.nil)
                go_simp
                refine (pick_c _ _ _ [0, 5, 6, 7, 1] _ _ _ (hSBd.alloc _) (by omega) (by decide) (by decide) (Rd.newAt _ rfl rfl (by decide)) (hSBd.newAt _ _ _ (Nat.le_refl _))).mono ?_
                rintro e w6 ⟨n, rfl, -, hSB6, hh⟩
                have ho6 := OwnX.kept (OwnX.alloc (OwnX.drew HOL.out) (.cells #[.int .i64 0, .int .i64 5, .int .i64 6, .int .i64 7, .int .i64 1] 3)) hh hsw
                have how6 : TxOw w6 w.heap.size L := (fun x hx => OwnX.kept (OwnX.alloc (OwnX.drew (HOW.out x hx)) (.cells #[.int .i64 0, .int .i64 5, .int .i64 6, .int .i64 7, .int .i64 1] 3)) hh hsw)
                have hG6 := (hGd.alloc (.cells #[.int .i64 0, .int .i64 5, .int .i64 6, .int .i64 7, .int .i64 1] 3)).trans hh
                have d06 := RdR.cell txC_sz (Rd.of_owns ho6) (G.refl _ none) HPJ.out 0 (.string z1) rfl
                have d06a := RdR.cell txC_sz (Rd.of_owns (OwnX.alloc ho6 (.cells #[.int .i64 n] 3))) (G.refl _ none) HPJ.out 0 (.string z1) rfl
                have c26 := RdR.cell txC_sz (Rd.of_owns ho6) (G.refl _ none) HPJ.out 2 (.slice za zk.length zc) rfl
                have c26a := RdR.cell txC_sz (Rd.of_owns (OwnX.alloc ho6 (.cells #[.int .i64 n] 3))) (G.refl _ none) HPJ.out 2 (.slice za zk.length zc) rfl
                have n6 : g ≠ w6.heap.size := (by have := (World.ownsRow.lt ho6 g rfl).2; omega)
                have n6' := n6.symm
                have hz6 := hG6.size
                simp only [Nat.add_zero, Nat.zero_add] at d06 d06a c26 c26a
                clear hh
                refine hK.out _ _ ?_ (fun hHeld => ?_)
                · exact ⟨d06, trivial⟩
                clear hK K
                try simp only [Act.put, List.setIfInBounds_toArray, List.set_cons_zero, List.set_cons_succ]
                refine wpAnyH_ready (rs := [8]) (by kernel_rfl) (by simp) ?_
                refine (AllReadyH.cons (o := { dst := some 68, op := Op.buildSlice 22 1 #[(0, Operand.tmp 67)], type := 22, pos := _, after := #[{ on := 7, ground := Ground.data }], guard := none }) rfl (fun K hK => ?_) AllReadyH.nil)
                go_simp
                refine hK.out _ _ ?_ (fun hHeld => ?_)
                · exact ⟨d06a, trivial⟩
                clear hK K
                try simp only [Act.put, List.setIfInBounds_toArray, List.set_cons_zero, List.set_cons_succ]
                refine wpAnyH_ready (rs := [9]) (by kernel_rfl) (by simp) ?_
                refine (AllReadyH.cons (o := { dst := some 69, op := Op.call { callee := Callee.builtin Builtin.append, args := #[Operand.tmp 64, Operand.tmp 68], argTypes := #[22, 22] }, type := 22, pos := _, after := #[{ on := 4, ground := Ground.data }, { on := 8, ground := Ground.data }, { on := 7, ground := Ground.chain }], guard := none }) rfl (fun K hK => ?_) AllReadyH.nil)
                have hkA : OwnX 3 1 tnC (w6.alloc (.cells #[.int .i64 n] 3)) w.heap.size (.slice za zk.length zc) zk := (OwnX.alloc (how6 _ HPM.out) _)
                have hoA := OwnX.alloc ho6 (.cells #[.int .i64 n] 3)
                have hNN := Bk.new w6 3 #[.int .i64 n]
                have hLL : zk.length ≤ 1000 := (by omega)
                have hZZ : w.heap.size ≤ (w6.alloc (.cells #[.int .i64 n] 3)).heap.size := (by simp; omega)
                refine st_wp rfl (wp_append_x ti_rowOk _ _ rfl w.heap.size (.slice za zk.length zc) zk rfl hkA w6.heap.size n rfl hNN hLL hZZ ?_)
                clear hNN hLL hZZ
                intro v8 w8 hown8 hgrow
                obtain ⟨a8, c8, rfl, -, -⟩ := RdR.form (c := tnC) (Rd.of_owns hown8)
                have ho8 : OwnX 52 4 txC w8 w.heap.size (.slice (some ⟨g, 0, none⟩) L.length cap) L := World.ownsRow.kept hoA hgrow (OwnX.two9 hoA hkA (by decide))
                have d08 := RdR.cell txC_sz (Rd.of_owns ho8) (G.refl _ none) HPJ.out 0 (.string z1) rfl
                have c28 := RdR.cell txC_sz (Rd.of_owns ho8) (G.refl _ none) HPJ.out 2 (.slice za zk.length zc) rfl
                have f28 := ownsRow_free ho8 (j * 4 + 2)
                have q9 := OwnX.set txC_sz ho8 HPJ.out (q := ((z1, z2, z3), (a8, c8), zk ++ [n])) 2 (.slice a8 (zk ++ [n]).length c8) (by omega) rfl
                have d09 := RdR.cell (c := txC) (l := L.set j ((z1, z2, z3), (a8, c8), zk ++ [n])) txC_sz (by have h9 := Rd.of_owns q9; unfold RdR; rw [List.length_set]; exact h9) (G.refl _ none) (List.getElem?_set_self jl) 0 (.string z1) rfl
                simp only [List.length_append, List.length_cons, List.length_nil, Nat.add_zero, Nat.zero_add] at d08 c28 d09
                refine hK.out _ _ ?_ (fun hHeld => ?_)
                · exact ⟨d08, trivial⟩
                clear hK K
                try simp only [Act.put, List.setIfInBounds_toArray, List.set_cons_zero, List.set_cons_succ]
                refine wpAnyH_take (i := 10) (oi := { dst := some 70, op := Op.nilCheck (Operand.tmp 60), type := 0, pos := _, after := #[{ on := 0, ground := Ground.data }, { on := 0, ground := Ground.phase }, { on := 1, ground := Ground.phase }, { on := 2, ground := Ground.phase }, { on := 3, ground := Ground.phase }, { on := 4, ground := Ground.phase }, { on := 5, ground := Ground.phase }, { on := 6, ground := Ground.phase }, { on := 7, ground := Ground.phase }, { on := 8, ground := Ground.phase }, { on := 9, ground := Ground.phase }], guard := none }) (v := ?_) rfl (by kernel_rfl) (by kernel_rfl) (by kernel_rfl) (fun _ _ _ h => h) (Or.inl ⟨by rfl, ?_⟩) (by assumption) ?_
                rotate_left
                · (intro w hSw; obtain ⟨s0, s1⟩ := hSw; (go_simp <;> with_reducible rfl))
                try simp only [Act.put, List.setIfInBounds_toArray, List.set_cons_zero, List.set_cons_succ]
                refine wpAnyH_take (i := 11) (oi := { dst := some 71, op := Op.fieldAddr 52 (Operand.tmp 70) 2, type := 0, pos := _, after := #[{ on := 10, ground := Ground.data }, { on := 0, ground := Ground.phase }, { on := 1, ground := Ground.phase }, { on := 2, ground := Ground.phase }, { on := 3, ground := Ground.phase }, { on := 4, ground := Ground.phase }, { on := 5, ground := Ground.phase }, { on := 6, ground := Ground.phase }, { on := 7, ground := Ground.phase }, { on := 8, ground := Ground.phase }, { on := 9, ground := Ground.phase }], guard := none }) (v := ?_) rfl (by kernel_rfl) (by kernel_rfl) (by kernel_rfl) (fun _ _ _ h => h) (Or.inl ⟨by rfl, ?_⟩) (by assumption) ?_
                rotate_left
                · (intro w hSw; obtain ⟨s0, s1⟩ := hSw; (go_simp <;> with_reducible rfl))
                try simp only [Act.put, List.setIfInBounds_toArray, List.set_cons_zero, List.set_cons_succ]
                refine wpAnyH_ready (rs := [12]) (by kernel_rfl) (by simp) ?_
                refine (AllReadyH.cons (o := { dst := none, op := Op.store 22 (Operand.tmp 71) (Operand.tmp 69), type := 0, pos := _, after := #[{ on := 11, ground := Ground.data }, { on := 9, ground := Ground.data }, { on := 9, ground := Ground.chain }, { on := 0, ground := Ground.phase }, { on := 1, ground := Ground.phase }, { on := 2, ground := Ground.phase }, { on := 3, ground := Ground.phase }, { on := 4, ground := Ground.phase }, { on := 5, ground := Ground.phase }, { on := 6, ground := Ground.phase }, { on := 7, ground := Ground.phase }, { on := 8, ground := Ground.phase }, { on := 9, ground := Ground.phase }], guard := none }) rfl (fun K hK => ?_) AllReadyH.nil)
                go_simp
                refine hK.out _ _ ?_ (fun hHeld => ?_)
                · exact ⟨d09, trivial⟩
                clear hK K
                try simp only [Act.put, List.setIfInBounds_toArray, List.set_cons_zero, List.set_cons_succ]
                refine wpAnyH_done (by kernel_rfl) ?_ _
                have HQ9 := Lib.hid q9
                have hlow := OwnX.low (how6 _ HPM.out)
                have hgsb : some g ≠ (Value.slice za zk.length zc).ownBlock := fun e => by
                  rcases OwnX.two9 hoA hkA (by decide) with q | q
                  · cases q
                  · exact q e
                clear q9 d0 d0a c2 c2a c2b c2c d06 d06a c26 c26a d08 c28 f28 d09
                go_wp2_with fail
                go_ret
                refine TxPost.mk (L := L.set j ((z1, z2, z3), (a8, c8), zk ++ [n])) (by have h9 := HQ9.out; rw [List.length_append] at h9; unfold OwnX; rw [List.length_set]; exact h9) (fun x hx => ?_) (fun x hx => ?_) (by rw [List.length_set]; exact hl3) ((((hSB6.alloc _).own hgrow (fun r e => Nat.lt_of_lt_of_le hsw (hlow r e))).setCell (p := ⟨g, j * 4 + 2, none⟩) hgsg _).le (by omega)) (((hG6.alloc _).other hgrow (fun r e => .inl (hlow r e))).setCell (p := ⟨g, j * 4 + 2, none⟩) (.inl hgs) _)
                · obtain ⟨i, hi⟩ := List.getElem?_of_mem hx
                  by_cases hij : i = j
                  · subst hij
                    rw [List.getElem?_set_self jl] at hi
                    obtain rfl := Option.some.inj hi
                    exact World.ownsRow.kept hown8 (grownBy_setCell_row _ ⟨g, i * 4 + 2, none⟩ _) (OwnX.two9 hown8 ho8 (by decide))
                  · rw [List.getElem?_set_ne (fun e => hij e.symm)] at hi
                    have hx6 := how6 x (List.mem_of_getElem? hi)
                    have hx8 : OwnX 3 1 tnC w8 w.heap.size (txV x) x.2.2 := World.ownsRow.kept (OwnX.alloc hx6 _) hgrow (TxAp.ne HAP.out hi HPJ.out hij)
                    exact World.ownsRow.kept hx8 (grownBy_setCell_row _ ⟨g, j * 4 + 2, none⟩ _) (OwnX.two9 hx8 ho8 (by decide))
                · rcases List.mem_or_eq_of_mem_set hx with hx | rfl
                  · exact HS6.out x hx
                  · exact ⟨HPG.out.1, by have := HPG.out.2; simp only [List.length_append, List.length_cons, List.length_nil]; omega⟩
              · go_simp
                refine (pick_c _ _ _ [0, 5, 6, 7, 1] _ _ _ (hSBd.alloc _) (by omega) (by decide) (by decide) (Rd.newAt _ rfl rfl (by decide)) (hSBd.newAt _ _ _ (Nat.le_refl _))).mono ?_
                rintro e w6 ⟨n, rfl, -, hSB6, hh⟩
                have ho6 := OwnX.kept (OwnX.alloc (OwnX.drew HOL.out) (.cells #[.int .i64 0, .int .i64 5, .int .i64 6, .int .i64 7, .int .i64 1] 3)) hh hsw
                have how6 : TxOw w6 w.heap.size L := (fun x hx => OwnX.kept (OwnX.alloc (OwnX.drew (HOW.out x hx)) (.cells #[.int .i64 0, .int .i64 5, .int .i64 6, .int .i64 7, .int .i64 1] 3)) hh hsw)
                have hG6 := (hGd.alloc (.cells #[.int .i64 0, .int .i64 5, .int .i64 6, .int .i64 7, .int .i64 1] 3)).trans hh
                have d06 := RdR.cell txC_sz (Rd.of_owns ho6) (G.refl _ none) HPJ.out 0 (.string z1) rfl
                have d06a := RdR.cell txC_sz (Rd.of_owns (OwnX.alloc ho6 (.cells #[.int .i64 n] 3))) (G.refl _ none) HPJ.out 0 (.string z1) rfl
                have c26 := RdR.cell txC_sz (Rd.of_owns ho6) (G.refl _ none) HPJ.out 2 (.slice za zk.length zc) rfl
                have c26a := RdR.cell txC_sz (Rd.of_owns (OwnX.alloc ho6 (.cells #[.int .i64 n] 3))) (G.refl _ none) HPJ.out 2 (.slice za zk.length zc) rfl
                have n6 : g ≠ w6.heap.size := (by have := (World.ownsRow.lt ho6 g rfl).2; omega)
                have n6' := n6.symm
                have hz6 := hG6.size
                simp only [Nat.add_zero, Nat.zero_add] at d06 d06a c26 c26a
                clear hh
                refine hK.out _ _ ?_ (fun hHeld => ?_)
                · exact ⟨d06, trivial⟩
                clear hK K
                try simp only [Act.put, List.setIfInBounds_toArray, List.set_cons_zero, List.set_cons_succ]
                refine wpAnyH_ready (rs := [4, 8]) (by kernel_rfl) (by simp) ?_
                refine (AllReadyH.cons (o := { dst := some 64, op := Op.load 22 (Operand.tmp 63), type := 22, pos := _, after := #[{ on := 3, ground := Ground.data }], guard := none }) rfl (fun K hK => ?_) (AllReadyH.cons (o := { dst := some 68, op := Op.buildSlice 22 1 #[(0, Operand.tmp 67)], type := 22, pos := _, after := #[{ on := 7, ground := Ground.data }], guard := none }) rfl (fun K hK => ?_) AllReadyH.nil))
                · go_simp
                  refine hK.out _ _ ?_ (fun hHeld => ?_)
                  · exact ⟨d06, trivial⟩
                  clear hK K
                  try simp only [Act.put, List.setIfInBounds_toArray, List.set_cons_zero, List.set_cons_succ]
                  refine wpAnyH_ready (rs := [8]) (by kernel_rfl) (by simp) ?_
                  refine (AllReadyH.cons (o := { dst := some 68, op := Op.buildSlice 22 1 #[(0, Operand.tmp 67)], type := 22, pos := _, after := #[{ on := 7, ground := Ground.data }], guard := none }) rfl (fun K hK => ?_) AllReadyH.nil)
                  go_simp
                  refine hK.out _ _ ?_ (fun hHeld => ?_)
                  · exact ⟨d06a, trivial⟩
                  clear hK K
                  try simp only [Act.put, List.setIfInBounds_toArray, List.set_cons_zero, List.set_cons_succ]
                  refine wpAnyH_ready (rs := [9]) (by kernel_rfl) (by simp) ?_
                  refine (AllReadyH.cons (o := { dst := some 69, op := Op.call { callee := Callee.builtin Builtin.append, args := #[Operand.tmp 64, Operand.tmp 68], argTypes := #[22, 22] }, type := 22, pos := _, after := #[{ on := 4, ground := Ground.data }, { on := 8, ground := Ground.data }, { on := 7, ground := Ground.chain }], guard := none }) rfl (fun K hK => ?_) AllReadyH.nil)
                  have hkA : OwnX 3 1 tnC (w6.alloc (.cells #[.int .i64 n] 3)) w.heap.size (.slice za zk.length zc) zk := (OwnX.alloc (how6 _ HPM.out) _)
                  have hoA := OwnX.alloc ho6 (.cells #[.int .i64 n] 3)
                  have hNN := Bk.new w6 3 #[.int .i64 n]
                  have hLL : zk.length ≤ 1000 := (by omega)
                  have hZZ : w.heap.size ≤ (w6.alloc (.cells #[.int .i64 n] 3)).heap.size := (by simp; omega)
                  refine st_wp rfl (wp_append_x ti_rowOk _ _ rfl w.heap.size (.slice za zk.length zc) zk rfl hkA w6.heap.size n rfl hNN hLL hZZ ?_)
                  clear hNN hLL hZZ
                  intro v8 w8 hown8 hgrow
                  obtain ⟨a8, c8, rfl, -, -⟩ := RdR.form (c := tnC) (Rd.of_owns hown8)
                  have ho8 : OwnX 52 4 txC w8 w.heap.size (.slice (some ⟨g, 0, none⟩) L.length cap) L := World.ownsRow.kept hoA hgrow (OwnX.two9 hoA hkA (by decide))
                  have d08 := RdR.cell txC_sz (Rd.of_owns ho8) (G.refl _ none) HPJ.out 0 (.string z1) rfl
                  have c28 := RdR.cell txC_sz (Rd.of_owns ho8) (G.refl _ none) HPJ.out 2 (.slice za zk.length zc) rfl
                  have f28 := ownsRow_free ho8 (j * 4 + 2)
                  have q9 := OwnX.set txC_sz ho8 HPJ.out (q := ((z1, z2, z3), (a8, c8), zk ++ [n])) 2 (.slice a8 (zk ++ [n]).length c8) (by omega) rfl
                  have d09 := RdR.cell (c := txC) (l := L.set j ((z1, z2, z3), (a8, c8), zk ++ [n])) txC_sz (by have h9 := Rd.of_owns q9; unfold RdR; rw [List.length_set]; exact h9) (G.refl _ none) (List.getElem?_set_self jl) 0 (.string z1) rfl
                  simp only [List.length_append, List.length_cons, List.length_nil, Nat.add_zero, Nat.zero_add] at d08 c28 d09
                  refine hK.out _ _ ?_ (fun hHeld => ?_)
                  · exact ⟨d08, trivial⟩
                  clear hK K
                  try simp only [Act.put, List.setIfInBounds_toArray, List.set_cons_zero, List.set_cons_succ]
                  refine wpAnyH_take (i := 10) (oi := { dst := some 70, op := Op.nilCheck (Operand.tmp 60), type := 0, pos := _, after := #[{ on := 0, ground := Ground.data }, { on := 0, ground := Ground.phase }, { on := 1, ground := Ground.phase }, { on := 2, ground := Ground.phase }, { on := 3, ground := Ground.phase }, { on := 4, ground := Ground.phase }, { on := 5, ground := Ground.phase }, { on := 6, ground := Ground.phase }, { on := 7, ground := Ground.phase }, { on := 8, ground := Ground.phase }, { on := 9, ground := Ground.phase }], guard := none }) (v := ?_) rfl (by kernel_rfl) (by kernel_rfl) (by kernel_rfl) (fun _ _ _ h => h) (Or.inl ⟨by rfl, ?_⟩) (by assumption) ?_
                  rotate_left
                  · (intro w hSw; obtain ⟨s0, s1⟩ := hSw; (go_simp <;> with_reducible rfl))
                  try simp only [Act.put, List.setIfInBounds_toArray, List.set_cons_zero, List.set_cons_succ]
                  refine wpAnyH_take (i := 11) (oi := { dst := some 71, op := Op.fieldAddr 52 (Operand.tmp 70) 2, type := 0, pos := _, after := #[{ on := 10, ground := Ground.data }, { on := 0, ground := Ground.phase }, { on := 1, ground := Ground.phase }, { on := 2, ground := Ground.phase }, { on := 3, ground := Ground.phase }, { on := 4, ground := Ground.phase }, { on := 5, ground := Ground.phase }, { on := 6, ground := Ground.phase }, { on := 7, ground := Ground.phase }, { on := 8, ground := Ground.phase }, { on := 9, ground := Ground.phase }], guard := none }) (v := ?_) rfl (by kernel_rfl) (by kernel_rfl) (by kernel_rfl) (fun _ _ _ h => h) (Or.inl ⟨by rfl, ?_⟩) (by assumption) ?_
                  rotate_left
                  · (intro w hSw; obtain ⟨s0, s1⟩ := hSw; (go_simp <;> with_reducible rfl))
                  try simp only [Act.put, List.setIfInBounds_toArray, List.set_cons_zero, List.set_cons_succ]
                  refine wpAnyH_ready (rs := [12]) (by kernel_rfl) (by simp) ?_
                  refine (AllReadyH.cons (o := { dst := none, op := Op.store 22 (Operand.tmp 71) (Operand.tmp 69), type := 0, pos := _, after := #[{ on := 11, ground := Ground.data }, { on := 9, ground := Ground.data }, { on := 9, ground := Ground.chain }, { on := 0, ground := Ground.phase }, { on := 1, ground := Ground.phase }, { on := 2, ground := Ground.phase }, { on := 3, ground := Ground.phase }, { on := 4, ground := Ground.phase }, { on := 5, ground := Ground.phase }, { on := 6, ground := Ground.phase }, { on := 7, ground := Ground.phase }, { on := 8, ground := Ground.phase }, { on := 9, ground := Ground.phase }], guard := none }) rfl (fun K hK => ?_) AllReadyH.nil)
                  go_simp
                  refine hK.out _ _ ?_ (fun hHeld => ?_)
                  · exact ⟨d09, trivial⟩
                  clear hK K
                  try simp only [Act.put, List.setIfInBounds_toArray, List.set_cons_zero, List.set_cons_succ]
                  refine wpAnyH_done (by kernel_rfl) ?_ _
                  have HQ9 := Lib.hid q9
                  have hlow := OwnX.low (how6 _ HPM.out)
                  have hgsb : some g ≠ (Value.slice za zk.length zc).ownBlock := fun e => by
                    rcases OwnX.two9 hoA hkA (by decide) with q | q
                    · cases q
                    · exact q e
                  clear q9 d0 d0a c2 c2a c2b c2c d06 d06a c26 c26a d08 c28 f28 d09
                  go_wp2_with fail
                  go_ret
                  refine TxPost.mk (L := L.set j ((z1, z2, z3), (a8, c8), zk ++ [n])) (by have h9 := HQ9.out; rw [List.length_append] at h9; unfold OwnX; rw [List.length_set]; exact h9) (fun x hx => ?_) (fun x hx => ?_) (by rw [List.length_set]; exact hl3) ((((hSB6.alloc _).own hgrow (fun r e => Nat.lt_of_lt_of_le hsw (hlow r e))).setCell (p := ⟨g, j * 4 + 2, none⟩) hgsg _).le (by omega)) (((hG6.alloc _).other hgrow (fun r e => .inl (hlow r e))).setCell (p := ⟨g, j * 4 + 2, none⟩) (.inl hgs) _)
                  · obtain ⟨i, hi⟩ := List.getElem?_of_mem hx
                    by_cases hij : i = j
                    · subst hij
                      rw [List.getElem?_set_self jl] at hi
                      obtain rfl := Option.some.inj hi
                      exact World.ownsRow.kept hown8 (grownBy_setCell_row _ ⟨g, i * 4 + 2, none⟩ _) (OwnX.two9 hown8 ho8 (by decide))
                    · rw [List.getElem?_set_ne (fun e => hij e.symm)] at hi
                      have hx6 := how6 x (List.mem_of_getElem? hi)
                      have hx8 : OwnX 3 1 tnC w8 w.heap.size (txV x) x.2.2 := World.ownsRow.kept (OwnX.alloc hx6 _) hgrow (TxAp.ne HAP.out hi HPJ.out hij)
                      exact World.ownsRow.kept hx8 (grownBy_setCell_row _ ⟨g, j * 4 + 2, none⟩ _) (OwnX.two9 hx8 ho8 (by decide))
                  · rcases List.mem_or_eq_of_mem_set hx with hx | rfl
                    · exact HS6.out x hx
                    · exact ⟨HPG.out.1, by have := HPG.out.2; simp only [List.length_append, List.length_cons, List.length_nil]; omega⟩
                · go_simp
                  refine hK.out _ _ ?_ (fun hHeld => ?_)
                  · exact ⟨d06a, trivial⟩
                  clear hK K
                  try simp only [Act.put, List.setIfInBounds_toArray, List.set_cons_zero, List.set_cons_succ]
                  refine wpAnyH_ready (rs := [4]) (by kernel_rfl) (by simp) ?_
                  refine (AllReadyH.cons (o := { dst := some 64, op := Op.load 22 (Operand.tmp 63), type := 22, pos := _, after := #[{ on := 3, ground := Ground.data }], guard := none }) rfl (fun K hK => ?_) AllReadyH.nil)
                  go_simp
                  refine hK.out _ _ ?_ (fun hHeld => ?_)
                  · exact ⟨d06a, trivial⟩
                  clear hK K
                  try simp only [Act.put, List.setIfInBounds_toArray, List.set_cons_zero, List.set_cons_succ]
                  refine wpAnyH_ready (rs := [9]) (by kernel_rfl) (by simp) ?_
                  refine (AllReadyH.cons (o := { dst := some 69, op := Op.call { callee := Callee.builtin Builtin.append, args := #[Operand.tmp 64, Operand.tmp 68], argTypes := #[22, 22] }, type := 22, pos := _, after := #[{ on := 4, ground := Ground.data }, { on := 8, ground := Ground.data }, { on := 7, ground := Ground.chain }], guard := none }) rfl (fun K hK => ?_) AllReadyH.nil)
                  have hkA : OwnX 3 1 tnC (w6.alloc (.cells #[.int .i64 n] 3)) w.heap.size (.slice za zk.length zc) zk := (OwnX.alloc (how6 _ HPM.out) _)
                  have hoA := OwnX.alloc ho6 (.cells #[.int .i64 n] 3)
                  have hNN := Bk.new w6 3 #[.int .i64 n]
                  have hLL : zk.length ≤ 1000 := (by omega)
                  have hZZ : w.heap.size ≤ (w6.alloc (.cells #[.int .i64 n] 3)).heap.size := (by simp; omega)
                  refine st_wp rfl (wp_append_x ti_rowOk _ _ rfl w.heap.size (.slice za zk.length zc) zk rfl hkA w6.heap.size n rfl hNN hLL hZZ ?_)
                  clear hNN hLL hZZ
                  intro v8 w8 hown8 hgrow
                  obtain ⟨a8, c8, rfl, -, -⟩ := RdR.form (c := tnC) (Rd.of_owns hown8)
                  have ho8 : OwnX 52 4 txC w8 w.heap.size (.slice (some ⟨g, 0, none⟩) L.length cap) L := World.ownsRow.kept hoA hgrow (OwnX.two9 hoA hkA (by decide))
                  have d08 := RdR.cell txC_sz (Rd.of_owns ho8) (G.refl _ none) HPJ.out 0 (.string z1) rfl
                  have c28 := RdR.cell txC_sz (Rd.of_owns ho8) (G.refl _ none) HPJ.out 2 (.slice za zk.length zc) rfl
                  have f28 := ownsRow_free ho8 (j * 4 + 2)
                  have q9 := OwnX.set txC_sz ho8 HPJ.out (q := ((z1, z2, z3), (a8, c8), zk ++ [n])) 2 (.slice a8 (zk ++ [n]).length c8) (by omega) rfl
                  have d09 := RdR.cell (c := txC) (l := L.set j ((z1, z2, z3), (a8, c8), zk ++ [n])) txC_sz (by have h9 := Rd.of_owns q9; unfold RdR; rw [List.length_set]; exact h9) (G.refl _ none) (List.getElem?_set_self jl) 0 (.string z1) rfl
                  simp only [List.length_append, List.length_cons, List.length_nil, Nat.add_zero, Nat.zero_add] at d08 c28 d09
                  refine hK.out _ _ ?_ (fun hHeld => ?_)
                  · exact ⟨d08, trivial⟩
                  clear hK K
                  try simp only [Act.put, List.setIfInBounds_toArray, List.set_cons_zero, List.set_cons_succ]
                  refine wpAnyH_take (i := 10) (oi := { dst := some 70, op := Op.nilCheck (Operand.tmp 60), type := 0, pos := _, after := #[{ on := 0, ground := Ground.data }, { on := 0, ground := Ground.phase }, { on := 1, ground := Ground.phase }, { on := 2, ground := Ground.phase }, { on := 3, ground := Ground.phase }, { on := 4, ground := Ground.phase }, { on := 5, ground := Ground.phase }, { on := 6, ground := Ground.phase }, { on := 7, ground := Ground.phase }, { on := 8, ground := Ground.phase }, { on := 9, ground := Ground.phase }], guard := none }) (v := ?_) rfl (by kernel_rfl) (by kernel_rfl) (by kernel_rfl) (fun _ _ _ h => h) (Or.inl ⟨by rfl, ?_⟩) (by assumption) ?_
                  rotate_left
                  · (intro w hSw; obtain ⟨s0, s1⟩ := hSw; (go_simp <;> with_reducible rfl))
                  try simp only [Act.put, List.setIfInBounds_toArray, List.set_cons_zero, List.set_cons_succ]
                  refine wpAnyH_take (i := 11) (oi := { dst := some 71, op := Op.fieldAddr 52 (Operand.tmp 70) 2, type := 0, pos := _, after := #[{ on := 10, ground := Ground.data }, { on := 0, ground := Ground.phase }, { on := 1, ground := Ground.phase }, { on := 2, ground := Ground.phase }, { on := 3, ground := Ground.phase }, { on := 4, ground := Ground.phase }, { on := 5, ground := Ground.phase }, { on := 6, ground := Ground.phase }, { on := 7, ground := Ground.phase }, { on := 8, ground := Ground.phase }, { on := 9, ground := Ground.phase }], guard := none }) (v := ?_) rfl (by kernel_rfl) (by kernel_rfl) (by kernel_rfl) (fun _ _ _ h => h) (Or.inl ⟨by rfl, ?_⟩) (by assumption) ?_
                  rotate_left
                  · (intro w hSw; obtain ⟨s0, s1⟩ := hSw; (go_simp <;> with_reducible rfl))
                  try simp only [Act.put, List.setIfInBounds_toArray, List.set_cons_zero, List.set_cons_succ]
                  refine wpAnyH_ready (rs := [12]) (by kernel_rfl) (by simp) ?_
                  refine (AllReadyH.cons (o := { dst := none, op := Op.store 22 (Operand.tmp 71) (Operand.tmp 69), type := 0, pos := _, after := #[{ on := 11, ground := Ground.data }, { on := 9, ground := Ground.data }, { on := 9, ground := Ground.chain }, { on := 0, ground := Ground.phase }, { on := 1, ground := Ground.phase }, { on := 2, ground := Ground.phase }, { on := 3, ground := Ground.phase }, { on := 4, ground := Ground.phase }, { on := 5, ground := Ground.phase }, { on := 6, ground := Ground.phase }, { on := 7, ground := Ground.phase }, { on := 8, ground := Ground.phase }, { on := 9, ground := Ground.phase }], guard := none }) rfl (fun K hK => ?_) AllReadyH.nil)
                  go_simp
                  refine hK.out _ _ ?_ (fun hHeld => ?_)
                  · exact ⟨d09, trivial⟩
                  clear hK K
                  try simp only [Act.put, List.setIfInBounds_toArray, List.set_cons_zero, List.set_cons_succ]
                  refine wpAnyH_done (by kernel_rfl) ?_ _
                  have HQ9 := Lib.hid q9
                  have hlow := OwnX.low (how6 _ HPM.out)
                  have hgsb : some g ≠ (Value.slice za zk.length zc).ownBlock := fun e => by
                    rcases OwnX.two9 hoA hkA (by decide) with q | q
                    · cases q
                    · exact q e
                  clear q9 d0 d0a c2 c2a c2b c2c d06 d06a c26 c26a d08 c28 f28 d09
                  go_wp2_with fail
                  go_ret
                  refine TxPost.mk (L := L.set j ((z1, z2, z3), (a8, c8), zk ++ [n])) (by have h9 := HQ9.out; rw [List.length_append] at h9; unfold OwnX; rw [List.length_set]; exact h9) (fun x hx => ?_) (fun x hx => ?_) (by rw [List.length_set]; exact hl3) ((((hSB6.alloc _).own hgrow (fun r e => Nat.lt_of_lt_of_le hsw (hlow r e))).setCell (p := ⟨g, j * 4 + 2, none⟩) hgsg _).le (by omega)) (((hG6.alloc _).other hgrow (fun r e => .inl (hlow r e))).setCell (p := ⟨g, j * 4 + 2, none⟩) (.inl hgs) _)
                  · obtain ⟨i, hi⟩ := List.getElem?_of_mem hx
                    by_cases hij : i = j
                    · subst hij
                      rw [List.getElem?_set_self jl] at hi
                      obtain rfl := Option.some.inj hi
                      exact World.ownsRow.kept hown8 (grownBy_setCell_row _ ⟨g, i * 4 + 2, none⟩ _) (OwnX.two9 hown8 ho8 (by decide))
                    · rw [List.getElem?_set_ne (fun e => hij e.symm)] at hi
                      have hx6 := how6 x (List.mem_of_getElem? hi)
                      have hx8 : OwnX 3 1 tnC w8 w.heap.size (txV x) x.2.2 := World.ownsRow.kept (OwnX.alloc hx6 _) hgrow (TxAp.ne HAP.out hi HPJ.out hij)
                      exact World.ownsRow.kept hx8 (grownBy_setCell_row _ ⟨g, j * 4 + 2, none⟩ _) (OwnX.two9 hx8 ho8 (by decide))
                  · rcases List.mem_or_eq_of_mem_set hx with hx | rfl
                    · exact HS6.out x hx
                    · exact ⟨HPG.out.1, by have := HPG.out.2; simp only [List.length_append, List.length_cons, List.length_nil]; omega⟩
end Go.Proofs.YtkgkbjijiapcpaaDoor

/- Taxes: rounding, what a list has, sums. Written by gentxl.py. -/
namespace Go.Proofs.YtkgkbjijiapcpaaDoor
open Go.RowKit

theorem tdiv_floor (R b : Int) (hb : 0 < b) : (R.tmod b < 0 ∧ R / b = R.tdiv b - 1) ∨ (¬ R.tmod b < 0 ∧ R / b = R.tdiv b) := by
  have h1 := Int.tdiv_eq_ediv (a := R) (b := b)
  have h2 := Int.tmod_def R b
  have h3 := Int.emod_def R b
  have h4 := Int.emod_nonneg R (show b ≠ 0 by omega)
  have h5 := Int.emod_lt_of_pos R hb
  have hs : Int.sign b = 1 := Int.sign_eq_one_of_pos hb
  rw [hs] at h1
  split at h1
  · rename_i hc
    have e : R.tdiv b = R / b := by omega
    rw [e] at h2
    exact .inr ⟨by omega, by omega⟩
  · rename_i hc
    have e : R.tdiv b = R / b + 1 := by omega
    rw [e, Int.mul_add, Int.mul_one] at h2
    exact .inl ⟨by omega, by omega⟩
set_option maxRecDepth 100000 in
set_option maxHeartbeats 4000000 in
theorem partOf_c (n p : Int) (w : World) (hb : -400000000000000 ≤ n * p ∧ n * p ≤ 400000000000000) : Calls Tryd.prog 44 #[.int .i64 n, .int .i64 p] w fun e w' => e = .returned (.int .i64 (prt n p)) ∧ w = w' := by
  obtain ⟨m, hm⟩ : ∃ m, n * p = m := ⟨_, rfl⟩
  rw [hm] at hb
  obtain ⟨b0, b1⟩ := hb
  have hw : IntKind.i64.wrap (n * p) = m := by rw [hm, IntKind.wrap_i64]; omega
  have hwp : IntKind.i64.wrap m = m := by rw [IntKind.wrap_i64]; omega
  obtain ⟨q, hq⟩ : ∃ q, (m + 500).tdiv 1000 = q := ⟨_, rfl⟩
  obtain ⟨r, hr⟩ : ∃ r, (m + 500).tmod 1000 = r := ⟨_, rfl⟩
  have hf := tdiv_floor (m + 500) 1000 (by omega)
  rw [hq, hr] at hf
  have hqb : -1000000000000 ≤ q ∧ q ≤ 1000000000000 := by rcases hf with ⟨-, h⟩ | ⟨-, h⟩ <;> omega
  obtain ⟨q0, q1⟩ := hqb
  have hqw : IntKind.i64.wrap q = q := by rw [IntKind.wrap_i64]; omega
  have HP : Hid (prt n p = (m + 500) / 1000) := Lib.hid (by rw [← hm]; rfl)
  rcases hf with ⟨hlt, h⟩ | ⟨hlt, h⟩
  · have HF : Hid (prt n p = q - 1) := Lib.hid (by rw [HP.out, h])
    clear HP h hm
    go_enter Tryd.func44, Tryd.ntmps44
    go_wp2_with fail
    go_ret
    exact ⟨ret_int HF.out.symm, rfl⟩
  · have HF : Hid (prt n p = q) := Lib.hid (by rw [HP.out, h])
    clear HP h hm
    go_enter Tryd.func44, Tryd.ntmps44
    go_wp2_with fail
    go_ret
    exact ⟨ret_int HF.out.symm, rfl⟩
set_option maxRecDepth 100000 in
set_option maxHeartbeats 4000000 in
theorem floorT_c (a : Int) (w : World) (hb : -1000000000000000 ≤ a ∧ a ≤ 1000000000000000) : Calls Tryd.prog 42 #[.int .i64 a, .int .i64 2000] w fun e w' => e = .returned (.int .i64 (a / 2000)) ∧ w = w' := by
  obtain ⟨b0, b1⟩ := hb
  obtain ⟨q, hq⟩ : ∃ q, a.tdiv 2000 = q := ⟨_, rfl⟩
  have hf := tdiv_floor a 2000 (by omega)
  have h2 := Int.tmod_def a 2000
  rw [hq] at hf h2
  have hqb : -1000000000000 ≤ q ∧ q ≤ 1000000000000 := by rcases hf with ⟨-, h⟩ | ⟨-, h⟩ <;> omega
  obtain ⟨q0, q1⟩ := hqb
  have hqw : IntKind.i64.wrap q = q := by rw [IntKind.wrap_i64]; omega
  rcases hf with ⟨hlt, h⟩ | ⟨hlt, h⟩
  · have hgt : a < q * 2000 := by omega
    have HF := Lib.hid h
    clear h hlt h2
    go_enter Tryd.func42, Tryd.ntmps42
    go_wp2_with fail
    go_ret
    exact ⟨ret_int HF.out.symm, rfl⟩
  · have hgt : ¬ a < q * 2000 := by omega
    have HF := Lib.hid h
    clear h hlt h2
    go_enter Tryd.func42, Tryd.ntmps42
    go_wp2_with fail
    go_ret
    exact ⟨ret_int HF.out.symm, rfl⟩
def inB5 (n m : Int) : Bool := decide (m = n)
def inAt (n : Int) (l : List Int) : Int := ixP (inB5 n) l 0
def InxRel (l : List Int) (n : Int) (w : World) (i : Value) (wr : World) : Prop :=
  ∃ k : Nat, k ≤ l.length ∧ i = .int .i64 k ∧ inAt n l = ixP (inB5 n) (l.drop k) k ∧ w = wr
set_option maxRecDepth 100000 in
set_option maxHeartbeats 4000000 in
theorem inIx_c (v : Value) (l : List Int) (n : Int) (w : World) (hr : RdT w v l) (hn : l.length ≤ 1000) :
    Calls Tryd.prog 53 #[v, .int .i64 n] w fun e w' => e = .returned (.int .i64 (inAt n l)) ∧ w = w' := by
  have HR := Lib.hid hr
  obtain ⟨a, cap, rfl, hcap, hm⟩ := RdR.form hr
  clear hr
  go_enter Tryd.func53, Tryd.ntmps53
  go_wp2_with fail
  go_loopw [8] (InxRel l n w) (fun i _ => l.length - (intOf i).toNat)
  case atStart => exact ⟨0, by omega, rfl, rfl, rfl⟩
  case round =>
    obtain ⟨k, hk, rfl, heq, rfl⟩ := hrel
    have HE := Lib.hid heq
    clear heq
    by_cases hlt : k < l.length
    · obtain ⟨m, hp⟩ : ∃ p, l[k]? = some p := ⟨_, List.getElem?_eq_getElem hlt⟩
      have HD : Hid (inAt n l = if inB5 n m = true then (k : Int) else ixP (inB5 n) (l.drop (k + 1)) ((k : Int) + 1)) := Lib.hid (by
        rw [HE.out, List.drop_eq_getElem_cons hlt, (List.getElem?_eq_some_iff.1 hp).2]; rfl)
      obtain ⟨bb, bo, rfl, -, -⟩ := RdR.elem tnC_sz HR.out (G.refl w none) hp
      have d0 := RdR.cell tnC_sz HR.out (G.refl w none) hp 0 (.int .i64 m) rfl
      simp only [Nat.mul_one, Nat.add_zero] at d0
      have HK := Lib.hid hlt
      clear hp
      by_cases he : m = n
      · have HF2 : Hid (inAt n l = k) := Lib.hid (by rw [HD.out, if_pos (by simp [inB5, he])])
        have hq : (n == m) = true := by simp [he]
        clear he
        go_wp2_with fail
        go_ret
        exact ⟨ret_int HF2.out.symm, rfl⟩
      · have HF2 : Hid (inAt n l = ixP (inB5 n) (l.drop (k + 1)) ((k + 1 : Nat) : Int)) := Lib.hid (by rw [HD.out, if_neg (by simp [inB5, he])]; rfl)
        have hq : (n == m) = false := beq_eq_false_iff_ne.2 (fun e => he e.symm)
        clear he
        go_wp2_with fail
        go_roundw
        case rel => exact ⟨k + 1, by omega, by go_num, HF2.out, rfl⟩
        case measure => have := HK.out; simp [intOf]; omega
    · obtain rfl : k = l.length := by omega
      have HF2 : Hid (inAt n l = -1) := Lib.hid (by rw [HE.out, List.drop_length]; rfl)
      go_wp2_with fail
      go_ret
      exact ⟨ret_int HF2.out.symm, rfl⟩
set_option maxRecDepth 100000 in
set_option maxHeartbeats 4000000 in
theorem inHas_c (v : Value) (l : List Int) (n : Int) (w : World) (hr : RdT w v l) (hn : l.length ≤ 1000) :
    Calls Tryd.prog 41 #[v, .int .i64 n] w fun e w' => e = .returned (.bool (decide (n ∈ l))) ∧ w = w' := by
  have hs := ixP_spec (inB5 n) l 0
  have HI := Lib.hid (inIx_c v l n w hr hn)
  have hany : l.any (inB5 n) = decide (n ∈ l) := by
    rw [Bool.eq_iff_iff, List.any_eq_true]
    simp [inB5]
  rw [← hany]
  obtain ⟨a, cap, rfl, hcap, hm⟩ := RdR.form hr
  clear hr hany
  have hI : inAt n l = ixP (inB5 n) l ((0 : Nat) : Int) := rfl
  go_enter Tryd.func41, Tryd.ntmps41
  go_wp2_with fail
  refine HI.out.mono ?_; rintro e w1 ⟨rfl, rfl⟩
  rw [hI]
  clear hI HI
  rcases hs with ⟨h1, h2⟩ | ⟨i, p, h1, h2, h3⟩
  · rw [h1]
    have HF := Lib.hid h2
    clear h1 h2
    go_wp2_with fail
    go_ret
    exact ⟨ret_bool HF.out.symm, rfl⟩
  · have HF := Lib.hid (any_of_at (inB5 n) l i p h2 h3)
    rw [h1]
    clear h1 h2 h3
    have h0 : (0 : Int) ≤ ((0 + i : Nat) : Int) := by omega
    go_wp2_with fail
    go_ret
    exact ⟨ret_bool HF.out.symm, rfl⟩
def isTx (y : Li) : Bool := decide (y.1 = 5)
set_option maxRecDepth 100000 in
set_option maxHeartbeats 4000000 in
theorem isTax_c (x : Li) (w : World) : Calls Tryd.prog 26 #[.agg (liC x)] w fun e w' => e = .returned (.bool (isTx x)) ∧ G w w' none := by
  show Calls Tryd.prog 26 #[.agg #[.int .i64 x.1, .string x.2.1, .int .i64 x.2.2]] w _
  have hA := Bk.new w 40 #[.int .i64 x.1, .string x.2.1, .int .i64 x.2.2]
  have hG := (G.refl w none).alloc (.cells #[.int .i64 x.1, .string x.2.1, .int .i64 x.2.2] 40)
  have HQ : Hid (isTx x = (x.1 == 5)) := Lib.hid (by by_cases e : x.1 = 5 <;> simp [isTx, e])
  go_enter Tryd.func26, Tryd.ntmps26
  go_upto_region 1 with fail
  generalize w.alloc (.cells #[.int .i64 x.1, .string x.2.1, .int .i64 x.2.2] 40) = w2 at hA hG ⊢
  have c0 : w2.cell? ⟨w.heap.size, 0, none⟩ = some (.int .i64 x.1) := hA.cell 0
  go_wp2_with fail
  go_ret
  exact ⟨by rw [HQ.out]; rfl, hG⟩
set_option maxRecDepth 100000 in
set_option maxHeartbeats 4000000 in
theorem isTaxL_c (x : Li) (w : World) : Calls Tryd.prog 14 #[.agg (liC x)] w fun e w' => e = .returned (.bool (isTx x)) ∧ G w w' none := by
  show Calls Tryd.prog 14 #[.agg #[.int .i64 x.1, .string x.2.1, .int .i64 x.2.2]] w _
  have hA := Bk.new w 40 #[.int .i64 x.1, .string x.2.1, .int .i64 x.2.2]
  have hG := (G.refl w none).alloc (.cells #[.int .i64 x.1, .string x.2.1, .int .i64 x.2.2] 40)
  have HQ : Hid (isTx x = (x.1 == 5)) := Lib.hid (by by_cases e : x.1 = 5 <;> simp [isTx, e])
  go_enter Tryd.func14, Tryd.ntmps14
  go_upto_region 1 with fail
  generalize w.alloc (.cells #[.int .i64 x.1, .string x.2.1, .int .i64 x.2.2] 40) = w2 at hA hG ⊢
  have c0 : w2.cell? ⟨w.heap.size, 0, none⟩ = some (.int .i64 x.1) := hA.cell 0
  go_wp2_with fail
  go_ret
  exact ⟨by rw [HQ.out]; rfl, hG⟩
def ltAt (l : List Li) : Int := ixP isTx l 0
def LtiRel (w : World) (l : List Li) (i : Value) (wr : World) : Prop :=
  ∃ k : Nat, k ≤ l.length ∧ i = .int .i64 k ∧ ltAt l = ixP (isTx) (l.drop k) k ∧ G w wr none
set_option maxRecDepth 100000 in
set_option maxHeartbeats 4000000 in
theorem ltIx_c (F : FuncId) (hcf : ∀ (args : Array Value) (w : World), (callFunc F args).run Tryd.prog w = .ok (.enter F args) w) (u : Value) (l : List Li) (w : World)
    (hF : ∀ (x : Li) (w' : World), G w w' none → Calls Tryd.prog F #[.agg (liC x)] w' fun e w'' => e = .returned (.bool (isTx x)) ∧ G w' w'' none) (hr : RdR w 3 liC u l) (hn : l.length ≤ 1000) :
    Calls Tryd.prog 38 #[u, .func (.func F) #[] #[]] w fun e w' => e = .returned (.int .i64 (ltAt l)) ∧ G w w' none := by
  have HR := Lib.hid hr
  have HF := Lib.hid hF
  obtain ⟨a, cap, rfl, hcap, hm⟩ := RdR.form hr
  clear hr hF
  go_enter Tryd.func38, Tryd.ntmps38
  go_wp2_with fail
  go_loopw [8] (LtiRel w l) (fun i _ => l.length - (intOf i).toNat)
  case atStart => exact ⟨0, by omega, rfl, rfl, G.refl _ _⟩
  case round =>
    obtain ⟨k, hk, rfl, heq, hG⟩ := hrel
    have HE := Lib.hid heq
    clear heq
    by_cases hlt : k < l.length
    · obtain ⟨x, hp⟩ : ∃ p, l[k]? = some p := ⟨_, List.getElem?_eq_getElem hlt⟩
      have HD : Hid (ltAt l = if isTx x = true then (k : Int) else ixP (isTx) (l.drop (k + 1)) ((k : Int) + 1)) := Lib.hid (by
        rw [HE.out, List.drop_eq_getElem_cons hlt, (List.getElem?_eq_some_iff.1 hp).2]; rfl)
      obtain ⟨bb, bo, rfl, -, -⟩ := RdR.elem liC_sz HR.out hG hp
      have HW := Lib.hid (liRow HR.out hG hp)
      have HK := Lib.hid hlt
      clear hp
      go_wp2_with (refine wpList_load_at rfl 40 _ rfl ⟨bb, bo + k * 3, none⟩ rfl #[.int .i64 x.1, .string x.2.1, .int .i64 x.2.2] _ HW.out Tryd.underlying40 rfl (li_info x) ?_)
      refine (HF.out x _ hG).mono ?_; rintro e w1 ⟨rfl, hG1⟩
      cases he : isTx x with
      | true =>
        have HF2 : Hid (ltAt l = k) := Lib.hid (by rw [HD.out, if_pos he])
        clear he
        go_wp2_with fail
        go_ret
        exact ⟨ret_int HF2.out.symm, hG.trans hG1⟩
      | false =>
        have HF2 : Hid (ltAt l = ixP (isTx) (l.drop (k + 1)) ((k + 1 : Nat) : Int)) := Lib.hid (by rw [HD.out, if_neg (by simp [he])]; rfl)
        clear he
        go_wp2_with fail
        go_roundw
        case rel => exact ⟨k + 1, by omega, by go_num, HF2.out, hG.trans hG1⟩
        case measure => have := HK.out; simp [intOf]; omega
    · obtain rfl : k = l.length := by omega
      have HF2 : Hid (ltAt l = -1) := Lib.hid (by rw [HE.out, List.drop_length]; rfl)
      go_wp2_with fail
      go_ret
      exact ⟨ret_int HF2.out.symm, hG⟩
set_option maxRecDepth 100000 in
set_option maxHeartbeats 4000000 in
theorem ltHas_c (F : FuncId) (hcf : ∀ (args : Array Value) (w : World), (callFunc F args).run Tryd.prog w = .ok (.enter F args) w) (u : Value) (l : List Li) (w : World)
    (hF : ∀ (x : Li) (w' : World), G w w' none → Calls Tryd.prog F #[.agg (liC x)] w' fun e w'' => e = .returned (.bool (isTx x)) ∧ G w' w'' none) (hr : RdR w 3 liC u l) (hn : l.length ≤ 1000) :
    Calls Tryd.prog 13 #[u, .func (.func F) #[] #[]] w fun e w' => e = .returned (.bool (l.any (isTx))) ∧ G w w' none := by
  have hs := ixP_spec (isTx) l 0
  have HI := Lib.hid (ltIx_c F hcf u l w hF hr hn)
  obtain ⟨a, cap, rfl, hcap, hm⟩ := RdR.form hr
  clear hr hF
  have hI : ltAt l = ixP (isTx) l ((0 : Nat) : Int) := rfl
  go_enter Tryd.func13, Tryd.ntmps13
  go_wp2_with fail
  refine HI.out.mono ?_; rintro e w1 ⟨rfl, hG1⟩
  rw [hI]
  clear hI HI
  rcases hs with ⟨h1, h2⟩ | ⟨i, p, h1, h2, h3⟩
  · rw [h1]
    have HF := Lib.hid h2
    clear h1 h2
    go_wp2_with fail
    go_ret
    exact ⟨ret_bool HF.out.symm, hG1⟩
  · have HF := Lib.hid (any_of_at (isTx) l i p h2 h3)
    rw [h1]
    clear h1 h2 h3
    have h0 : (0 : Int) ≤ ((0 + i : Nat) : Int) := by omega
    go_wp2_with fail
    go_ret
    exact ⟨ret_bool HF.out.symm, hG1⟩
set_option maxRecDepth 100000 in
set_option maxHeartbeats 2000000 in
theorem sumOfW_c (v : Value) (l : List Li) (w : World) (hr : RdR w 3 liC v l) (hb : LiW l) (hn : l.length ≤ 10) :
    Calls Tryd.prog 28 #[v] w fun e w' => e = .returned (.int .i64 (liS l)) ∧ G w w' none := by
  have HR := Lib.hid hr
  obtain ⟨a, cap, rfl, hcap, hm⟩ := RdR.form hr
  clear hr
  go_enter Tryd.func28, Tryd.ntmps28
  go_wp2_with fail
  go_loopw [3, 8] (LsuRel w l) (fun _ i _ => l.length - (intOf i).toNat)
  case atStart => exact ⟨0, by omega, rfl, rfl, G.refl _ _⟩
  case round =>
    obtain ⟨k, hkl, rfl, rfl, hG⟩ := hrel
    have hbk := liSW_bnd l hb k (by omega)
    by_cases hk : k < l.length
    · obtain ⟨p, hp⟩ : ∃ p, l[k]? = some p := ⟨_, List.getElem?_eq_getElem hk⟩
      have hst := liS_step l k p hp
      have hpb := hb p (List.mem_of_getElem? hp)
      obtain ⟨bb, bo, rfl, -, -⟩ := RdR.elem liC_sz HR.out hG hp
      have HW := Lib.hid (liRow HR.out hG hp)
      have HK := Lib.hid hk
      have hG5 := hG.alloc (.cells #[.int .i64 p.1, .string p.2.1, .int .i64 p.2.2] 40)
      obtain ⟨S, hS⟩ : ∃ S, liS (l.take k) = S := ⟨_, rfl⟩
      rw [hS] at hst hbk ⊢
      have HST := Lib.hid hst
      have hw : IntKind.i64.wrap (S + p.2.2) = S + p.2.2 := by rw [IntKind.wrap_i64]; omega
      clear hp hG hS hst
      go_wp2_with (refine wpList_load_at rfl 40 _ rfl ⟨bb, bo + k * 3, none⟩ rfl #[.int .i64 p.1, .string p.2.1, .int .i64 p.2.2] _ HW.out Tryd.underlying40 rfl (li_info p) ?_)
      go_roundw
      case rel => exact ⟨k + 1, by omega, by go_num, by rw [HST.out], hG5⟩
      case measure => have := HK.out; simp [intOf]; omega
    · obtain rfl : k = l.length := by omega
      have HF : Hid (liS (l.take l.length) = liS l) := Lib.hid (by rw [List.take_length])
      go_wp2_with fail
      go_ret
      exact ⟨ret_int HF.out, hG⟩
set_option maxRecDepth 100000 in
set_option maxHeartbeats 2000000 in
theorem sumOfRW_c (v : Value) (l : List Li) (w : World) (hr : RdR w 3 liC v l) (hb : LiW l) (hn : l.length ≤ 10) :
    Calls Tryd.prog 12 #[v] w fun e w' => e = .returned (.int .i64 (liS l)) ∧ G w w' none := by
  have HR := Lib.hid hr
  obtain ⟨a, cap, rfl, hcap, hm⟩ := RdR.form hr
  clear hr
  go_enter Tryd.func12, Tryd.ntmps12
  go_wp2_with fail
  go_loopw [3, 8] (LsuRel w l) (fun _ i _ => l.length - (intOf i).toNat)
  case atStart => exact ⟨0, by omega, rfl, rfl, G.refl _ _⟩
  case round =>
    obtain ⟨k, hkl, rfl, rfl, hG⟩ := hrel
    have hbk := liSW_bnd l hb k (by omega)
    by_cases hk : k < l.length
    · obtain ⟨p, hp⟩ : ∃ p, l[k]? = some p := ⟨_, List.getElem?_eq_getElem hk⟩
      have hst := liS_step l k p hp
      have hpb := hb p (List.mem_of_getElem? hp)
      obtain ⟨bb, bo, rfl, -, -⟩ := RdR.elem liC_sz HR.out hG hp
      have HW := Lib.hid (liRow HR.out hG hp)
      have HK := Lib.hid hk
      have hG5 := hG.alloc (.cells #[.int .i64 p.1, .string p.2.1, .int .i64 p.2.2] 40)
      obtain ⟨S, hS⟩ : ∃ S, liS (l.take k) = S := ⟨_, rfl⟩
      rw [hS] at hst hbk ⊢
      have HST := Lib.hid hst
      have hw : IntKind.i64.wrap (S + p.2.2) = S + p.2.2 := by rw [IntKind.wrap_i64]; omega
      clear hp hG hS hst
      go_wp2_with (refine wpList_load_at rfl 40 _ rfl ⟨bb, bo + k * 3, none⟩ rfl #[.int .i64 p.1, .string p.2.1, .int .i64 p.2.2] _ HW.out Tryd.underlying40 rfl (li_info p) ?_)
      go_roundw
      case rel => exact ⟨k + 1, by omega, by go_num, by rw [HST.out], hG5⟩
      case measure => have := HK.out; simp [intOf]; omega
    · obtain rfl : k = l.length := by omega
      have HF : Hid (liS (l.take l.length) = liS l) := Lib.hid (by rw [List.take_length])
      go_wp2_with fail
      go_ret
      exact ⟨ret_int HF.out, hG⟩
end Go.Proofs.YtkgkbjijiapcpaaDoor

/- Taxes: CheckTaxes, TaxesFault. Written by gentxb.py. -/
namespace Go.Proofs.YtkgkbjijiapcpaaDoor
open Go.RowKit

def TxRel (w : World) (L : List Tx) (i : Value) (wr : World) : Prop :=
  ∃ k : Nat, k ≤ L.length ∧ i = .int .i64 k ∧ txErr [] L = txErr (L.take k) (L.drop k) ∧ G w wr none
def OnfRel (w : World) (l : List Int) (i : Value) (wr : World) : Prop :=
  ∃ k : Nat, k ≤ l.length ∧ i = .int .i64 k ∧ onErr 0 l = onErr (onB l k) (l.drop k) ∧ G w wr none
set_option maxRecDepth 100000 in
set_option maxHeartbeats 8000000 in
theorem checkTaxes_c (v : Value) (L : List Tx) (w : World) (hr : TxR w v L) (hl : TxOk L) (hn : L.length ≤ 1000) :
    Calls Tryd.prog 10 #[v] w fun e w' => e = .returned (.int .i64 (txE L)) ∧ G w w' none := by
  obtain ⟨hr, hx⟩ := hr
  have HR := Lib.hid hr
  have HX := Lib.hid hx
  have hmf : ∀ (fn : Go.Fn) (first cap : Array Value) (w : World), (Instr.makeFunc fn first cap).run Tryd.prog w = .ok (.func fn first cap) w := fun _ _ _ _ => rfl
  obtain ⟨a, cap, rfl, hcap, hm⟩ := RdR.form hr
  clear hr hx
  obtain ⟨E, hE⟩ : ∃ E, txE L = E := ⟨_, rfl⟩
  have HEE := Lib.hid hE
  rw [hE]
  clear hE
  by_cases h30 : 10 < L.length
  · obtain rfl : E = 2 := by rw [← HEE.out]; simp [txE, h30]
    go_enter Tryd.func10, Tryd.ntmps10
    go_wp2_with fail
    go_ret
    exact ⟨rfl, G.refl _ _⟩
  · have H := Lib.hid (show E = txErr [] L by rw [← HEE.out]; simp [txE, h30])
    go_enter Tryd.func10, Tryd.ntmps10
    go_wp2_with fail
    go_loopw [12] (TxRel w L) (fun i _ => L.length - (intOf i).toNat)
    case atStart => exact ⟨0, by omega, rfl, rfl, G.refl _ _⟩
    case round =>
      obtain ⟨k, hk, rfl, heq, hG⟩ := hrel
      have HE := Lib.hid heq
      clear heq
      by_cases hlt : k < L.length
      · obtain ⟨⟨⟨kk, pm, ov⟩, ⟨ao, co⟩, ks⟩, hp⟩ : ∃ p, L[k]? = some p := ⟨_, List.getElem?_eq_getElem hlt⟩
        have hmem := List.mem_of_getElem? hp
        obtain ⟨hs1, hs6⟩ := hl _ hmem
        dsimp only at hs1 hs6
        unfold Small at hs1
        have HS : Hid (txErr (L.take k) (L.drop k) = if keyB kk = false then 5 else if (L.take k).any (txK kk) = true then 6 else if inB pm 0 1000 = false then 1 else if onErr 0 ks = 0 then txErr (L.take (k + 1)) (L.drop (k + 1)) else onErr 0 ks) := Lib.hid (by
          rw [List.drop_eq_getElem_cons hlt, (List.getElem?_eq_some_iff.1 hp).2, List.take_add_one, hp]; rfl)
        have HPR := Lib.hid (fun w' (q : G w w' none) => RdR.prefix_ txC_sz (Rd.quiet HR.out q) k hk)
        have HON : Hid (∀ w', G w w' none → RdT w' (.slice ao ks.length co) ks) := Lib.hid (fun w' (q : G w w' none) => Rd.quiet (HX.out ((kk, pm, ov), (ao, co), ks) hmem) q)
        have HLT : Hid ((L.take k).length ≤ 1000) := Lib.hid (by rw [List.length_take]; omega)
        obtain ⟨bb, bo, rfl, -, -⟩ := RdR.elem txC_sz HR.out hG hp
        have HW := Lib.hid (txRow HR.out hG hp)
        have HK := Lib.hid hlt
        have hB5 : Bk (wr.alloc (.cells #[.string kk, .int .i64 pm, .slice ao ks.length co, .bool ov] 52)) wr.heap.size 52 #[.string kk, .int .i64 pm, .slice ao ks.length co, .bool ov] := Bk.new wr 52 _
        have hG5 := hG.alloc (.cells #[.string kk, .int .i64 pm, .slice ao ks.length co, .bool ov] 52)
        have hkc : k ≤ cap := by omega
        clear hp hG hmem
        go_upto_region 6 with (refine wpList_load_at rfl 52 _ rfl ⟨bb, bo + k * 4, none⟩ rfl #[.string kk, .int .i64 pm, .slice ao ks.length co, .bool ov] _ HW.out Tryd.underlying52 rfl (tx_info ((kk, pm, ov), (ao, co), ks)) ?_)
        clear HW
        generalize wr.alloc (.cells #[.string kk, .int .i64 pm, .slice ao ks.length co, .bool ov] 52) = w5 at hB5 hG5 ⊢
        generalize wr.heap.size = g at hB5 ⊢
        have c0 : w5.cell? ⟨g, 0, none⟩ = some (.string kk) := hB5.cell 0
        have c1 : w5.cell? ⟨g, 1, none⟩ = some (.int .i64 pm) := hB5.cell 1
        have c2 : w5.cell? ⟨g, 2, none⟩ = some (.slice ao ks.length co) := hB5.cell 2
        go_wp2_with fail
        refine (isKey_c _ _ hs1).mono ?_; rintro e w6 ⟨rfl, rfl⟩
        have hB6 := hB5
        have hG6 := hG5
        clear hB5 hG5 c0 c1 c2
        have c0 : w5.cell? ⟨g, 0, none⟩ = some (.string kk) := hB6.cell 0
        cases k0 : keyB kk with
        | false =>
          obtain rfl : E = 5 := by rw [H.out, HE.out, HS.out, if_pos k0]
          clear k0
          go_wp2_with fail
          go_ret
          exact ⟨rfl, hG6⟩
        | true =>
          have HS2 : Hid (txErr (L.take k) (L.drop k) = if (L.take k).any (txK kk) = true then 6 else if inB pm 0 1000 = false then 1 else if onErr 0 ks = 0 then txErr (L.take (k + 1)) (L.drop (k + 1)) else onErr 0 ks) := Lib.hid (by rw [HS.out, if_neg (by simp [k0])])
          have HB6 := Lib.hid hB6
          clear k0 HS hB6
          go_wp2_with fail
          refine (txHas_c 33 (fun _ _ => rfl) _ (L.take k) kk g _ (fun o w' q => keyIs_c o ((kk, pm, ov), (ao, co), ks) g w' (HB6.out.quiet q)) (HPR.out _ hG6) HLT.out).mono ?_; rintro e w7 ⟨rfl, hh⟩
          have hB7 := HB6.out.quiet hh
          have hG7 := hG6.trans hh
          clear hh hG6 c0 HB6
          have c1 : w7.cell? ⟨g, 1, none⟩ = some (.int .i64 pm) := hB7.cell 1
          have c2 : w7.cell? ⟨g, 2, none⟩ = some (.slice ao ks.length co) := hB7.cell 2
          cases k1 : (L.take k).any (txK kk) with
          | true =>
            obtain rfl : E = 6 := by rw [H.out, HE.out, HS2.out, if_pos k1]
            clear k1
            go_wp2_with fail
            go_ret
            exact ⟨rfl, hG7⟩
          | false =>
            have HS3 : Hid (txErr (L.take k) (L.drop k) = if inB pm 0 1000 = false then 1 else if onErr 0 ks = 0 then txErr (L.take (k + 1)) (L.drop (k + 1)) else onErr 0 ks) := Lib.hid (by rw [HS2.out, if_neg (by simp [k1])])
            clear k1 HS2
            go_wp2_with fail
            refine (within_c pm 0 1000 _).mono ?_; rintro e w' ⟨rfl, rfl⟩
            cases k2 : inB pm 0 1000 with
            | false =>
              obtain rfl : E = 1 := by rw [H.out, HE.out, HS3.out, if_pos k2]
              clear k2
              go_wp2_with fail
              go_ret
              exact ⟨rfl, hG7⟩
            | true =>
              have HS4 : Hid (txErr (L.take k) (L.drop k) = if onErr 0 ks = 0 then txErr (L.take (k + 1)) (L.drop (k + 1)) else onErr 0 ks) := Lib.hid (by rw [HS3.out, if_neg (by simp [k2])])
              clear k2 HS3
              go_wp2_with fail
              refine (checkOn_c _ ks _ (HON.out _ hG7) (by omega)).mono ?_; rintro e w8 ⟨rfl, hh⟩
              have hG8 := hG7.trans hh
              clear hh hG7 c1 c2 hB7
              by_cases k3 : onErr 0 ks = 0
              · have HF : Hid (txErr [] L = txErr (L.take (k + 1)) (L.drop (k + 1))) := Lib.hid (by rw [HE.out, HS4.out, if_pos k3])
                rw [k3]
                clear k3
                go_wp2_with fail
                go_roundw
                case rel => exact ⟨k + 1, (by have := HK.out; omega), by go_num, HF.out, hG8⟩
                case measure => have := HK.out; simp [intOf]; omega
              · obtain rfl : E = onErr 0 ks := by rw [H.out, HE.out, HS4.out, if_neg k3]
                have hb : (onErr 0 ks != 0) = true := bne_iff_ne.2 k3
                clear k3
                go_wp2_with fail
                go_ret
                exact ⟨rfl, hG8⟩
      · obtain rfl : k = L.length := by omega
        obtain rfl : E = 0 := by rw [H.out, HE.out, List.drop_length]; rfl
        go_wp2_with fail
        go_ret
        exact ⟨rfl, hG⟩
set_option maxRecDepth 100000 in
set_option maxHeartbeats 8000000 in
theorem taxesFault_c (v : Value) (L : List Tx) (w : World) (hr : TxR w v L) (hl : TxOk L) (hn : L.length ≤ 1000) :
    Calls Tryd.prog 8 #[v] w fun e w' => e = .returned (.int .i64 (txE L)) ∧ G w w' none := by
  obtain ⟨hr, hx⟩ := hr
  have HR := Lib.hid hr
  have HX := Lib.hid hx
  have hmf : ∀ (fn : Go.Fn) (first cap : Array Value) (w : World), (Instr.makeFunc fn first cap).run Tryd.prog w = .ok (.func fn first cap) w := fun _ _ _ _ => rfl
  obtain ⟨a, cap, rfl, hcap, hm⟩ := RdR.form hr
  clear hr hx
  obtain ⟨E, hE⟩ : ∃ E, txE L = E := ⟨_, rfl⟩
  have HEE := Lib.hid hE
  rw [hE]
  clear hE
  by_cases h30 : 10 < L.length
  · obtain rfl : E = 2 := by rw [← HEE.out]; simp [txE, h30]
    go_enter Tryd.func8, Tryd.ntmps8
    go_wp2_with fail
    go_ret
    exact ⟨rfl, G.refl _ _⟩
  · have H := Lib.hid (show E = txErr [] L by rw [← HEE.out]; simp [txE, h30])
    go_enter Tryd.func8, Tryd.ntmps8
    go_wp2_with fail
    go_loopw [12] (TxRel w L) (fun i _ => L.length - (intOf i).toNat)
    case atStart => exact ⟨0, by omega, rfl, rfl, G.refl _ _⟩
    case round =>
      obtain ⟨k, hk, rfl, heq, hG⟩ := hrel
      have HE := Lib.hid heq
      clear heq
      by_cases hlt : k < L.length
      · obtain ⟨⟨⟨kk, pm, ov⟩, ⟨ao, co⟩, ks⟩, hp⟩ : ∃ p, L[k]? = some p := ⟨_, List.getElem?_eq_getElem hlt⟩
        have hmem := List.mem_of_getElem? hp
        obtain ⟨hs1, hs6⟩ := hl _ hmem
        dsimp only at hs1 hs6
        unfold Small at hs1
        have HS : Hid (txErr (L.take k) (L.drop k) = if keyB kk = false then 5 else if (L.take k).any (txK kk) = true then 6 else if inB pm 0 1000 = false then 1 else if onErr 0 ks = 0 then txErr (L.take (k + 1)) (L.drop (k + 1)) else onErr 0 ks) := Lib.hid (by
          rw [List.drop_eq_getElem_cons hlt, (List.getElem?_eq_some_iff.1 hp).2, List.take_add_one, hp]; rfl)
        have HPR := Lib.hid (fun w' (q : G w w' none) => RdR.prefix_ txC_sz (Rd.quiet HR.out q) k hk)
        have HON : Hid (∀ w', G w w' none → RdT w' (.slice ao ks.length co) ks) := Lib.hid (fun w' (q : G w w' none) => Rd.quiet (HX.out ((kk, pm, ov), (ao, co), ks) hmem) q)
        have HLT : Hid ((L.take k).length ≤ 1000) := Lib.hid (by rw [List.length_take]; omega)
        obtain ⟨bb, bo, rfl, -, -⟩ := RdR.elem txC_sz HR.out hG hp
        have HW := Lib.hid (txRow HR.out hG hp)
        have HK := Lib.hid hlt
        have hB5 : Bk (wr.alloc (.cells #[.string kk, .int .i64 pm, .slice ao ks.length co, .bool ov] 52)) wr.heap.size 52 #[.string kk, .int .i64 pm, .slice ao ks.length co, .bool ov] := Bk.new wr 52 _
        have hG5 := hG.alloc (.cells #[.string kk, .int .i64 pm, .slice ao ks.length co, .bool ov] 52)
        have hkc : k ≤ cap := by omega
        clear hp hG hmem
        go_upto_region 6 with (refine wpList_load_at rfl 52 _ rfl ⟨bb, bo + k * 4, none⟩ rfl #[.string kk, .int .i64 pm, .slice ao ks.length co, .bool ov] _ HW.out Tryd.underlying52 rfl (tx_info ((kk, pm, ov), (ao, co), ks)) ?_)
        clear HW
        generalize wr.alloc (.cells #[.string kk, .int .i64 pm, .slice ao ks.length co, .bool ov] 52) = w5 at hB5 hG5 ⊢
        generalize wr.heap.size = g at hB5 ⊢
        have c0 : w5.cell? ⟨g, 0, none⟩ = some (.string kk) := hB5.cell 0
        have c1 : w5.cell? ⟨g, 1, none⟩ = some (.int .i64 pm) := hB5.cell 1
        have c2 : w5.cell? ⟨g, 2, none⟩ = some (.slice ao ks.length co) := hB5.cell 2
        go_wp2_with fail
        refine (rkey_c _ _ hs1).mono ?_; rintro e w6 ⟨rfl, hh⟩
        have hB6 := hB5.quiet hh
        have hG6 := hG5.trans hh
        clear hh hB5 hG5 c0 c1 c2
        have c0 : w6.cell? ⟨g, 0, none⟩ = some (.string kk) := hB6.cell 0
        cases k0 : keyB kk with
        | false =>
          obtain rfl : E = 5 := by rw [H.out, HE.out, HS.out, if_pos k0]
          clear k0
          go_wp2_with fail
          go_ret
          exact ⟨rfl, hG6⟩
        | true =>
          have HS2 : Hid (txErr (L.take k) (L.drop k) = if (L.take k).any (txK kk) = true then 6 else if inB pm 0 1000 = false then 1 else if onErr 0 ks = 0 then txErr (L.take (k + 1)) (L.drop (k + 1)) else onErr 0 ks) := Lib.hid (by rw [HS.out, if_neg (by simp [k0])])
          have HB6 := Lib.hid hB6
          clear k0 HS hB6
          go_wp2_with fail
          refine (txHas_c 31 (fun _ _ => rfl) _ (L.take k) kk g _ (fun o w' q => keyIsR_c o ((kk, pm, ov), (ao, co), ks) g w' (HB6.out.quiet q)) (HPR.out _ hG6) HLT.out).mono ?_; rintro e w7 ⟨rfl, hh⟩
          have hB7 := HB6.out.quiet hh
          have hG7 := hG6.trans hh
          clear hh hG6 c0 HB6
          have c1 : w7.cell? ⟨g, 1, none⟩ = some (.int .i64 pm) := hB7.cell 1
          have c2 : w7.cell? ⟨g, 2, none⟩ = some (.slice ao ks.length co) := hB7.cell 2
          cases k1 : (L.take k).any (txK kk) with
          | true =>
            obtain rfl : E = 6 := by rw [H.out, HE.out, HS2.out, if_pos k1]
            clear k1
            go_wp2_with fail
            go_ret
            exact ⟨rfl, hG7⟩
          | false =>
            have HS3 : Hid (txErr (L.take k) (L.drop k) = if inB pm 0 1000 = false then 1 else if onErr 0 ks = 0 then txErr (L.take (k + 1)) (L.drop (k + 1)) else onErr 0 ks) := Lib.hid (by rw [HS2.out, if_neg (by simp [k1])])
            clear k1 HS2
            go_wp2_with fail
            refine (in_c pm 0 1000 _).mono ?_; rintro e w' ⟨rfl, rfl⟩
            cases k2 : inB pm 0 1000 with
            | false =>
              obtain rfl : E = 1 := by rw [H.out, HE.out, HS3.out, if_pos k2]
              clear k2
              go_wp2_with fail
              go_ret
              exact ⟨rfl, hG7⟩
            | true =>
              have HS4 : Hid (txErr (L.take k) (L.drop k) = if onErr 0 ks = 0 then txErr (L.take (k + 1)) (L.drop (k + 1)) else onErr 0 ks) := Lib.hid (by rw [HS3.out, if_neg (by simp [k2])])
              clear k2 HS3
              have HB7 := Lib.hid hB7
              have HG7 := Lib.hid hG7
              have HO7 := Lib.hid (HON.out _ hG7)
              clear hB7 hG7 c1
              go_wp2_with fail
              go_loopw [36] (OnfRel w7 ks) (fun i _ => ks.length - (intOf i).toNat)
              case atStart => exact ⟨0, by omega, rfl, rfl, G.refl _ _⟩
              case round =>
                clear c2
                obtain ⟨j, hj, rfl, heqo, hGq⟩ := hrel
                have HEO := Lib.hid heqo
                clear heqo
                by_cases hjl : j < ks.length
                · obtain ⟨n, hn⟩ : ∃ p, ks[j]? = some p := ⟨_, List.getElem?_eq_getElem hjl⟩
                  have HSO : Hid (onErr (onB ks j) (ks.drop j) = if inB n 1 6 = false then 4 else if n = 5 then 4 else if n ≤ onB ks j then 7 else onErr n (ks.drop (j + 1))) := Lib.hid (by rw [← onErr_swap, List.drop_eq_getElem_cons hjl, (List.getElem?_eq_some_iff.1 hn).2]; rfl)
                  have HBN : Hid (onB ks (j + 1) = n) := Lib.hid (by show (match ks[j]? with | some x => x | none => 0) = n; rw [hn])
                  obtain ⟨bo2, oo2, rfl, -, -⟩ := RdR.elem tnC_sz HO7.out hGq hn
                  have d0 := RdR.cell tnC_sz HO7.out hGq hn 0 (.int .i64 n) rfl
                  simp only [Nat.mul_one, Nat.add_zero] at d0
                  have HBR : Hid (∀ w' : World, G w7 w' none → 0 < j → w'.cell? ⟨bo2, oo2 + (j - 1), none⟩ = some (.int .i64 (onB ks j))) := Lib.hid (fun w' h q => by
                    obtain ⟨i, rfl⟩ : ∃ i, j = i + 1 := ⟨j - 1, by omega⟩
                    obtain ⟨p0, hpi⟩ : ∃ p, ks[i]? = some p := ⟨_, List.getElem?_eq_getElem (by omega)⟩
                    have e := RdR.cell tnC_sz HO7.out h hpi 0 (.int .i64 p0) rfl
                    simp only [Nat.mul_one, Nat.add_zero] at e
                    rw [show i + 1 - 1 = i by omega, show onB ks (i + 1) = p0 from (show (match ks[i]? with | some x => x | none => 0) = p0 by rw [hpi])]
                    exact e)
                  have hB8 := HB7.out.quiet hGq
                  have c2 : wr.cell? ⟨g, 2, none⟩ = some (.slice (some ⟨bo2, oo2, none⟩) ks.length co) := hB8.cell 2
                  have HJ := Lib.hid hjl
                  have hG9 := HG7.out.trans hGq
                  clear hn hB8
                  go_wp2_with fail
                  refine (in_c n 1 6 _).mono ?_; rintro e w' ⟨rfl, rfl⟩
                  cases k3 : inB n 1 6 with
                  | false =>
                    have hz : onErr 0 ks = 4 := by rw [HEO.out, HSO.out, if_pos k3]
                    obtain rfl : E = 4 := by rw [H.out, HE.out, HS4.out, hz]; rfl
                    clear hz
                    clear k3
                    go_wp2_with fail
                    go_ret
                    exact ⟨rfl, hG9⟩
                  | true =>
                    have K3 := Lib.hid k3
                    by_cases h5 : n = 5
                    · have hz : onErr 0 ks = 4 := by rw [HEO.out, HSO.out, if_neg (by simp [K3.out]), if_pos h5]
                      obtain rfl : E = 4 := by rw [H.out, HE.out, HS4.out, hz]; rfl
                      clear hz
                      have hq : (n == 5) = true := by simp [h5]
                      clear k3 h5
                      go_wp2_with fail
                      go_ret
                      exact ⟨rfl, hG9⟩
                    have hq : (n == 5) = false := beq_eq_false_iff_ne.2 h5
                    have HSO2 : Hid (onErr (onB ks j) (ks.drop j) = if n ≤ onB ks j then 7 else onErr n (ks.drop (j + 1))) := Lib.hid (by rw [HSO.out, if_neg (by simp [K3.out]), if_neg h5])
                    clear h5 k3 HSO
                    generalize hdb : onB ks j = db at HBR HSO2
                    have HDB := Lib.hid hdb
                    clear hdb
                    by_cases j0 : j = 0
                    · have hj0 : ¬ (0 : Int) < (j : Int) := by omega
                      have hjd : decide (0 < j) = false := by simp [j0]
                      have HZ : Hid (¬ n ≤ db) := Lib.hid (by
                        have := HDB.out
                        subst j0
                        have h2 : onB ks 0 = 0 := rfl
                        have h3 := K3.out
                        simp [inB] at h3
                        omega)
                      have HF : Hid (onErr 0 ks = onErr (onB ks (j + 1)) (ks.drop (j + 1))) := Lib.hid (by rw [HBN.out, HEO.out, HDB.out, HSO2.out, if_neg HZ.out])
                      clear j0
                      go_wp2_with fail
                      go_roundw
                      case rel => exact ⟨j + 1, (by have := HJ.out; omega), by go_num, HF.out, hGq⟩
                      case measure => have := HJ.out; simp [intOf]; omega
                    · have hj0 : (0 : Int) < (j : Int) := by omega
                      have hjd : decide (0 < j) = true := by simp; omega
                      have hjn : j - 1 < ks.length := by have := HJ.out; omega
                      have hb0 := HBR.out _ hGq (by omega)
                      have hji : ((j : Int) - 1) = ((j - 1 : Nat) : Int) := by omega
                      by_cases o0 : n ≤ db
                      · have hz : onErr 0 ks = 7 := by rw [HEO.out, HDB.out, HSO2.out, if_pos o0]
                        obtain rfl : E = 7 := by rw [H.out, HE.out, HS4.out, hz]; rfl
                        clear hz
                        go_wp2_with fail
                        go_ret
                        exact ⟨rfl, hG9⟩
                      · have HF : Hid (onErr 0 ks = onErr (onB ks (j + 1)) (ks.drop (j + 1))) := Lib.hid (by rw [HBN.out, HEO.out, HDB.out, HSO2.out, if_neg o0])
                        go_wp2_with fail
                        go_roundw
                        case rel => exact ⟨j + 1, (by have := HJ.out; omega), by go_num, HF.out, hGq⟩
                        case measure => have := HJ.out; simp [intOf]; omega
                · obtain rfl : j = ks.length := by omega
                  have hz : onErr 0 ks = 0 := by rw [HEO.out, List.drop_length]; rfl
                  have HF : Hid (txErr [] L = txErr (L.take (k + 1)) (L.drop (k + 1))) := Lib.hid (by rw [HE.out, HS4.out, if_pos hz])
                  have hG9 := HG7.out.trans hGq
                  clear hz
                  go_wp2_with fail
                  go_roundw
                  case rel => exact ⟨k + 1, (by have := HK.out; omega), by go_num, HF.out, hG9⟩
                  case measure => have := HK.out; simp [intOf]; omega
      · obtain rfl : k = L.length := by omega
        obtain rfl : E = 0 := by rw [H.out, HE.out, List.drop_length]; rfl
        go_wp2_with fail
        go_ret
        exact ⟨rfl, hG⟩
end Go.Proofs.YtkgkbjijiapcpaaDoor

/- Generator: the lines of a bill. Written by genlin.py. -/
namespace Go.Proofs.YtkgkbjijiapcpaaDoor
open Go.RowKit

theorem li_oneL (r : Li) : ∀ u ∈ (liC r).toList, u.oneCell' = true := by
  intro u hu
  simp [liC] at hu
  rcases hu with rfl | rfl | rfl <;> rfl
theorem li_rowOk : RowOk Tryd.prog 40 28 3 32 (.agg (liC (0, ⟨#[]⟩, 0))) liC := ⟨by kernel_rfl, Tryd.underlying28, li_oneL, liC_sz, rfl, by omega, by omega⟩
abbrev OwnLi (w : World) (base : Nat) (v : Value) (l : List Li) : Prop := OwnX 40 3 liC w base v l
theorem LiOk.snoc {l : List Li} {r : Li} (h : LiOk l) (hr : Small r.2.1) : LiOk (l ++ [r]) := fun p hp => by
  rcases List.mem_append.1 hp with hp | hp
  · exact h p hp
  · obtain rfl := List.mem_singleton.1 hp
    exact hr
theorem LiOk.set {l : List Li} (h : LiOk l) {r : Li} (hr : Small r.2.1) (k : Nat) : LiOk (l.set k r) := fun p hp => by
  rcases List.mem_or_eq_of_mem_set hp with hp | rfl
  · exact h p hp
  · exact hr
def BillPost (s K : Nat) (w : World) (e : Ending) (w' : World) : Prop :=
  ∃ (v : Value) (l : List Li), e = .returned v ∧ OwnLi w' w.heap.size v l ∧ LiOk l ∧ l.length ≤ 6 ∧ SB w' s (K + 30) ∧ G w w' (some s)
theorem bill_fin {w w' : World} {s K : Nat} {v : Value} {l : List Li} (hown : OwnLi w' w.heap.size v l) (hl : LiOk l) (hn : l.length ≤ 6) (hSB : SB w' s (K + 30)) (hG : G w w' (some s)) : BillPost s K w (.returned v) w' :=
  ⟨v, l, rfl, hown, hl, hn, hSB, hG⟩
def BlRel (w : World) (s K m : Nat) (s3 s7 : Value) (wr : World) : Prop :=
  ∃ (k : Nat) (l : List Li), k ≤ m ∧ l.length ≤ k ∧ s7 = .int .i64 k ∧ OwnLi wr w.heap.size s3 l ∧ LiOk l ∧ SB wr s (K + 1 + 3 * k) ∧ G w wr (some s)
set_option maxRecDepth 100000 in
set_option maxHeartbeats 8000000 in
theorem billLines_c (w : World) (s : Nat) (K : Nat) (hs : SB w s K) (hk : K ≤ 900000000000) :
    Calls Tryd.prog 5 #[.pointer (some ⟨s, 0, none⟩)] w (BillPost s K w) := by
  have hsb := hs.lt
  go_enter Tryd.func5, Tryd.ntmps5
  go_wp2_with fail
  refine (range_c 0 6 _ _ _ hs (by omega) (by omega) (by omega) (by omega)).mono ?_; rintro e w1 ⟨m, rfl, m0, m1, hSB1, hG1⟩
  obtain ⟨m, rfl⟩ := Int.eq_ofNat_of_zero_le m0
  have hm6 : m ≤ 6 := by omega
  clear m0 m1 hs
  go_wp2_with fail
  go_loopw [3, 7] (BlRel w s K m) (fun _ i _ => m - (intOf i).toNat)
  case atStart => exact ⟨0, [], by omega, by simp, rfl, World.ownsRow_nil _ _ _ _, fun p hp => (by cases hp), hSB1, hG1⟩
  case round =>
    obtain ⟨k, l, hkm, hlk, rfl, hown, hl, hSB, hG⟩ := hrel
    have HL := Lib.hid hl
    clear hl hSB1 hG1
    by_cases hk2 : k < m
    · have hki : (k : Int) < (m : Int) := by omega
      have HK := Lib.hid hk2
      go_wp2_with fail
      refine (pick_c _ _ _ [1, 1, 2, 3, 4, 6] _ _ _ (hSB.alloc _) (by omega) (by decide) (by decide) (Rd.newAt _ rfl rfl (by decide)) (hSB.newAt _ _ _ (Nat.le_refl _))).mono ?_; rintro e w4 ⟨q1, rfl, hp, hSB4, hg⟩
      have hown4 := OwnX.kept (OwnX.alloc hown (.cells _ 3)) hg hsb
      have hG4 := (hG.alloc (.cells _ 3)).trans hg
      clear hown hG hSB hg hp
      go_wp2_with fail
      refine (some_c _ _ _ [⟨#[100, 97, 121]⟩, ⟨#[119, 101, 101, 107]⟩, ⟨#[115, 101, 97, 116]⟩, ⟨#[108, 97, 116, 101]⟩] _ _ _ (hSB4.alloc _) (by omega) (by decide) (by decide) (Rd.newAt _ rfl rfl (by decide)) (hSB4.newAt _ _ _ (Nat.le_refl _))).mono ?_; rintro e w5 ⟨q2, rfl, hp, hSB5, hg⟩
      have HQ2 := Lib.hid (small_pick hp (by decide))
      have hown5 := OwnX.kept (OwnX.alloc hown4 (.cells _ 9)) hg hsb
      have hG5 := (hG4.alloc (.cells _ 9)).trans hg
      clear hown4 hG4 hSB4 hg hp
      go_wp2_with fail
      refine (pick_c _ _ _ [0, 5, 50, 105, 999, -10, -3, 1000000] _ _ _ (hSB5.alloc _) (by omega) (by decide) (by decide) (Rd.newAt _ rfl rfl (by decide)) (hSB5.newAt _ _ _ (Nat.le_refl _))).mono ?_; rintro e w6 ⟨q3, rfl, hp, hSB6, hg⟩
      have hown6 := OwnX.kept (OwnX.alloc hown5 (.cells _ 3)) hg hsb
      have hG6 := (hG5.alloc (.cells _ 3)).trans hg
      clear hown5 hG5 hSB5 hg hp
      have hsz := hG6.size
      have hownA := OwnX.alloc hown6 (.cells #[.int .i64 q1, .string q2, .int .i64 q3] 40)
      go_wp2_with (at_builtin; refine wpList_plain rfl fun K' hK' => wp_append_x li_rowOk _ _ rfl w.heap.size u3 l rfl hownA w6.heap.size (q1, q2, q3) rfl (Bk.new w6 _ _) (by omega) (by simp; omega) ?_; intro v8 w8 hown8 hgrow; refine hK' _ _ ?_)
      have hob := OwnX.low hown6
      go_roundw
      case rel => exact ⟨k + 1, l ++ [(q1, q2, q3)], by omega, by simp; omega, by go_num, hown8, HL.out.snoc HQ2.out, ((hSB6.alloc _).own hgrow (fun r e => Nat.lt_of_lt_of_le hsb (hob r e))).le (by omega), (hG6.alloc _).other hgrow (fun r e => .inl (hob r e))⟩
      case measure => have := HK.out; simp [intOf]; omega
    · obtain rfl : k = m := by omega
      have hf := hown.2
      have hnk : ¬ ((k : Int) < (k : Int)) := by omega
      rcases hf with ⟨rfl, hn0⟩ | ⟨g, cap, cur, rfl, hbg, _, hnc, hmc, _, _⟩
      · clear hn0
        go_wp2_with fail
        go_ret
        exact bill_fin hown HL.out (by omega) (hSB.le (by omega)) hG
      · by_cases h0 : l.length = 0
        · have h0i : ¬ ((0 : Int) < (l.length : Int)) := by omega
          clear h0
          go_wp2_with fail
          go_ret
          exact bill_fin hown HL.out (by omega) (hSB.le (by omega)) hG
        · have h0i : ((0 : Int) < (l.length : Int)) := by omega
          have hsg : s < g := by omega
          have hgw : w.heap.size ≤ g := by omega
          clear h0
          go_wp2_with fail
          refine (flip_c _ _ _ _ hSB (by omega) (by omega)).mono ?_; rintro e w2 ⟨b, rfl, hSB2, hG2⟩
          have hown2 := OwnX.kept hown hG2 hsb
          have hG02 := hG.trans hG2
          clear hown hG hG2 hSB
          cases b with
          | false =>
            go_wp2_with fail
            go_ret
            exact bill_fin hown2 HL.out (by omega) (hSB2.le (by omega)) hG02
          | true =>
            go_wp2_with fail
            refine (next_c _ _ _ _ hSB2 (by omega) (by omega)).mono ?_; rintro e w3 ⟨j, rfl, hj, hSB3, hG3⟩
            obtain ⟨j0, j1⟩ := hj
            obtain ⟨j, rfl⟩ := Int.eq_ofNat_of_zero_le j0
            have jl : j < l.length := by omega
            have jli : (j : Int) < (l.length : Int) := by omega
            clear j1
            have hown3 := OwnX.kept hown2 hG3 hsb
            have hG03 := hG02.trans hG3
            clear hown2 hG02 hG3 hSB2
            obtain ⟨p, hp⟩ : ∃ p, l[j]? = some p := ⟨_, List.getElem?_eq_getElem jl⟩
            have HP := Lib.hid hp
            clear hp
            go_wp2_with fail
            refine (pick_c _ _ _ [1, 5, 0, 7] _ _ _ (hSB3.alloc _) (by omega) (by decide) (by decide) (Rd.newAt _ rfl rfl (by decide)) (hSB3.newAt _ _ _ (Nat.le_refl _))).mono ?_; rintro e w5 ⟨y1, rfl, hr, hSB5, hG5⟩
            have hown5 := OwnX.kept (OwnX.alloc hown3 _) hG5 hsb
            have hG05 := (hG03.alloc _).trans hG5
            clear hr hown3 hSB3 hG03 hG5
            go_wp2_with fail
            refine (some_c _ _ _ [⟨#[100, 97, 121]⟩, ⟨#[]⟩, ⟨#[65]⟩] _ _ _ (hSB5.alloc _) (by omega) (by decide) (by decide) (Rd.newAt _ rfl rfl (by decide)) (hSB5.newAt _ _ _ (Nat.le_refl _))).mono ?_; rintro e w6 ⟨y2, rfl, hr, hSB6, hG6⟩
            have HY2 := Lib.hid (small_pick hr (by decide))
            have hown6 := OwnX.kept (OwnX.alloc hown5 _) hG6 hsb
            have hG06 := (hG05.alloc _).trans hG6
            clear hr hown5 hSB5 hG05 hG6
            go_wp2_with fail
            refine (odd_c _ _ _ _ _ hSB6 (by omega) (by omega) (by omega) (by omega) (by omega)).mono ?_; rintro e w7 ⟨y3, rfl, y30, y31, hSB7, hG7⟩
            have hown7 := OwnX.kept hown6 hG7 hsb
            have hG07 := hG06.trans hG7
            clear hown6 hSB6 hG06 hG7
            have c0 := RdR.cell liC_sz (Rd.of_owns hown7) (G.refl _ _) HP.out 0 (.int .i64 p.1) rfl
            have c1 := RdR.cell liC_sz (Rd.of_owns hown7) (G.refl _ _) HP.out 1 (.string p.2.1) rfl
            have c2 := RdR.cell liC_sz (Rd.of_owns hown7) (G.refl _ _) HP.out 2 (.int .i64 p.2.2) rfl
            have f0 := ownsRow_free hown7 (j * 3 + 0)
            have f1 := ownsRow_free hown7 (j * 3 + 1)
            have f2 := ownsRow_free hown7 (j * 3 + 2)
            have o1 := OwnX.set liC_sz hown7 HP.out (q := (y1, p.2)) 0 (.int .i64 y1) (by omega) rfl
            have o2 := OwnX.set liC_sz o1 (show (l.set j (y1, p.2))[j]? = some (y1, p.2) by rw [List.getElem?_set_self jl]) (q := (y1, y2, p.2.2)) 1 (.string y2) (by omega) rfl
            rw [List.set_set] at o2
            have o3 := OwnX.set liC_sz o2 (show (l.set j (y1, y2, p.2.2))[j]? = some (y1, y2, p.2.2) by rw [List.getElem?_set_self jl]) (q := (y1, y2, y3)) 2 (.int .i64 y3) (by omega) rfl
            rw [List.set_set] at o3
            simp only [Nat.zero_add, Nat.add_zero] at c0 c1 c2 f0 o3
            clear o1 o2
            go_wp2_with fail
            go_ret
            exact bill_fin (l := l.set j (y1, y2, y3)) (by unfold OwnLi OwnX; rw [List.length_set]; exact o3) (HL.out.set (r := (y1, y2, y3)) HY2.out j) (by rw [List.length_set]; omega) ((((hSB7.setCell (p := ⟨g, j * 3, none⟩) hsg _).setCell (p := ⟨g, j * 3 + 1, none⟩) hsg _).setCell (p := ⟨g, j * 3 + 2, none⟩) hsg _).le (by omega)) (((hG07.setCell (p := ⟨g, j * 3, none⟩) (.inl hgw) _).setCell (p := ⟨g, j * 3 + 1, none⟩) (.inl hgw) _).setCell (p := ⟨g, j * 3 + 2, none⟩) (.inl hgw) _)
end Go.Proofs.YtkgkbjijiapcpaaDoor
