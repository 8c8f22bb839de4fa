/- Bkd, Eqm, Sfd, Mpk, Wsm, Inn, Wsk, Svm, Srv, Svn, Dof, Dus, Dud, Wsg, Wsh. -/
import Derived.Test.YtndeidcddlmhbaaDoorZw3
import Derived.Laws.StructEq
import Derived.Test.YtndeidcddlmhbaaDoorZw1
import Derived.DeepKeys4
import Derived.Test.YtndeidcddlmhbaaDoorProg
import Derived.Laws.ResultCell
import Derived.Test.YtndeidcddlmhbaaDoorZw2
import Derived.Deep.CutRange
/- The law's own 'booked': the odds of one booking. -/
namespace Go.Proofs.YtndeidcddlmhbaaDoor
open Go.RowKit

def coE (l : List Bo) : Int := if boE l = 0 then (if 9 < l.length then 2 else 0) else boE l
set_option maxRecDepth 100000 in
set_option maxHeartbeats 1000000 in
theorem checkOdds_c (v : Value) (l : List Bo) (w : World) (hr : RdR w 6 boC v l) (hl : BoOk l) (hn : l.length ≤ 1000) :
    Calls Tryd.prog 133 #[v] w fun e w' => e = .returned (.int .i64 (coE l)) ∧ G w w' none := by
  have HR := Lib.hid hr
  obtain ⟨a, cap, rfl, hcap, hm⟩ := RdR.form hr
  clear hr
  go_enter Tryd.func133, Tryd.ntmps133
  go_wp2_with fail
  refine (checkForm_c _ l _ HR.out hl hn).mono ?_; rintro e w1 ⟨rfl, hG1⟩
  by_cases h0 : boE l = 0
  · have HE : Hid (coE l = if 9 < l.length then 2 else 0) := Lib.hid (by rw [coE, if_pos h0])
    rw [h0]
    clear h0
    by_cases h9 : 9 < l.length
    · have HF : Hid (coE l = 2) := Lib.hid (by rw [HE.out, if_pos h9])
      go_wp2_with fail
      go_ret
      exact ⟨by rw [HF.out]; rfl, hG1⟩
    · have HF : Hid (coE l = 0) := Lib.hid (by rw [HE.out, if_neg h9])
      go_wp2_with fail
      go_ret
      exact ⟨by rw [HF.out]; rfl, hG1⟩
  · have HF : Hid (coE l = boE l) := Lib.hid (by rw [coE, if_neg h0])
    have h0' : (boE l != 0) = true := by rw [bne_iff_ne]; exact h0
    clear h0
    generalize boE l = E at h0' HF ⊢
    go_wp2_with fail
    go_ret
    exact ⟨by rw [HF.out]; rfl, hG1⟩
def bo1 : Bo := (⟨#[97]⟩, ⟨#[99]⟩, 0, 1, 0, 50)
set_option maxRecDepth 100000 in
set_option maxHeartbeats 4000000 in
theorem casesOf1_c (w : World) (b : Nat) (h : Bk w b 31 (boC bo1)) :
    Calls Tryd.prog 134 #[.slice (some ⟨b, 0, none⟩) 1 1] w fun e w' => ∃ g, e = .returned (.tuple #[.slice (some ⟨g, 0, none⟩) 2 2, .int .i64 100]) ∧ Bk w' g 3 #[.int .i64 50, .int .i64 50] ∧ G w w' none := by
  have HA := Lib.hid h.at_
  have hb := h.lt
  have h1 := h.alloc (.cells #[.int .i64 1] 3)
  have hG1 := (G.refl w none).alloc (.cells #[.int .i64 1] 3)
  have hN1 := Bk.new w 3 #[.int .i64 1]
  have HA1 := Lib.hid h1.at_
  have hms : ∀ w : World, (Instr.makeSlice 22 (.int .i64 2) (.int .i64 2)).run Tryd.prog w = .ok (.slice (some ⟨w.heap.size, 0, none⟩) 2 2) (w.alloc (.cells #[.int .i64 0, .int .i64 0] 3)) := fun _ => by kernel_rfl
  clear h
  go_enter Tryd.func134, Tryd.ntmps134
  go_wp2_with fail
  refine wp_loop_rounds 2 ?_
  rw [rounds_succ]
  go_wp2_with (refine wpList_load_at rfl 31 _ rfl ⟨b, 0, none⟩ rfl #[.string ⟨#[97]⟩, .string ⟨#[99]⟩, .int .i64 0, .int .i64 1, .int .i64 0, .int .i64 50] _ HA1.out Tryd.underlying31 rfl (bo_info bo1) ?_)
  refine wp_loop_rounds 2 ?_
  rw [rounds_succ]
  go_wp2_with fail
  have hP : Bk (((w.alloc (.cells #[.int .i64 1] 3)).alloc (.cells #[.string ⟨#[97]⟩, .string ⟨#[99]⟩, .int .i64 0, .int .i64 1, .int .i64 0, .int .i64 50] 31)).alloc (.cells #[.int .i64 0, .int .i64 0] 3)) (w.heap.size + 1) 31 (boC bo1) := (Bk.newAt (w := w.alloc (.cells #[.int .i64 1] 3)) (b := w.heap.size + 1) (by simp) 31 (boC bo1)).alloc _
  have hN : Bk (((w.alloc (.cells #[.int .i64 1] 3)).alloc (.cells #[.string ⟨#[97]⟩, .string ⟨#[99]⟩, .int .i64 0, .int .i64 1, .int .i64 0, .int .i64 50] 31)).alloc (.cells #[.int .i64 0, .int .i64 0] 3)) (w.heap.size + 1 + 1) 3 #[.int .i64 0, .int .i64 0] := Bk.newAt (w := ((w.alloc (.cells #[.int .i64 1] 3)).alloc (.cells #[.string ⟨#[97]⟩, .string ⟨#[99]⟩, .int .i64 0, .int .i64 1, .int .i64 0, .int .i64 50] 31))) (b := w.heap.size + 1 + 1) (by simp) 3 #[.int .i64 0, .int .i64 0]
  have hO : Bk (((w.alloc (.cells #[.int .i64 1] 3)).alloc (.cells #[.string ⟨#[97]⟩, .string ⟨#[99]⟩, .int .i64 0, .int .i64 1, .int .i64 0, .int .i64 50] 31)).alloc (.cells #[.int .i64 0, .int .i64 0] 3)) w.heap.size 3 #[.int .i64 1] := ((Bk.new w 3 #[.int .i64 1]).alloc _).alloc _
  have hG : G w (((w.alloc (.cells #[.int .i64 1] 3)).alloc (.cells #[.string ⟨#[97]⟩, .string ⟨#[99]⟩, .int .i64 0, .int .i64 1, .int .i64 0, .int .i64 50] 31)).alloc (.cells #[.int .i64 0, .int .i64 0] 3)) none := (((G.refl w none).alloc _).alloc _).alloc _
  clear h1 hG1 hN1 HA HA1
  generalize (((w.alloc (.cells #[.int .i64 1] 3)).alloc (.cells #[.string ⟨#[97]⟩, .string ⟨#[99]⟩, .int .i64 0, .int .i64 1, .int .i64 0, .int .i64 50] 31)).alloc (.cells #[.int .i64 0, .int .i64 0] 3)) = w4 at hP hN hO hG ⊢
  have p5 : w4.cell? ⟨w.heap.size + 1, 5, none⟩ = some (.int .i64 50) := hP.cell 5
  have n0 : w4.cell? ⟨w.heap.size + 1 + 1, 0, none⟩ = some (.int .i64 0) := hN.cell 0
  have f0 : w4.frozen? ⟨w.heap.size + 1 + 1, 0, none⟩ = false := hN.free 0
  go_still_tail 11, (by kernel_rfl)
  change wpList _ _ _ _ _ w4.drew
  have hPd := hP.quiet ((G.refl w4 none).drew)
  have hOd := hO.quiet ((G.refl w4 none).drew)
  have hNd := hN.quiet ((G.refl w4 none).drew)
  have hGd := hG.drew
  clear hP hN hO hG p5 n0 f0
  generalize w4.drew = w5 at hPd hOd hNd hGd ⊢
  have n0 : w5.cell? ⟨w.heap.size + 1 + 1, 0, none⟩ = some (.int .i64 0) := hNd.cell 0
  have f0 : w5.frozen? ⟨w.heap.size + 1 + 1, 0, none⟩ = false := hNd.free 0
  have hN : Bk (w5.setCell ⟨w.heap.size + 1 + 1, 0, none⟩ (.int .i64 50)) (w.heap.size + 1 + 1) 3 #[.int .i64 50, .int .i64 0] := hNd.set 0 _
  have hP := hPd.far (p := ⟨w.heap.size + 1 + 1, 0, none⟩) (show w.heap.size + 1 ≠ w.heap.size + 1 + 1 by omega) (.int .i64 50)
  have hG := hGd.setCell (p := ⟨w.heap.size + 1 + 1, 0, none⟩) (.inl (show w.heap.size ≤ w.heap.size + 1 + 1 by omega)) (.int .i64 50)
  clear hPd hNd hOd hGd
  go_wp2_with fail
  generalize w5.setCell ⟨w.heap.size + 1 + 1, 0, none⟩ (.int .i64 50) = w6 at hP hN hG ⊢
  have p5 : w6.cell? ⟨w.heap.size + 1, 5, none⟩ = some (.int .i64 50) := hP.cell 5
  have n1 : w6.cell? ⟨w.heap.size + 1 + 1, 1, none⟩ = some (.int .i64 0) := hN.cell 1
  have hw1 : IntKind.i64.wrap 1 = 1 := by decide
  have f1 : w6.frozen? ⟨w.heap.size + 1 + 1, 1, none⟩ = false := hN.free 1
  go_still_tail 11, (by kernel_rfl)
  change wpList _ _ _ _ _ w6.drew
  have hNd := hN.quiet ((G.refl w6 none).drew)
  have hGd := hG.drew
  clear hP hN hG p5 n1 f1
  generalize w6.drew = w7 at hNd hGd ⊢
  have n1 : w7.cell? ⟨w.heap.size + 1 + 1, 1, none⟩ = some (.int .i64 0) := hNd.cell 1
  have f1 : w7.frozen? ⟨w.heap.size + 1 + 1, 1, none⟩ = false := hNd.free 1
  have hN : Bk (w7.setCell ⟨w.heap.size + 1 + 1, 1, none⟩ (.int .i64 50)) (w.heap.size + 1 + 1) 3 #[.int .i64 50, .int .i64 50] := hNd.set 1 _
  have hG := hGd.setCell (p := ⟨w.heap.size + 1 + 1, 1, none⟩) (.inl (show w.heap.size ≤ w.heap.size + 1 + 1 by omega)) (.int .i64 50)
  clear hNd hGd
  go_wp2_with fail
  rw [rounds_succ]
  go_wp2_with fail
  rw [rounds_succ]
  go_wp2_with fail
  go_ret2
  exact ⟨_, rfl, hN, hG⟩
theorem bo1_ok : boB bo1 := ⟨small_of (by decide), small_of (by decide), by unfold bnd bo1; dsimp only; omega, by unfold bnd bo1; dsimp only; omega, by unfold bnd bo1; dsimp only; omega, by unfold bnd bo1; dsimp only; omega⟩
theorem coE_one : coE [bo1] = 0 := by
  have h1 : boE [bo1] = 0 := by
    show boErr ⟨#[]⟩ [bo1] = 0
    unfold boErr bo1
    dsimp only
    rw [if_neg (by rw [show keyB ⟨#[97]⟩ = true by decide]; decide), if_neg (by rw [show keyB ⟨#[99]⟩ = true by decide]; decide), if_neg (by rw [leB_cmp]; decide), if_neg (by decide)]
    rfl
  rw [coE, if_pos h1, if_neg (by decide)]
/-! A row of fractions that the call owns. -/
abbrev Fr := Int × Int
def frV (x : Fr) : Array Value := frC x.1 x.2
theorem frV_sz (x : Fr) : (frV x).size = 2 := rfl
abbrev OwnFr (w : World) (base : Nat) (v : Value) (l : List Fr) : Prop := w.ownsRow base 134 2 v l.length (rowL frV l)
theorem fr_row : (Tryd.prog.info? 134).map (fun i => (i.zero, i.size, i.bytes)) = some (some (.agg (frC 0 0)), 2, 16) := by kernel_rfl
theorem frV_one (r : Fr) : ∀ u ∈ (frV r).toList, u.oneCell' = true := by
  intro u hu
  simp [frV, frC] at hu
  rcases hu with rfl | rfl <;> rfl
theorem wp_append_fr {w : World} {o : Oper} {a : Act} {K : Act → World → Prop} {Q : Exit → Act → World → Prop} (s x : Operand)
    (ho : o.op = .call { callee := .builtin .append, args := #[s, x], argTypes := #[129, 129] }) (base : Nat) (v : Value) (l : List Fr) (hs : a.eval s = v) (hown : OwnFr w base v l)
    (g : Nat) (r : Fr) (hx : a.eval x = .slice (some ⟨g, 0, none⟩) 1 1) (hb : Bk w g 134 (frV r)) (hl : l.length ≤ 1000) (hbase : base ≤ w.heap.size)
    (hK : ∀ v' w', OwnFr w' base v' (l ++ [r]) → w.grownBy w' v.ownBlock → K (a.put o.dst v') w') : o.wp Tryd.prog a w K Q := by
  obtain ⟨i0, hi, hz0, hz1, hz2⟩ := info_parts fr_row
  refine wp_append_own w s x 129 ho base 134 i0 _ 2 16 Tryd.underlying129 hi hz0 hz1 hz2 rfl (by decide) v l.length (rowL frV l) hs hown ⟨g, 0, none⟩ 1 1 (frV r).toList hx rfl hb.at_ (frV_one r) (by unfold maxLen; omega) (by omega) hbase ?_
  intro v' w' h1 h2 _
  refine hK v' w' ?_ h2
  unfold OwnFr
  rw [List.length_append, rowL_snoc]
  exact h1
theorem OwnFr.alloc {w : World} {base : Nat} {v : Value} {l : List Fr} (h : OwnFr w base v l) (o : Obj) : OwnFr (w.alloc o) base v l := World.ownsRow.alloc h o
theorem OwnFr.quiet {w w' : World} {base : Nat} {v : Value} {l : List Fr} (h : OwnFr w base v l) (hg : G w w' none) : OwnFr w' base v l :=
  World.ownsRow.kept h hg (Classical.em _)
set_option maxRecDepth 100000 in
set_option maxHeartbeats 4000000 in
theorem spread1_c (w : World) (b : Nat) (h : Bk w b 31 (boC bo1)) :
    Calls Tryd.prog 87 #[.slice (some ⟨b, 0, none⟩) 1 1] w fun e w' => ∃ v, e = .returned (.tuple #[v, .int .i64 0]) ∧ OwnFr w' w.heap.size v [(1, 2), (1, 2)] ∧ G w w' none := by
  go_enter Tryd.func87, Tryd.ntmps87
  go_wp2_with fail
  refine (checkOdds_c _ [bo1] _ (RdR.one h) (BoOk.one bo1_ok) (one_len bo1)).mono ?_; rintro e w1 ⟨rfl, hG1⟩
  rw [coE_one]
  have h1 := h.quiet hG1
  go_wp2_with fail
  refine (casesOf1_c _ b h1).mono ?_; rintro e w2 ⟨g, rfl, hN2, hG2⟩
  have hG02 := hG1.trans hG2
  clear hG1 hG2 h h1
  have c0 : w2.cell? ⟨g, 0, none⟩ = some (.int .i64 50) := hN2.cell 0
  go_wp2_with fail
  refine wp_loop_rounds 3 ?_
  rw [rounds_succ]
  go_wp2_with fail
  refine (lowest_c 50 100 _ (by omega) (by omega) (by omega)).mono ?_; rintro e w3 ⟨rfl, hG3⟩
  rw [show frC ((50 / Nat.gcd 100 50 : Nat) : Int) ((100 / Nat.gcd 100 50 : Nat) : Int) = #[.int .i64 1, .int .i64 2] by rfl]
  have hN3 := (hN2.quiet hG3).alloc (.cells #[.int .i64 1, .int .i64 2] 134)
  have hG03 := (hG02.trans hG3).alloc (.cells #[.int .i64 1, .int .i64 2] 134)
  have hz3 := hG03.size
  clear hN2 hG02 hG3 c0
  go_wp2_with (at_builtin; refine wpList_plain rfl fun K' hK' => wp_append_fr _ _ rfl w.heap.size (.slice none 0 0) [] rfl (World.ownsRow_nil _ _ _ _) w3.heap.size (1, 2) rfl (Bk.new w3 _ _) (by simp) hz3 ?_; intro v1 w4 hown1 hgrow1; refine hK' _ _ ?_)
  have hN4 := hN3.quiet hgrow1
  have hG04 := hG03.trans hgrow1
  clear hN3 hG03 hz3 hgrow1
  have c1 : w4.cell? ⟨g, 1, none⟩ = some (.int .i64 50) := hN4.cell 1
  rw [rounds_succ]
  go_wp2_with fail
  refine (lowest_c 50 100 _ (by omega) (by omega) (by omega)).mono ?_; rintro e w5 ⟨rfl, hG5⟩
  rw [show frC ((50 / Nat.gcd 100 50 : Nat) : Int) ((100 / Nat.gcd 100 50 : Nat) : Int) = #[.int .i64 1, .int .i64 2] by rfl]
  have hown2 := (hown1.quiet hG5).alloc (.cells #[.int .i64 1, .int .i64 2] 134)
  have hG05 := (hG04.trans hG5).alloc (.cells #[.int .i64 1, .int .i64 2] 134)
  have hz5 := hG05.size
  clear hN4 hG04 hG5 c1 hown1
  go_wp2_with (at_builtin; refine wpList_plain rfl fun K' hK' => wp_append_fr _ _ rfl w.heap.size v1 [(1, 2)] rfl hown2 w5.heap.size (1, 2) rfl (Bk.new w5 _ _) (by simp) hz5 ?_; intro v2 w6 hown3 hgrow2; refine hK' _ _ ?_)
  have hG06 := hG05.other hgrow2 (fun j e => .inl (World.ownsRow.lt hown2 j e).1)
  rw [rounds_succ]
  go_wp2_with fail
  go_ret2
  exact ⟨_, rfl, hown3, hG06⟩
theorem fr_neq (x y : Fr) (w : World) : (binOp .neq 134 (.agg (frV x)) (.agg (frV y))).run Tryd.prog w = .ok (.bool (!(decide (x = y)))) w := by
  obtain ⟨a, b⟩ := x
  obtain ⟨c, d⟩ := y
  have ht : Tryd.prog.underlying 134 = some (.struct (Tryd.prog.fieldsOf 134)) := by kernel_rfl
  have hp : Tryd.prog.stoodInHeld 134 = false := by kernel_rfl
  rw [run_neq_struct, run_equalIn_agg w 9999 134 _ _ ht hp]
  simp [frV, frC, Tryd.underlying134, Tryd.underlying3, go_sem]
  by_cases h1 : a = c <;> by_cases h2 : b = d <;> simp [h1, h2]
def EqfRel (l m : List Fr) (w : World) (i : Value) (wr : World) : Prop := ∃ k n : Nat, k ≤ l.length ∧ i = .int .i64 k ∧ l.take k = m.take k ∧ wr = w.drewN n
theorem take_succ_eq {l m : List Fr} {k : Nat} {x : Fr} (h : l.take k = m.take k) (hx : l[k]? = some x) (hy : m[k]? = some x) : l.take (k + 1) = m.take (k + 1) := by
  rw [List.take_add_one, List.take_add_one, h, hx, hy]
set_option maxRecDepth 100000 in
set_option maxHeartbeats 4000000 in
theorem frEqual_c (v u : Value) (l m : List Fr) (w : World) (hr : RdR w 2 frV v l) (hs : RdR w 2 frV u m) (hn : l.length ≤ 1000000) :
    Calls Tryd.prog 88 #[v, u] w fun e w' => e = .returned (.bool (decide (l = m))) ∧ G w w' none := by
  have HR := Lib.hid hr
  have HS := Lib.hid hs
  obtain ⟨a, cap, rfl, hcap, hm1⟩ := RdR.form hr
  obtain ⟨a2, cap2, rfl, hcap2, hm2⟩ := RdR.form hs
  clear hr hs
  by_cases hlen : l.length = m.length
  · have hlq : ((l.length : Int) != (m.length : Int)) = false := by rw [hlen]; simp
    have hlq2 : ((m.length : Int) != (l.length : Int)) = false := by rw [hlen]; simp
    have HL := Lib.hid hlen
    clear hlen
    go_enter Tryd.func88, Tryd.ntmps88
    go_wp2_with fail
    go_loopw [13] (EqfRel l m w) (fun i _ => l.length - (intOf i).toNat)
    case atStart => exact ⟨0, 0, by omega, rfl, rfl, rfl⟩
    case round =>
      obtain ⟨k, n, hk, rfl, heq, rfl⟩ := hrel
      have HE := Lib.hid heq
      clear heq
      by_cases hlt : k < l.length
      · obtain ⟨x, hx⟩ : ∃ x, l[k]? = some x := ⟨_, List.getElem?_eq_getElem hlt⟩
        obtain ⟨y, hy⟩ : ∃ y, m[k]? = some y := ⟨_, List.getElem?_eq_getElem (by rw [← HL.out]; exact hlt)⟩
        have hlt2 : k < m.length := by have := HL.out; omega
        obtain ⟨bb, bo, rfl, hbb, _⟩ := RdR.elem frV_sz HR.out (G.refl w none) hx
        obtain ⟨b2, o2, rfl, hb2, _⟩ := RdR.elem frV_sz HS.out (G.refl w none) hy
        have d0 := RdR.cell frV_sz HR.out (G.refl w none) hx 0 (.int .i64 x.1) rfl
        have d1 := RdR.cell frV_sz HR.out (G.refl w none) hx 1 (.int .i64 x.2) rfl
        have e0 := RdR.cell frV_sz HS.out (G.refl w none) hy 0 (.int .i64 y.1) rfl
        have e1 := RdR.cell frV_sz HS.out (G.refl w none) hy 1 (.int .i64 y.2) rfl
        simp only [Nat.add_zero] at d0 e0
        have HX := Lib.hid hx
        have HY := Lib.hid hy
        clear hx hy
        by_cases hxy : x = y
        · have hnq : ∀ w : World, (binOp .neq 134 (.agg #[.int .i64 x.1, .int .i64 x.2]) (.agg #[.int .i64 y.1, .int .i64 y.2])).run Tryd.prog w = .ok (.bool false) w := fun w => by
            have := fr_neq x y w
            rw [decide_eq_true hxy] at this
            exact this
          have HT : Hid (l.take (k + 1) = m.take (k + 1)) := Lib.hid (take_succ_eq HE.out HX.out (by rw [hxy]; exact HY.out))
          clear hxy HX HY
          go_wp2_with fail
          go_quiet (fail)
          go_wp2_with fail
          go_roundw
          case rel => exact ⟨k + 1, _, by omega, by go_num, HT.out, rfl⟩
          case measure => simp [intOf]; omega
        · have hnq : ∀ w : World, (binOp .neq 134 (.agg #[.int .i64 x.1, .int .i64 x.2]) (.agg #[.int .i64 y.1, .int .i64 y.2])).run Tryd.prog w = .ok (.bool true) w := fun w => by
            have := fr_neq x y w
            rw [decide_eq_false hxy] at this
            exact this
          have HT : Hid (decide (l = m) = false) := Lib.hid (decide_eq_false (fun e => hxy (by have h1 := HX.out; rw [e, HY.out] at h1; exact (Option.some.inj h1).symm)))
          clear hxy HX HY
          go_wp2_with fail
          go_quiet (fail)
          go_wp2_with fail
          go_ret
          exact ⟨ret_bool HT.out.symm, ((G.refl _ _).drewN _).drewN _⟩
      · obtain rfl : k = l.length := by omega
        have HT : Hid (decide (l = m) = true) := Lib.hid (decide_eq_true (by have h := HE.out; rwa [List.take_length, HL.out, List.take_length] at h))
        go_wp2_with fail
        go_ret
        exact ⟨ret_bool HT.out.symm, (G.refl _ _).drewN _⟩
  · have hlq : ((l.length : Int) != (m.length : Int)) = true := by rw [bne_iff_ne]; omega
    have hlq2 : ¬ l.length = m.length := hlen
    have HT : Hid (decide (l = m) = false) := Lib.hid (decide_eq_false (fun e => hlen (by rw [e])))
    clear hlen
    go_enter Tryd.func88, Tryd.ntmps88
    go_wp2_with fail
    go_ret
    exact ⟨ret_bool HT.out.symm, G.refl _ _⟩
set_option maxRecDepth 100000 in
set_option maxHeartbeats 4000000 in
theorem booked_c (w : World) : Calls Tryd.prog 23 #[] w fun e w' => e = .returned (.bool true) ∧ G w w' none := by
  have hB := Bk.new w 31 (boC bo1)
  have hG := (G.refl w none).alloc (.cells (boC bo1) 31)
  go_enter Tryd.func23, Tryd.ntmps23
  go_wp2_with fail
  refine (spread1_c _ _ hB).mono ?_; rintro e w1 ⟨v, rfl, hown, hG1⟩
  have hG01 := hG.trans hG1
  have hown2 := hown.alloc (.cells #[.int .i64 1, .int .i64 2, .int .i64 1, .int .i64 2] 134)
  have hN2 : Bk (w1.alloc (.cells #[.int .i64 1, .int .i64 2, .int .i64 1, .int .i64 2] 134)) w1.heap.size 134 #[.int .i64 1, .int .i64 2, .int .i64 1, .int .i64 2] := Bk.new _ _ _
  have hG02 := hG01.alloc (.cells #[.int .i64 1, .int .i64 2, .int .i64 1, .int .i64 2] 134)
  go_wp2_with fail
  refine (frEqual_c v _ [(1, 2), (1, 2)] [(1, 2), (1, 2)] _ (Rd.of_owns hown2) (hN2.rd 2 2 rfl (by omega)) (by decide)).mono ?_; rintro e w3 ⟨rfl, hG3⟩
  rw [show decide (([(1, 2), (1, 2)] : List Fr) = [(1, 2), (1, 2)]) = true by decide]
  go_wp2_with fail
  go_ret
  exact ⟨rfl, hG02.trans hG3⟩
end Go.Proofs.YtndeidcddlmhbaaDoor

/- slices.Equal of moves. Written by geneq.py. -/
namespace Go.Proofs.YtndeidcddlmhbaaDoor
open Go.RowKit

theorem mvEqual_c_neq (x y : Mv) (w : World) : (binOp .neq 196 (.agg (mvC x)) (.agg (mvC y))).run Tryd.prog w = .ok (.bool (!(decide (x = y)))) w := by
  obtain ⟨a0, a1, a2⟩ := x
  obtain ⟨b0, b1, b2⟩ := y
  have ht : Tryd.prog.underlying 196 = some (.struct (Tryd.prog.fieldsOf 196)) := by kernel_rfl
  have hp : Tryd.prog.stoodInHeld 196 = false := by kernel_rfl
  have f : ∀ a c : ByteArray, a = c ∨ (¬ a = c ∧ ¬ a.toList = c.toList) := fun a c => by
    by_cases h : a = c
    · exact .inl h
    · exact .inr ⟨h, fun e => h (eqB_iff.1 (by unfold eqB; rw [e]; simp))⟩
  rw [run_neq_struct, run_equalIn_agg w 9999 196 _ _ ht hp]
  simp [mvC, Tryd.underlying196, Tryd.underlying3, Tryd.underlying9, go_sem]
  rcases f a0 b0 with h0 | ⟨h0, g0⟩ <;>
    rcases f a1 b1 with h1 | ⟨h1, g1⟩ <;>
      by_cases h2 : a2 = b2 <;>
        simp [*]
def EqMvRel (l m : List Mv) (w : World) (i : Value) (wr : World) : Prop := ∃ k n : Nat, k ≤ l.length ∧ i = .int .i64 k ∧ l.take k = m.take k ∧ wr = w.drewN n
theorem take_succ_eqMv {l m : List Mv} {k : Nat} {x : Mv} (h : l.take k = m.take k) (hx : l[k]? = some x) (hy : m[k]? = some x) : l.take (k + 1) = m.take (k + 1) := by
  rw [List.take_add_one, List.take_add_one, h, hx, hy]
set_option maxRecDepth 100000 in
set_option maxHeartbeats 4000000 in
theorem mvEqual_c (v u : Value) (l m : List Mv) (w : World) (hr : RdR w 3 mvC v l) (hs : RdR w 3 mvC u m) (hn : l.length ≤ 1000000) :
    Calls Tryd.prog 125 #[v, u] w fun e w' => e = .returned (.bool (decide (l = m))) ∧ G w w' none := by
  have HR := Lib.hid hr
  have HS := Lib.hid hs
  obtain ⟨a, cap, rfl, hcap, hm1⟩ := RdR.form hr
  obtain ⟨a2, cap2, rfl, hcap2, hm2⟩ := RdR.form hs
  clear hr hs
  by_cases hlen : l.length = m.length
  · have hlq : ((l.length : Int) != (m.length : Int)) = false := by rw [hlen]; simp
    have hlq2 : ((m.length : Int) != (l.length : Int)) = false := by rw [hlen]; simp
    have HL := Lib.hid hlen
    clear hlen
    go_enter Tryd.func125, Tryd.ntmps125
    go_wp2_with fail
    go_loopw [13] (EqMvRel l m w) (fun i _ => l.length - (intOf i).toNat)
    case atStart => exact ⟨0, 0, by omega, rfl, rfl, rfl⟩
    case round =>
      obtain ⟨k, n, hk, rfl, heq, rfl⟩ := hrel
      have HE := Lib.hid heq
      clear heq
      by_cases hlt : k < l.length
      · obtain ⟨x, hx⟩ : ∃ x, l[k]? = some x := ⟨_, List.getElem?_eq_getElem hlt⟩
        obtain ⟨y, hy⟩ : ∃ y, m[k]? = some y := ⟨_, List.getElem?_eq_getElem (by rw [← HL.out]; exact hlt)⟩
        have hlt2 : k < m.length := by have := HL.out; omega
        obtain ⟨bb, bo, rfl, hbb, _⟩ := RdR.elem mvC_sz HR.out (G.refl w none) hx
        obtain ⟨b2, o2, rfl, hb2, _⟩ := RdR.elem mvC_sz HS.out (G.refl w none) hy
        have d0 := RdR.cell mvC_sz HR.out (G.refl w none) hx 0 (.string x.1) rfl
        have d1 := RdR.cell mvC_sz HR.out (G.refl w none) hx 1 (.string x.2.1) rfl
        have d2 := RdR.cell mvC_sz HR.out (G.refl w none) hx 2 (.int .i64 x.2.2) rfl
        have e0 := RdR.cell mvC_sz HS.out (G.refl w none) hy 0 (.string y.1) rfl
        have e1 := RdR.cell mvC_sz HS.out (G.refl w none) hy 1 (.string y.2.1) rfl
        have e2 := RdR.cell mvC_sz HS.out (G.refl w none) hy 2 (.int .i64 y.2.2) rfl
        simp only [Nat.add_zero] at d0 e0
        have HX := Lib.hid hx
        have HY := Lib.hid hy
        clear hx hy
        by_cases hxy : x = y
        · have hnq : ∀ w : World, (binOp .neq 196 (.agg #[.string x.1, .string x.2.1, .int .i64 x.2.2]) (.agg #[.string y.1, .string y.2.1, .int .i64 y.2.2])).run Tryd.prog w = .ok (.bool false) w := fun w => by
            have := mvEqual_c_neq x y w
            rw [decide_eq_true hxy] at this
            exact this
          have HT : Hid (l.take (k + 1) = m.take (k + 1)) := Lib.hid (take_succ_eqMv HE.out HX.out (by rw [hxy]; exact HY.out))
          clear hxy HX HY
          go_wp2_with fail
          go_quiet (fail)
          go_wp2_with fail
          go_roundw
          case rel => exact ⟨k + 1, _, by omega, by go_num, HT.out, rfl⟩
          case measure => simp [intOf]; omega
        · have hnq : ∀ w : World, (binOp .neq 196 (.agg #[.string x.1, .string x.2.1, .int .i64 x.2.2]) (.agg #[.string y.1, .string y.2.1, .int .i64 y.2.2])).run Tryd.prog w = .ok (.bool true) w := fun w => by
            have := mvEqual_c_neq x y w
            rw [decide_eq_false hxy] at this
            exact this
          have HT : Hid (decide (l = m) = false) := Lib.hid (decide_eq_false (fun e => hxy (by have h1 := HX.out; rw [e, HY.out] at h1; exact (Option.some.inj h1).symm)))
          clear hxy HX HY
          go_wp2_with fail
          go_quiet (fail)
          go_wp2_with fail
          go_ret
          exact ⟨ret_bool HT.out.symm, ((G.refl _ _).drewN _).drewN _⟩
      · obtain rfl : k = l.length := by omega
        have HT : Hid (decide (l = m) = true) := Lib.hid (decide_eq_true (by have h := HE.out; rwa [List.take_length, HL.out, List.take_length] at h))
        go_wp2_with fail
        go_ret
        exact ⟨ret_bool HT.out.symm, (G.refl _ _).drewN _⟩
  · have hlq : ((l.length : Int) != (m.length : Int)) = true := by rw [bne_iff_ne]; omega
    have hlq2 : ¬ l.length = m.length := hlen
    have HT : Hid (decide (l = m) = false) := Lib.hid (decide_eq_false (fun e => hlen (by rw [e])))
    clear hlen
    go_enter Tryd.func125, Tryd.ntmps125
    go_wp2_with fail
    go_ret
    exact ⟨ret_bool HT.out.symm, G.refl _ _⟩
end Go.Proofs.YtndeidcddlmhbaaDoor

/- rentlaw2's shifted. Written by gensdl.py. -/
namespace Go.Proofs.YtndeidcddlmhbaaDoor
open Go.RowKit

set_option maxRecDepth 100000 in
set_option maxHeartbeats 4000000 in
theorem shifted_c (w2 : World) : Calls Tryd.prog 70 #[] w2 fun e w' => e = .returned (.bool true) ∧ G w2 w' none := by
  go_enter Tryd.func70, Tryd.ntmps70
  go_wp2_with fail
  have hNe : RdR ((w2.alloc (.cells #[.string ⟨#[97]⟩, .int .i64 1, .string ⟨#[98]⟩, .int .i64 (-1)] 189)).alloc (.cells #[.string ⟨#[97]⟩, .string ⟨#[98]⟩, .int .i64 4, .int .i64 0] 192)) 2 neC (.slice (some ⟨w2.heap.size, 0, none⟩) 2 2) [(sA, 1), (sB, -1)] := ((Bk.new w2 189 #[.string ⟨#[97]⟩, .int .i64 1, .string ⟨#[98]⟩, .int .i64 (-1)]).alloc (.cells #[.string ⟨#[97]⟩, .string ⟨#[98]⟩, .int .i64 4, .int .i64 0] 192)).rd 2 2 rfl (by omega)
  have hRo : RdR ((w2.alloc (.cells #[.string ⟨#[97]⟩, .int .i64 1, .string ⟨#[98]⟩, .int .i64 (-1)] 189)).alloc (.cells #[.string ⟨#[97]⟩, .string ⟨#[98]⟩, .int .i64 4, .int .i64 0] 192)) 4 roC (.slice (some ⟨w2.heap.size + 1, 0, none⟩) 1 1) [(sA, sB, 4, 0)] := (Bk.newAt (w := w2.alloc (.cells #[.string ⟨#[97]⟩, .int .i64 1, .string ⟨#[98]⟩, .int .i64 (-1)] 189)) (b := w2.heap.size + 1) (by simp) 192 #[.string ⟨#[97]⟩, .string ⟨#[98]⟩, .int .i64 4, .int .i64 0]).rd 4 1 rfl (by omega)
  refine (plan_c _ _ _ hNe hRo).mono ?_; rintro e w3 ⟨v3, rfl, hR3, hh⟩
  have hG := (((G.refl w2 none).alloc (.cells #[.string ⟨#[97]⟩, .int .i64 1, .string ⟨#[98]⟩, .int .i64 (-1)] 189)).alloc (.cells #[.string ⟨#[97]⟩, .string ⟨#[98]⟩, .int .i64 4, .int .i64 0] 192)).trans hh
  clear hh hNe hRo
  obtain ⟨a3, c3, rfl, -, -⟩ := RdR.form hR3
  have hM : RdR (w3.alloc (.cells #[.string ⟨#[97]⟩, .string ⟨#[98]⟩, .int .i64 1] 196)) 3 mvC (.slice (some ⟨w3.heap.size, 0, none⟩) 1 1) [(sA, sB, 1)] := (Bk.new w3 196 #[.string ⟨#[97]⟩, .string ⟨#[98]⟩, .int .i64 1]).rd 3 1 rfl (by omega)
  have hR4 := hR3.quiet ((G.refl w3 none).alloc (.cells #[.string ⟨#[97]⟩, .string ⟨#[98]⟩, .int .i64 1] 196))
  replace hG := hG.alloc (.cells #[.string ⟨#[97]⟩, .string ⟨#[98]⟩, .int .i64 1] 196)
  clear hR3
  go_wp2_with fail
  refine (mvEqual_c _ _ [(sA, sB, 1)] [(sA, sB, 1)] _ hR4 hM (by simp)).mono ?_; rintro e w5 ⟨rfl, hh⟩
  rw [show decide (([(sA, sB, 1)] : List Mv) = [(sA, sB, 1)]) = true by simp]
  replace hG := hG.trans hh
  go_wp2_with fail
  go_ret
  exact ⟨rfl, hG⟩
end Go.Proofs.YtndeidcddlmhbaaDoor

/- A map whose keys are of any kind, told by a function from the keys to the values that stand at them, and by how many there are. No program. -/
namespace Go.Proofs.YtndeidcddlmhbaaDoor
open Go.RowKit Go.ChangeMaps Go.MapKept
open Go.Maps (Keyed IsMap Tidy has size)

/-- A kind of keys: which are good, their values, how they are told. -/
structure KeyK (P : Program) (k : TypeId) (κ : Type) where
  ok : κ → Prop
  v : κ → Value
  l : κ → Lit
  keyed : Maps.Keyed P k
  of : ∀ x, ok x → keyOf P k (v x) = some (l x)
  inj : ∀ x y, v x = v y → x = y
theorem KeyK.isk {P : Program} {k : TypeId} {κ : Type} (KK : KeyK P k κ) {x : κ} (h : KK.ok x) : WideAt.IsKeyLit (KK.l x) := KK.keyed.key (KK.of x h)
theorem KeyK.linj {P : Program} {k : TypeId} {κ : Type} (KK : KeyK P k κ) {x y : κ} (hx : KK.ok x) (hy : KK.ok y) (h : x ≠ y) : KK.l x ≠ KK.l y := fun e => h (KK.inj x y (KK.keyed.inj (KK.of x hx) (by rw [e]; exact KK.of y hy)))
abbrev FnK (κ : Type) := κ → Option Value
/-- What a map holds, as a datum. -/
def MapIsK {P : Program} {k : TypeId} {κ : Type} (KK : KeyK P k κ) (D : DataW Value) (c : Nat) (f : FnK κ) : Prop := Tidy D ∧ size D = c ∧ ∀ s, KK.ok s → has D (KK.l s) = (f s).isSome ∧ ∀ v, f s = some v → ∀ z, D.atKey (KK.l s) z = .held v
/-- Block 'b' is a map of 'c' keys that holds what 'f' says. -/
def OwnK {P : Program} {k : TypeId} {κ : Type} (KK : KeyK P k κ) (w : World) (b c : Nat) (f : FnK κ) : Prop := ∃ D n, w.ownsMap P k RV b n D ∧ n ≤ c ∧ MapIsK KK D c f
def fputK {κ : Type} [DecidableEq κ] (f : FnK κ) (s : κ) (v : Value) : FnK κ := fun t => if t = s then some v else f t
def fdelK {κ : Type} [DecidableEq κ] (f : FnK κ) (s : κ) : FnK κ := fun t => if t = s then none else f t
def cputK {κ : Type} (c : Nat) (f : FnK κ) (s : κ) : Nat := if (f s).isSome = true then c else c + 1
section
variable {P : Program} {k : TypeId} {κ : Type} (KK : KeyK P k κ)
theorem MapIsK.empty : MapIsK KK (.map []) 0 (fun _ => none) := ⟨Maps.tidy_empty, rfl, fun _ _ => ⟨rfl, fun _ h => by cases h⟩⟩
variable {KK}
theorem MapIsK.put [DecidableEq κ] {D : DataW Value} {c : Nat} {f : FnK κ} (h : MapIsK KK D c f) {s : κ} (hs : KK.ok s) (v : Value) : MapIsK KK (D.put (KK.l s) (.held v)) (cputK c f s) (fputK f s v) := by
  obtain ⟨h1, h2, h3⟩ := h
  refine ⟨h1.put (KK.isk hs) _, ?_, fun t ht => ?_⟩
  · rw [Maps.size_put h1, (h3 s hs).1, h2]
    rfl
  · by_cases e : t = s
    · subst e
      simp only [fputK, if_pos]
      exact ⟨by rw [Maps.has_put_same h1.isMap (KK.isk ht)]; rfl, fun u hu z => by cases hu; exact Maps.atKey_put_same h1.isMap (KK.isk ht) _ _⟩
    · simp only [fputK, if_neg e]
      exact ⟨by rw [Maps.has_put_other (KK.linj ht hs e)]; exact (h3 t ht).1, fun u hu z => by rw [Maps.atKey_put_other (KK.linj ht hs e)]; exact (h3 t ht).2 u hu z⟩
theorem MapIsK.del [DecidableEq κ] {D : DataW Value} {c : Nat} {f : FnK κ} (h : MapIsK KK D c f) {s : κ} (hs : KK.ok s) : MapIsK KK (D.del (KK.l s)) (if (f s).isSome = true then c - 1 else c) (fdelK f s) := by
  obtain ⟨h1, h2, h3⟩ := h
  refine ⟨h1.del _, ?_, fun t ht => ?_⟩
  · have := Maps.size_del h1 (k := KK.l s)
    rw [(h3 s hs).1, h2] at this
    split at this <;> simp_all <;> omega
  · by_cases e : t = s
    · subst e
      simp only [fdelK, if_pos]
      exact ⟨by rw [Maps.has_del_same]; rfl, fun u hu => by cases hu⟩
    · simp only [fdelK, if_neg e]
      exact ⟨by rw [Maps.has_del_other (KK.linj ht hs e)]; exact (h3 t ht).1, fun u hu z => by rw [Maps.atKey_del_other (KK.linj ht hs e)]; exact (h3 t ht).2 u hu z⟩
end
section
variable {P : Program} {k : TypeId} {κ : Type} {KK : KeyK P k κ} {w : World} {b c : Nat} {f : FnK κ}
theorem OwnK.made (w : World) (KK : KeyK P k κ) {b : Nat} (hb : w.heap.size = b) : OwnK KK (w.alloc (.map #[] 0)) b 0 (fun _ => none) := by
  subst hb
  exact ⟨_, 0, World.ownsMap_made w P k RV, Nat.le_refl _, MapIsK.empty KK⟩
theorem OwnK.lt (h : OwnK KK w b c f) : b < w.heap.size := by obtain ⟨D, n, h, _⟩ := h; exact h.lt
theorem OwnK.grown {w' : World} {s : Option Nat} (h : OwnK KK w b c f) (hg : G w w' s) (hs : some b ≠ s) : OwnK KK w' b c f := by obtain ⟨D, n, h, r⟩ := h; exact ⟨D, n, h.kept hg hs, r⟩
theorem OwnK.quiet {w' : World} (h : OwnK KK w b c f) (hg : G w w' none) : OwnK KK w' b c f := h.grown hg (by simp)
theorem OwnK.alloc (h : OwnK KK w b c f) (o : Obj) : OwnK KK (w.alloc o) b c f := h.quiet ((G.refl _ _).alloc o)
theorem OwnK.drewN (h : OwnK KK w b c f) (n : Nat) : OwnK KK (w.drewN n) b c f := h.quiet ((G.refl _ _).drewN n)
theorem OwnK.setCell (h : OwnK KK w b c f) {p : Addr} (hp : b ≠ p.block) (u : Value) : OwnK KK (w.setCell p u) b c f := h.grown (grownBy_setCell_row w p u) (by simpa using hp)
theorem OwnK.setRow (h : OwnK KK w b c f) {g : Nat} (hp : b ≠ g) (cs : Array Value) : OwnK KK (w.setRow g cs) b c f := h.grown (grownBy_setRow w g cs) (by simpa using hp)
theorem OwnK.look {t e : TypeId} (h : OwnK KK w b c f) (ht : P.underlying t = some (.map k e)) {z : Value} (hz : (zeroValue e).run P w = .ok z w) {s : κ} (hs : KK.ok s) :
    (Instr.lookup t (.map (some b)) (KK.v s) false).run P w = .ok ((f s).getD z) w := by
  obtain ⟨D, n, h, _, h1, h2, h3⟩ := h
  obtain ⟨v, ps, hrun, hv⟩ := h.lookup KK.keyed ht hz (zd := .held z) (zp := []) rfl (KK.of s hs)
  rw [hrun]
  have e : DataW.held v = D.atKey (KK.l s) (.held z) := by have := congrArg (fun o => o.map Prod.fst) hv; simpa [RV] using this
  cases hf : f s with
  | none =>
    have hn := (h3 s hs).1
    rw [hf] at hn
    rw [Maps.atKey_of_not_has hn] at e
    injection e with e
    rw [e]; rfl
  | some u =>
    rw [(h3 s hs).2 u hf] at e
    injection e with e
    rw [e]; rfl
theorem OwnK.look_ok {t e : TypeId} (h : OwnK KK w b c f) (ht : P.underlying t = some (.map k e)) {z : Value} (hz : (zeroValue e).run P w = .ok z w) {s : κ} (hs : KK.ok s) :
    (Instr.lookup t (.map (some b)) (KK.v s) true).run P w = .ok (.tuple #[(f s).getD z, .bool (f s).isSome]) w := by
  obtain ⟨D, n, h, _, h1, h2, h3⟩ := h
  obtain ⟨v, ps, hrun, hv⟩ := h.look_ok KK.keyed ht hz (zd := .held z) (zp := []) rfl (KK.of s hs)
  rw [hrun]
  have e : DataW.held v = D.atKey (KK.l s) (.held z) := by have := congrArg (fun o => o.map Prod.fst) hv; simpa [RV] using this
  have hb : has D (KK.l s) = (f s).isSome := (h3 s hs).1
  rw [show Maps.has D (KK.l s) = (f s).isSome from hb]
  cases hf : f s with
  | none =>
    have hn := (h3 s hs).1
    rw [hf] at hn
    rw [Maps.atKey_of_not_has hn] at e
    injection e with e
    rw [e]; rfl
  | some u =>
    rw [(h3 s hs).2 u hf] at e
    injection e with e
    rw [e]; rfl
theorem OwnK.store [DecidableEq κ] {t e : TypeId} (h : OwnK KK w b c f) (ht : P.underlying t = some (.map k e)) (hc : c < maxLen) {s : κ} (hs : KK.ok s) (v : Value) :
    ∃ w', (Instr.mapUpdate t (.map (some b)) (KK.v s) v).run P w = .ok () w' ∧ OwnK KK w' b (cputK c f s) (fputK f s v) ∧ w.grownBy w' (some b) := by
  obtain ⟨D, n, h, hn, hM⟩ := h
  obtain ⟨w', hrun, h1, h2⟩ := h.update KK.keyed ht (Nat.lt_of_le_of_lt hn hc) (KK.of s hs) (val := v) (d := .held v) (ps := []) rfl
  have hM' := hM.put hs v
  refine ⟨w', hrun, ⟨_, size (D.put (KK.l s) (.held v)), ?_, Nat.le_of_eq hM'.2.1, hM'⟩, h2⟩
  obtain ⟨es, clock, hb, F, _, hD⟩ := h1
  have hD' : D.put (KK.l s) (.held v) = .map ((es.toList.map (Go.WideElems.rg P k RV)).foldr DataW.insert []) := hD
  refine ⟨es, clock, hb, F, ?_, hD⟩
  rw [hD']
  simp [size, length_sorted]
theorem OwnK.drop [DecidableEq κ] {t e : TypeId} (h : OwnK KK w b c f) (ht : P.underlying t = some (.map k e)) {s : κ} (hs : KK.ok s) (ty : TypeId) :
    ∃ w', (Builtin.delete_ #[t, k] ty #[.map (some b), KK.v s]).run P w = .ok (.tuple #[]) w' ∧ OwnK KK w' b (if (f s).isSome = true then c - 1 else c) (fdelK f s) ∧ w.grownBy w' (some b) := by
  obtain ⟨D, n, h, hn, hM⟩ := h
  obtain ⟨w', hrun, h1, h2⟩ := h.drop KK.keyed ht (KK.of s hs) ty
  have hM' := hM.del hs
  refine ⟨w', hrun, ⟨_, size (D.del (KK.l s)), ?_, Nat.le_of_eq hM'.2.1, hM'⟩, h2.grown⟩
  obtain ⟨es, clock, hb, F, _, hD⟩ := h1
  have hD' : D.del (KK.l s) = .map ((es.toList.map (Go.WideElems.rg P k RV)).foldr DataW.insert []) := hD
  refine ⟨es, clock, hb, F, ?_, hD⟩
  rw [hD']
  simp [size, length_sorted]
end

/-! ### At the operation, for the walk -/
section
variable {P : Program} {k : TypeId} {κ : Type} {KK : KeyK P k κ} {w : World} {ops : Array Oper} {rest : List Oper} {o : Oper} {a : Act} {Q : Exit → Act → World → Prop}
theorem wpK_look (hg : o.guard = none) (m x : Operand) (t : TypeId) (hop : o.op = Op.lookup t m x false) (e : TypeId) (ht : P.underlying t = some (.map k e)) (z : Value) (hz : (zeroValue e).run P w = .ok z w)
    (b c : Nat) (f : FnK κ) (hm : a.eval m = .map (some b)) (hown : OwnK KK w b c f) (s : κ) (hx : a.eval x = KK.v s) (hs : KK.ok s) (hK : wpList P ops Q rest (a.put o.dst ((f s).getD z)) w) : wpList P ops Q (o :: rest) a w := by
  refine wpList_plain hg fun K' hK' => ?_
  unfold Oper.wp
  simp [execOp, hop, hm, hx, hown.look ht hz hs, Result.andThen]
  exact hK' _ _ hK
theorem wpK_look_ok (hg : o.guard = none) (m x : Operand) (t : TypeId) (hop : o.op = Op.lookup t m x true) (e : TypeId) (ht : P.underlying t = some (.map k e)) (z : Value) (hz : (zeroValue e).run P w = .ok z w)
    (b c : Nat) (f : FnK κ) (hm : a.eval m = .map (some b)) (hown : OwnK KK w b c f) (s : κ) (hx : a.eval x = KK.v s) (hs : KK.ok s) (hK : wpList P ops Q rest (a.put o.dst (.tuple #[(f s).getD z, .bool (f s).isSome])) w) : wpList P ops Q (o :: rest) a w := by
  refine wpList_plain hg fun K' hK' => ?_
  unfold Oper.wp
  simp [execOp, hop, hm, hx, hown.look_ok ht hz hs, Result.andThen]
  exact hK' _ _ hK
theorem wpK_store [DecidableEq κ] (hg : o.guard = none) (m x v : Operand) (t : TypeId) (hop : o.op = Op.mapUpdate t m x v) (e : TypeId) (ht : P.underlying t = some (.map k e))
    (b c : Nat) (f : FnK κ) (hm : a.eval m = .map (some b)) (hown : OwnK KK w b c f) (hc : c < maxLen) (s : κ) (hx : a.eval x = KK.v s) (hs : KK.ok s) (u : Value) (hv : a.eval v = u)
    (hK : ∀ w', OwnK KK w' b (cputK c f s) (fputK f s u) → w.grownBy w' (some b) → wpList P ops Q rest (a.put o.dst undef) w') : wpList P ops Q (o :: rest) a w := by
  refine wpList_plain hg fun K' hK' => ?_
  obtain ⟨w', hrun, r1, r2⟩ := hown.store ht hc hs u
  unfold Oper.wp
  simp [execOp, hop, hm, hx, hv, hrun, Result.andThen]
  exact hK' _ _ (hK w' r1 r2)
theorem wpK_delete [DecidableEq κ] (hg : o.guard = none) (m x : Operand) (t : TypeId) (hop : o.op = Op.call { callee := Callee.builtin Builtin.delete, args := #[m, x], argTypes := #[t, k] }) (e : TypeId) (ht : P.underlying t = some (.map k e))
    (b c : Nat) (f : FnK κ) (hm : a.eval m = .map (some b)) (hown : OwnK KK w b c f) (s : κ) (hx : a.eval x = KK.v s) (hs : KK.ok s)
    (hK : ∀ w', OwnK KK w' b (if (f s).isSome = true then c - 1 else c) (fdelK f s) → w.grownBy w' (some b) → wpList P ops Q rest (a.put o.dst (.tuple #[])) w') : wpList P ops Q (o :: rest) a w := by
  refine wpList_plain hg fun K' hK' => ?_
  obtain ⟨w', hrun, r1, r2⟩ := hown.drop ht hs o.type
  unfold Oper.wp
  simp [execOp, hop, resolve, invoke, builtin, hm, hx, hrun, Result.andThen]
  exact hK' _ _ (hK w' r1 r2)
theorem wpK_len (hg : o.guard = none) (m : Operand) (t : TypeId) (hop : o.op = Op.call { callee := Callee.builtin Builtin.len, args := #[m], argTypes := #[t] }) (e : TypeId) (ht : P.underlying t = some (.map k e))
    (b c : Nat) (f : FnK κ) (hm : a.eval m = .map (some b)) (hown : OwnK KK w b c f) (hK : wpList P ops Q rest (a.put o.dst (.int .i64 c)) w) : wpList P ops Q (o :: rest) a w := by
  obtain ⟨D, n, h, _, h1, h2, h3⟩ := hown
  refine wpList_len_own w hg m t hop k e ht RV b n D hm h ?_
  rw [h2]
  exact hK
end
end Go.Proofs.YtndeidcddlmhbaaDoor

/- Workshop: slots, wanted, placed and busy ones (mathematics). -/
namespace Go.Proofs.YtndeidcddlmhbaaDoor
open Go.RowKit

abbrev Wsl := Int × Int
def wslC (x : Wsl) : Array Value := #[.int .i64 x.1, .int .i64 x.2]
theorem wslC_sz (x : Wsl) : (wslC x).size = 2 := rfl
abbrev Wsw := ByteArray × Int × Int
def wswC (x : Wsw) : Array Value := #[.string x.1, .int .i64 x.2.1, .int .i64 x.2.2]
theorem wswC_sz (x : Wsw) : (wswC x).size = 3 := rfl
abbrev Wsp := ByteArray × Int
def wspC (x : Wsp) : Array Value := #[.string x.1, .int .i64 x.2]
theorem wspC_sz (x : Wsp) : (wspC x).size = 2 := rfl
abbrev Wsb := ByteArray × Int × Int × Int
def wsbC (x : Wsb) : Array Value := #[.string x.1, .int .i64 x.2.1, .int .i64 x.2.2.1, .int .i64 x.2.2.2]
theorem wsbC_sz (x : Wsb) : (wsbC x).size = 4 := rfl
/-- The days from one on, before another one, are right. -/
def arB (f t : Int) : Bool := inB f 0 t && decide (t ≤ 4001)
theorem arE (f t x : Int) : (if arB f t = false then 1 else x) = if inB f 0 t = false then 1 else if 4001 < t then 1 else x := by
  unfold arB
  cases inB f 0 t
  · rfl
  · by_cases h : 4001 < t
    · have h2 : ¬ t ≤ 4001 := by omega
      simp [h, h2]
    · have h2 : t ≤ 4001 := by omega
      simp [h, h2]
def wslErr (b : Int) : List Wsl → Int
  | [] => 0
  | x :: r => if inB x.1 0 4000 = false then 1 else if inB x.2 0 20 = false then 1 else if x.1 ≤ b then 7 else wslErr x.1 r
def wslE (l : List Wsl) : Int := if 12 < l.length then 2 else wslErr (-1) l
def wslB (l : List Wsl) : Nat → Int
  | 0 => -1
  | m + 1 => match l[m]? with | some x => x.1 | none => 0
def wswErr (b : ByteArray) : List Wsw → Int
  | [] => 0
  | x :: r => if keyB x.1 = false then 5 else if leB x.1 b = true then 7 else if arB x.2.1 x.2.2 = false then 1 else wswErr x.1 r
def wswE (l : List Wsw) : Int := if 6 < l.length then 2 else wswErr ⟨#[]⟩ l
def wspErr (b : ByteArray) : List Wsp → Int
  | [] => 0
  | x :: r => if keyB x.1 = false then 5 else if leB x.1 b = true then 7 else if inB x.2 0 4000 = false then 1 else wspErr x.1 r
def wspE (l : List Wsp) : Int := if 6 < l.length then 2 else wspErr ⟨#[]⟩ l
def wsbErr : List Wsb → Int
  | [] => 0
  | x :: r => if keyB x.1 = false then 5 else if arB x.2.1 x.2.2.1 = false then 1 else if inB x.2.2.2 0 1000000 = false then 1 else wsbErr r
def wsbE (l : List Wsb) : Int := if 200 < l.length then 2 else wsbErr l
/-- How many are placed on a day. -/
def cnt (d : Int) : List Wsp → Int
  | [] => 0
  | p :: r => (if p.2 = d then 1 else 0) + cnt d r
theorem cnt_snoc (d : Int) (l : List Wsp) (p : Wsp) : cnt d (l ++ [p]) = cnt d l + if p.2 = d then 1 else 0 := by
  induction l with
  | nil => simp [cnt]
  | cons a r ih => show (if a.2 = d then 1 else 0) + cnt d (r ++ [p]) = (if a.2 = d then 1 else 0) + cnt d r + _; rw [ih]; omega
theorem cnt_bnd (d : Int) (l : List Wsp) : 0 ≤ cnt d l ∧ cnt d l ≤ l.length := by
  induction l with
  | nil => simp [cnt]
  | cons a r ih =>
    unfold cnt
    rw [List.length_cons]
    split <;> omega
theorem cnt_pos {d : Int} {l : List Wsp} (h : 0 < cnt d l) : ∃ p ∈ l, p.2 = d := by
  induction l with
  | nil => simp [cnt] at h
  | cons a r ih =>
    by_cases e : a.2 = d
    · exact ⟨a, List.mem_cons_self, e⟩
    · unfold cnt at h
      rw [if_neg e] at h
      obtain ⟨p, hp, e⟩ := ih (by omega)
      exact ⟨p, List.mem_cons_of_mem _ hp, e⟩
/-- The room of the days. -/
def rmF : List Wsl → Int → Option Int
  | [], _ => none
  | s :: r, d => match rmF r d with | some u => some u | none => if d = s.1 then some s.2 else none
theorem rmF_snoc (l : List Wsl) (s : Wsl) (d : Int) : rmF (l ++ [s]) d = if d = s.1 then some s.2 else rmF l d := by
  induction l with
  | nil => simp [rmF]
  | cons a r ih =>
    show (match rmF (r ++ [s]) d with | some u => some u | none => if d = a.1 then some a.2 else none) = _
    rw [ih]
    by_cases h : d = s.1
    · rw [if_pos h, if_pos h]
    · rw [if_neg h, if_neg h]; rfl
theorem rmF_none {l : List Wsl} {d : Int} : rmF l d = none ↔ ∀ s ∈ l, s.1 ≠ d := by
  induction l with
  | nil => simp [rmF]
  | cons a r ih =>
    unfold rmF
    cases h : rmF r d with
    | some u =>
      simp only [reduceCtorEq, List.mem_cons, forall_eq_or_imp, false_iff, not_and]
      intro _ q
      rw [ih.2 q] at h
      cases h
    | none =>
      have := ih.1 h
      by_cases e : d = a.1
      · subst e; simp
      · simp only [if_neg e, List.mem_cons, forall_eq_or_imp, true_iff]
        exact ⟨fun q => e q.symm, this⟩
/-- The map of the rooms, when some are placed. -/
def rmV (sl : List Wsl) (l : List Wsp) : FnK Int := fun d => (rmF sl d).map fun u => .int .i64 (u - cnt d l)
theorem rmV_slot (sl : List Wsl) (s : Wsl) : rmV (sl ++ [s]) [] = fputK (rmV sl []) s.1 (.int .i64 s.2) := by
  funext d
  unfold rmV fputK
  rw [rmF_snoc]
  by_cases h : d = s.1
  · rw [if_pos h, if_pos h]; simp [cnt]
  · rw [if_neg h, if_neg h]
theorem rmV_place (sl : List Wsl) (l : List Wsp) (p : Wsp) {u : Int} (h : rmF sl p.2 = some u) : rmV sl (l ++ [p]) = fputK (rmV sl l) p.2 (.int .i64 (u - cnt p.2 l - 1)) := by
  funext d
  unfold rmV fputK
  by_cases e : d = p.2
  · subst e
    rw [if_pos rfl, h, cnt_snoc, if_pos rfl]
    simp only [Option.map_some]
    congr 2
    omega
  · rw [if_neg e, cnt_snoc, if_neg (fun q => e q.symm), Int.add_zero]
/-- The errors of placed ones, all else right. -/
def plR (sl : List Wsl) : List Wsw → List Wsp → Int
  | x :: w, p :: l => if ¬ (x.2.1 ≤ p.2 ∧ p.2 < x.2.2) then 16 else if rmF sl p.2 = none then 8 else plR sl w l
  | _, _ => 0
def plG (sl : List Wsl) (l0 : List Wsp) : List Wsp → Int
  | [] => 0
  | p :: r => if (rmF sl p.2).getD 0 - cnt p.2 l0 < 0 then 12 else plG sl l0 r
def plF (l0 : List Wsp) : List Wsl → Int
  | [] => 0
  | s :: r => if s.2 < cnt s.1 l0 then 12 else plF l0 r
def plX (sl : List Wsl) (w : List Wsw) (l : List Wsp) : Int := if w.map (·.1) ≠ l.map (·.1) then 3 else if plR sl w l = 0 then plF l sl else plR sl w l
theorem plR_all {sl : List Wsl} : ∀ {w : List Wsw} {l : List Wsp}, w.length = l.length → plR sl w l = 0 → ∀ p ∈ l, rmF sl p.2 ≠ none := by
  intro w
  induction w with
  | nil =>
    intro l h _ p hp
    cases l with
    | nil => cases hp
    | cons a r => simp at h
  | cons x w ih =>
    intro l h h0 p hp
    cases l with
    | nil => cases hp
    | cons a r =>
      unfold plR at h0
      split at h0
      · omega
      split at h0
      · omega
      rename_i h2
      rcases List.mem_cons.1 hp with rfl | hp
      · exact h2
      · exact ih (by simpa using h) h0 p hp
theorem wslErr_gt {l : List Wsl} : ∀ {b : Int}, wslErr b l = 0 → ∀ s ∈ l, b < s.1 ∧ 0 ≤ s.2 ∧ rmF l s.1 = some s.2 := by
  induction l with
  | nil => intro b _ s hs; cases hs
  | cons a r ih =>
    intro b h s hs
    unfold wslErr at h
    split at h
    · omega
    split at h
    · omega
    rename_i k2
    split at h
    · omega
    rename_i k3
    have hq := ih h
    have h2 : 0 ≤ a.2 := by simp [inB] at k2; omega
    rcases List.mem_cons.1 hs with rfl | hs
    · refine ⟨by omega, h2, ?_⟩
      have : rmF r s.1 = none := rmF_none.2 fun t ht e => by have := (hq t ht).1; omega
      unfold rmF
      rw [this]
      simp
    · obtain ⟨q1, q2, q3⟩ := hq s hs
      exact ⟨by omega, q2, by unfold rmF; rw [q3]⟩
theorem plG_12 {sl : List Wsl} {l0 l : List Wsp} : plG sl l0 l = 0 ∨ plG sl l0 l = 12 := by
  induction l with
  | nil => exact .inl rfl
  | cons a r ih =>
    unfold plG
    split
    · exact .inr rfl
    · exact ih
theorem plF_12 {sl : List Wsl} {l0 : List Wsp} : plF l0 sl = 0 ∨ plF l0 sl = 12 := by
  induction sl with
  | nil => exact .inl rfl
  | cons a r ih =>
    unfold plF
    split
    · exact .inr rfl
    · exact ih
theorem plG_zero {sl : List Wsl} {l0 l : List Wsp} : plG sl l0 l = 0 ↔ ∀ p ∈ l, ¬ (rmF sl p.2).getD 0 - cnt p.2 l0 < 0 := by
  induction l with
  | nil => simp [plG]
  | cons a r ih =>
    unfold plG
    by_cases h : (rmF sl a.2).getD 0 - cnt a.2 l0 < 0
    · rw [if_pos h]
      constructor
      · intro q; omega
      · intro q; exact absurd h (q a List.mem_cons_self)
    · rw [if_neg h, ih]
      simp only [List.mem_cons, forall_eq_or_imp]
      exact ⟨fun q => ⟨h, q⟩, fun q => q.2⟩
theorem plF_zero {sl : List Wsl} {l0 : List Wsp} : plF l0 sl = 0 ↔ ∀ s ∈ sl, ¬ s.2 < cnt s.1 l0 := by
  induction sl with
  | nil => simp [plF]
  | cons a r ih =>
    unfold plF
    by_cases h : a.2 < cnt a.1 l0
    · rw [if_pos h]
      constructor
      · intro q; omega
      · intro q; exact absurd h (q a List.mem_cons_self)
    · rw [if_neg h, ih]
      simp only [List.mem_cons, forall_eq_or_imp]
      exact ⟨fun q => ⟨h, q⟩, fun q => q.2⟩
theorem rmF_mem {sl : List Wsl} {d u : Int} (h : rmF sl d = some u) : (d, u) ∈ sl := by
  induction sl with
  | nil => cases h
  | cons a r ih =>
    unfold rmF at h
    cases hr : rmF r d with
    | some x => rw [hr] at h; cases h; exact List.mem_cons_of_mem _ (ih hr)
    | none =>
      rw [hr] at h
      dsimp only at h
      split at h
      · rename_i e; cases h; subst e; exact List.mem_cons_self
      · cases h
/-- The program's last loop is the reference's. -/
theorem plG_F {sl : List Wsl} {w : List Wsw} {l : List Wsp} (hs : wslE sl = 0) (hl : w.length = l.length) (h0 : plR sl w l = 0) : plG sl l l = plF l sl := by
  have hs' : wslErr (-1) sl = 0 := by
    unfold wslE at hs
    split at hs
    · omega
    · exact hs
  have hq := wslErr_gt hs'
  have ha := plR_all hl h0
  have : plG sl l l = 0 ↔ plF l sl = 0 := by
    rw [plG_zero, plF_zero]
    constructor
    · intro h s hm c
      obtain ⟨q1, q2, q3⟩ := hq s hm
      obtain ⟨p, hp, e⟩ := cnt_pos (d := s.1) (l := l) (by omega)
      have := h p hp
      rw [e, q3] at this
      simp only [Option.getD_some] at this
      omega
    · intro h p hp c
      cases hr : rmF sl p.2 with
      | none => exact ha p hp hr
      | some u =>
        rw [hr] at c
        have := h _ (rmF_mem hr)
        simp only [Option.getD_some] at c
        dsimp only at this
        omega
  rcases plG_12 (sl := sl) (l0 := l) (l := l) with a | a <;> rcases plF_12 (sl := sl) (l0 := l) with b | b <;> simp_all
/-- What is lost. -/
def hitL (x : Wsb) (p : Wsp) : Int := if x.1 = p.1 ∧ x.2.1 ≤ p.2 ∧ p.2 < x.2.2.1 then x.2.2.2 else 0
def lbL (p : Wsp) : List Wsb → Int
  | [] => 0
  | x :: r => hitL x p + lbL p r
def lpL (x : Wsb) : List Wsp → Int
  | [] => 0
  | p :: r => hitL x p + lpL x r
def loL (b : List Wsb) : List Wsp → Int
  | [] => 0
  | p :: r => lbL p b + loL b r
def roL (l : List Wsp) : List Wsb → Int
  | [] => 0
  | x :: r => lpL x l + roL l r
theorem roL_cons (l : List Wsp) (p : Wsp) (b : List Wsb) : roL (p :: l) b = lbL p b + roL l b := by
  induction b with
  | nil => rfl
  | cons x r ih => show hitL x p + lpL x l + roL (p :: l) r = hitL x p + lbL p r + (lpL x l + roL l r); rw [ih]; omega
theorem lo_ro (b : List Wsb) (l : List Wsp) : roL l b = loL b l := by
  induction l with
  | nil =>
    induction b with
    | nil => rfl
    | cons x r ih => show 0 + roL [] r = _; rw [ih]; rfl
  | cons p l ih => rw [roL_cons, ih]; rfl
theorem lbL_snoc (p : Wsp) (b : List Wsb) (x : Wsb) : lbL p (b ++ [x]) = lbL p b + hitL x p := by
  induction b with
  | nil => show hitL x p + 0 = 0 + hitL x p; omega
  | cons a r ih => show hitL a p + lbL p (r ++ [x]) = hitL a p + lbL p r + _; rw [ih]; omega
theorem lpL_snoc (x : Wsb) (l : List Wsp) (p : Wsp) : lpL x (l ++ [p]) = lpL x l + hitL x p := by
  induction l with
  | nil => show hitL x p + 0 = 0 + hitL x p; omega
  | cons a r ih => show hitL x a + lpL x (r ++ [p]) = hitL x a + lpL x r + _; rw [ih]; omega
theorem loL_snoc (b : List Wsb) (l : List Wsp) (p : Wsp) : loL b (l ++ [p]) = loL b l + lbL p b := by
  induction l with
  | nil => show lbL p b + 0 = 0 + lbL p b; omega
  | cons a r ih => show lbL a b + loL b (r ++ [p]) = lbL a b + loL b r + _; rw [ih]; omega
theorem roL_snoc (l : List Wsp) (b : List Wsb) (x : Wsb) : roL l (b ++ [x]) = roL l b + lpL x l := by
  induction b with
  | nil => show lpL x l + 0 = 0 + lpL x l; omega
  | cons a r ih => show lpL a l + roL l (r ++ [x]) = lpL a l + roL l r + _; rw [ih]; omega
def WsbIn (b : List Wsb) : Prop := ∀ x ∈ b, 0 ≤ x.2.2.2 ∧ x.2.2.2 ≤ 1000000
theorem hit_bnd {x : Wsb} (h : 0 ≤ x.2.2.2 ∧ x.2.2.2 ≤ 1000000) (p : Wsp) : 0 ≤ hitL x p ∧ hitL x p ≤ 1000000 := by
  unfold hitL; split <;> omega
theorem lbL_bnd {b : List Wsb} (h : WsbIn b) (p : Wsp) : 0 ≤ lbL p b ∧ lbL p b ≤ 1000000 * b.length := by
  induction b with
  | nil => simp [lbL]
  | cons x r ih =>
    have h1 := ih fun y hy => h y (List.mem_cons_of_mem _ hy)
    have h2 := hit_bnd (h x List.mem_cons_self) p
    show 0 ≤ hitL x p + lbL p r ∧ hitL x p + lbL p r ≤ _
    rw [List.length_cons]
    omega
theorem lpL_bnd {x : Wsb} (h : 0 ≤ x.2.2.2 ∧ x.2.2.2 ≤ 1000000) (l : List Wsp) : 0 ≤ lpL x l ∧ lpL x l ≤ 1000000 * l.length := by
  induction l with
  | nil => simp [lpL]
  | cons p r ih =>
    have h2 := hit_bnd h p
    show 0 ≤ hitL x p + lpL x r ∧ hitL x p + lpL x r ≤ _
    rw [List.length_cons]
    omega
theorem loL_bnd {b : List Wsb} (h : WsbIn b) (hb : b.length ≤ 200) (l : List Wsp) : 0 ≤ loL b l ∧ loL b l ≤ 200000000 * l.length := by
  induction l with
  | nil => simp [loL]
  | cons p r ih =>
    have h2 := lbL_bnd h p
    show 0 ≤ lbL p b + loL b r ∧ lbL p b + loL b r ≤ _
    rw [List.length_cons]
    omega
theorem roL_bnd {b : List Wsb} (h : WsbIn b) {l : List Wsp} (hl : l.length ≤ 6) : 0 ≤ roL l b ∧ roL l b ≤ 6000000 * b.length := by
  induction b with
  | nil => simp [roL]
  | cons x r ih =>
    have h1 := ih fun y hy => h y (List.mem_cons_of_mem _ hy)
    have h2 := lpL_bnd (h x List.mem_cons_self) l
    show 0 ≤ lpL x l + roL l r ∧ lpL x l + roL l r ≤ _
    rw [List.length_cons]
    omega
theorem wsbErr_in {b : List Wsb} (h : wsbErr b = 0) : WsbIn b := by
  induction b with
  | nil => intro x hx; cases hx
  | cons a r ih =>
    unfold wsbErr at h
    split at h
    · omega
    split at h
    · omega
    split at h
    · omega
    rename_i k3
    intro x hx
    rcases List.mem_cons.1 hx with rfl | hx
    · simp [inB] at k3; omega
    · exact ih h x hx
theorem wsbE_in {b : List Wsb} (h : wsbE b = 0) : WsbIn b ∧ b.length ≤ 200 := by
  unfold wsbE at h
  split at h
  · omega
  · exact ⟨wsbErr_in h, by omega⟩
theorem wspErr_in {l : List Wsp} : ∀ {b : ByteArray}, wspErr b l = 0 → ∀ p ∈ l, 0 ≤ p.2 ∧ p.2 ≤ 4000 := by
  induction l with
  | nil => intro _ _ x hx; cases hx
  | cons a r ih =>
    intro b h
    unfold wspErr at h
    split at h
    · omega
    split at h
    · omega
    split at h
    · omega
    rename_i k3
    intro x hx
    rcases List.mem_cons.1 hx with rfl | hx
    · simp [inB] at k3; omega
    · exact ih h x hx
theorem wspE_in {l : List Wsp} (h : wspE l = 0) : (∀ p ∈ l, 0 ≤ p.2 ∧ p.2 ≤ 4000) ∧ l.length ≤ 6 := by
  unfold wspE at h
  split at h
  · omega
  · exact ⟨wspErr_in h, by omega⟩
theorem wslErr_in {l : List Wsl} : ∀ {b : Int}, wslErr b l = 0 → ∀ s ∈ l, (0 ≤ s.1 ∧ s.1 ≤ 4000) ∧ 0 ≤ s.2 ∧ s.2 ≤ 20 := by
  induction l with
  | nil => intro _ _ x hx; cases hx
  | cons a r ih =>
    intro b h
    unfold wslErr at h
    split at h
    · omega
    rename_i k1
    split at h
    · omega
    rename_i k2
    split at h
    · omega
    intro x hx
    rcases List.mem_cons.1 hx with rfl | hx
    · simp [inB] at k1 k2; omega
    · exact ih h x hx
theorem wslE_in {l : List Wsl} (h : wslE l = 0) : (∀ s ∈ l, (0 ≤ s.1 ∧ s.1 ≤ 4000) ∧ 0 ≤ s.2 ∧ s.2 ≤ 20) ∧ l.length ≤ 12 := by
  unfold wslE at h
  split at h
  · omega
  · exact ⟨wslErr_in h, by omega⟩
theorem wswErr_in {l : List Wsw} : ∀ {b : ByteArray}, wswErr b l = 0 → ∀ s ∈ l, 0 ≤ s.2.1 ∧ s.2.1 ≤ s.2.2 ∧ s.2.2 ≤ 4001 := by
  induction l with
  | nil => intro _ _ x hx; cases hx
  | cons a r ih =>
    intro b h
    unfold wswErr at h
    split at h
    · omega
    split at h
    · omega
    split at h
    · omega
    rename_i k2
    intro x hx
    rcases List.mem_cons.1 hx with rfl | hx
    · simp [arB, inB] at k2; omega
    · exact ih h x hx
theorem wswE_in {l : List Wsw} (h : wswE l = 0) : (∀ s ∈ l, 0 ≤ s.2.1 ∧ s.2.1 ≤ s.2.2 ∧ s.2.2 ≤ 4001) ∧ l.length ≤ 6 := by
  unfold wswE at h
  split at h
  · omega
  · exact ⟨wswErr_in h, by omega⟩
/-- Keys that are ints. -/
def KI : KeyK Tryd.prog 3 Int := ⟨fun n => 0 ≤ n ∧ n ≤ 4000, fun n => .int .i64 n, fun n => .int .i64 n, Maps.int_keyed Tryd.underlying3, fun n h => Maps.keyOf_int_mk Tryd.underlying3 (by simp [Lit.wf]; have hmin : IntKind.i64.min = -9223372036854775808 := rfl; rw [hmin]; omega), fun x y h => by injection h⟩
end Go.Proofs.YtndeidcddlmhbaaDoor

/- rentref2.in. -/
namespace Go.Proofs.YtndeidcddlmhbaaDoor
open Go.RowKit

theorem inn_c (a lo hi : Int) (w : World) : Calls Tryd.prog 114 #[.int .i64 a, .int .i64 lo, .int .i64 hi] w fun e w' => e = .returned (.bool (inB a lo hi)) ∧ w = w' := by
  by_cases h1 : lo ≤ a
  · by_cases h2 : a ≤ hi
    · have HF : Hid (inB a lo hi = true) := Lib.hid (by simp [inB, h1, h2])
      go_enter Tryd.func114, Tryd.ntmps114
      go_wp2_with fail
      go_ret
      exact ⟨by rw [HF.out]; rfl, rfl⟩
    · have HF : Hid (inB a lo hi = false) := Lib.hid (by simp [inB, h2])
      go_enter Tryd.func114, Tryd.ntmps114
      go_wp2_with fail
      go_ret
      exact ⟨by rw [HF.out]; rfl, rfl⟩
  · have HF : Hid (inB a lo hi = false) := Lib.hid (by simp [inB, h1])
    go_enter Tryd.func114, Tryd.ntmps114
    go_wp2_with fail
    go_ret
    exact ⟨by rw [HF.out]; rfl, rfl⟩
end Go.Proofs.YtndeidcddlmhbaaDoor

/- Workshop: the checks of slots, wanted, placed and busy ones. Written by genwsk.py. -/
namespace Go.Proofs.YtndeidcddlmhbaaDoor
open Go.RowKit

theorem wsDay_c (n : Int) (w : World) : Calls Tryd.prog 155 #[.int .i64 n] w fun e w' => e = .returned (.bool (inB n 0 4000)) ∧ w = w' := by
  go_enter Tryd.func155, Tryd.ntmps155
  go_wp2_with fail
  refine (within_c n 0 4000 _).mono ?_; rintro e w' ⟨rfl, rfl⟩
  go_wp2_with fail
  go_ret
  exact ⟨rfl, rfl⟩
theorem wsRate_c (n : Int) (w : World) : Calls Tryd.prog 154 #[.int .i64 n] w fun e w' => e = .returned (.bool (inB n 0 1000000)) ∧ w = w' := by
  go_enter Tryd.func154, Tryd.ntmps154
  go_wp2_with fail
  refine (within_c n 0 1000000 _).mono ?_; rintro e w' ⟨rfl, rfl⟩
  go_wp2_with fail
  go_ret
  exact ⟨rfl, rfl⟩
theorem areDays_c (f t : Int) (w : World) : Calls Tryd.prog 153 #[.int .i64 f, .int .i64 t] w fun e w' => e = .returned (.bool (arB f t)) ∧ w = w' := by
  cases h : inB f 0 t with
  | false =>
    have HF : Hid (arB f t = false) := Lib.hid (by simp [arB, h])
    go_enter Tryd.func153, Tryd.ntmps153
    go_wp2_with fail
    refine (within_c f 0 t _).mono ?_; rintro e w' ⟨rfl, rfl⟩
    go_wp2_with fail
    go_ret
    exact ⟨by rw [HF.out]; rfl, rfl⟩
  | true =>
    have HF : Hid (arB f t = decide (t ≤ 4001)) := Lib.hid (by simp [arB, h])
    go_enter Tryd.func153, Tryd.ntmps153
    go_wp2_with fail
    refine (within_c f 0 t _).mono ?_; rintro e w' ⟨rfl, rfl⟩
    go_wp2_with fail
    go_ret
    exact ⟨by rw [HF.out]; rfl, rfl⟩
theorem wsl_info (x : Wsl) : (Tryd.prog.info? 166).map (·.size) = some (wslC x).size := (by kernel_rfl : (Tryd.prog.info? 166).map (·.size) = some 2)
theorem wslRow {W w : World} {bb bo n cap : Nat} {l : List Wsl} (h : RdR W 2 wslC (.slice (some ⟨bb, bo, none⟩) n cap) l) (hG : G W w none) {k : Nat} {p : Wsl} (hp : l[k]? = some p) :
    ∀ j v, (wslC p).toList[j]? = some v → w.cell? ((⟨bb, bo + k * 2, none⟩ : Addr).add j) = some v := fun j v hv => by
  rw [add_at]
  exact RdR.cell wslC_sz h hG hp j v hv
theorem wsw_info (x : Wsw) : (Tryd.prog.info? 168).map (·.size) = some (wswC x).size := (by kernel_rfl : (Tryd.prog.info? 168).map (·.size) = some 3)
theorem wswRow {W w : World} {bb bo n cap : Nat} {l : List Wsw} (h : RdR W 3 wswC (.slice (some ⟨bb, bo, none⟩) n cap) l) (hG : G W w none) {k : Nat} {p : Wsw} (hp : l[k]? = some p) :
    ∀ j v, (wswC p).toList[j]? = some v → w.cell? ((⟨bb, bo + k * 3, none⟩ : Addr).add j) = some v := fun j v hv => by
  rw [add_at]
  exact RdR.cell wswC_sz h hG hp j v hv
def WswOk (l : List Wsw) : Prop := ∀ x ∈ l, Small x.1
theorem wsp_info (x : Wsp) : (Tryd.prog.info? 174).map (·.size) = some (wspC x).size := (by kernel_rfl : (Tryd.prog.info? 174).map (·.size) = some 2)
theorem wspRow {W w : World} {bb bo n cap : Nat} {l : List Wsp} (h : RdR W 2 wspC (.slice (some ⟨bb, bo, none⟩) n cap) l) (hG : G W w none) {k : Nat} {p : Wsp} (hp : l[k]? = some p) :
    ∀ j v, (wspC p).toList[j]? = some v → w.cell? ((⟨bb, bo + k * 2, none⟩ : Addr).add j) = some v := fun j v hv => by
  rw [add_at]
  exact RdR.cell wspC_sz h hG hp j v hv
def WspOk (l : List Wsp) : Prop := ∀ x ∈ l, Small x.1
theorem wsb_info (x : Wsb) : (Tryd.prog.info? 171).map (·.size) = some (wsbC x).size := (by kernel_rfl : (Tryd.prog.info? 171).map (·.size) = some 4)
theorem wsbRow {W w : World} {bb bo n cap : Nat} {l : List Wsb} (h : RdR W 4 wsbC (.slice (some ⟨bb, bo, none⟩) n cap) l) (hG : G W w none) {k : Nat} {p : Wsb} (hp : l[k]? = some p) :
    ∀ j v, (wsbC p).toList[j]? = some v → w.cell? ((⟨bb, bo + k * 4, none⟩ : Addr).add j) = some v := fun j v hv => by
  rw [add_at]
  exact RdR.cell wsbC_sz h hG hp j v hv
def WsbOk (l : List Wsb) : Prop := ∀ x ∈ l, Small x.1
def WslRel (w : World) (l : List Wsl) (v i : Value) (wr : World) : Prop :=
  ∃ (k : Nat) (b : Int), k ≤ l.length ∧ i = .int .i64 k ∧ v = .int .i64 b ∧ wslErr (-1) l = wslErr b (l.drop k) ∧ G w wr none
def WslfRel (w : World) (l : List Wsl) (i : Value) (wr : World) : Prop :=
  ∃ k : Nat, k ≤ l.length ∧ i = .int .i64 k ∧ wslErr (-1) l = wslErr (wslB l k) (l.drop k) ∧ G w wr none
def WswRel (w : World) (l : List Wsw) (v i : Value) (wr : World) : Prop :=
  ∃ (k : Nat) (b : ByteArray), k ≤ l.length ∧ i = .int .i64 k ∧ v = .string b ∧ wswErr ⟨#[]⟩ l = wswErr b (l.drop k) ∧ G w wr none
def WspRel (w : World) (l : List Wsp) (v i : Value) (wr : World) : Prop :=
  ∃ (k : Nat) (b : ByteArray), k ≤ l.length ∧ i = .int .i64 k ∧ v = .string b ∧ wspErr ⟨#[]⟩ l = wspErr b (l.drop k) ∧ G w wr none
def WsbRel (w : World) (l : List Wsb) (i : Value) (wr : World) : Prop :=
  ∃ k : Nat, k ≤ l.length ∧ i = .int .i64 k ∧ wsbErr l = wsbErr (l.drop k) ∧ G w wr none
set_option maxRecDepth 100000 in
set_option maxHeartbeats 4000000 in
theorem checkSlots_c (v : Value) (l : List Wsl) (w : World) (hr : RdR w 2 wslC v l) (hn : l.length ≤ 1000000) :
    Calls Tryd.prog 120 #[v] w fun e w' => e = .returned (.int .i64 (wslE l)) ∧ G w w' none := by
  have HR := Lib.hid hr
  obtain ⟨a, cap, rfl, hcap, hm⟩ := RdR.form hr
  clear hr
  obtain ⟨E, hE⟩ : ∃ E, wslE l = E := ⟨_, rfl⟩
  have HEE := Lib.hid hE
  rw [hE]
  clear hE
  by_cases h30 : 12 < l.length
  · obtain rfl : E = 2 := by rw [← HEE.out]; simp [wslE, h30]
    go_enter Tryd.func120, Tryd.ntmps120
    go_wp2_with fail
    go_ret
    exact ⟨rfl, G.refl _ _⟩
  · have H := Lib.hid (show E = wslErr (-1) l by rw [← HEE.out]; simp [wslE, h30])
    go_enter Tryd.func120, Tryd.ntmps120
    go_wp2_with fail
    go_loopw [3, 11] (WslRel w l) (fun _ i _ => l.length - (intOf i).toNat)
    case atStart => exact ⟨0, (-1), by omega, rfl, rfl, rfl, G.refl _ _⟩
    case round =>
      obtain ⟨k, b, hkl, rfl, rfl, heq, hG⟩ := hrel
      have HE := Lib.hid heq
      clear heq
      by_cases hk : k < l.length
      · obtain ⟨⟨d, m⟩, hp⟩ : ∃ p, l[k]? = some p := ⟨_, List.getElem?_eq_getElem hk⟩
        have hdrop : l.drop k = (d, m) :: l.drop (k + 1) := by rw [List.drop_eq_getElem_cons hk, ← (List.getElem?_eq_some_iff.1 hp).2]
        obtain ⟨bb, bo, rfl, hbb, _⟩ := RdR.elem wslC_sz HR.out hG hp
        have HW := Lib.hid (wslRow HR.out hG hp)
        have HP := Lib.hid hp
        have HK := Lib.hid hk
        have HS : Hid (wslErr b (l.drop k) = if inB d 0 4000 = false then 1 else if inB m 0 20 = false then 1 else if d ≤ b then 7 else wslErr d (l.drop (k + 1))) := Lib.hid (by rw [hdrop]; rfl)
        have hB5 : Bk (wr.alloc (.cells #[.int .i64 d, .int .i64 m] 166)) wr.heap.size 166 #[.int .i64 d, .int .i64 m] := Bk.new wr 166 _
        have hG5 : G w (wr.alloc (.cells #[.int .i64 d, .int .i64 m] 166)) none := hG.alloc (.cells (wslC (d, m)) 166)
        clear hdrop hp hG
        go_upto_region 7 with (refine wpList_load_at rfl 166 _ rfl ⟨bb, bo + k * 2, none⟩ rfl #[.int .i64 d, .int .i64 m] _ HW.out Tryd.underlying166 rfl (wsl_info (d, m)) ?_)
        clear HW
        generalize wr.alloc (.cells #[.int .i64 d, .int .i64 m] 166) = w5 at hB5 hG5 ⊢
        generalize wr.heap.size = g at hB5 ⊢
        have c0 : w5.cell? ⟨g, 0, none⟩ = some (.int .i64 d) := hB5.cell 0
        have c1 : w5.cell? ⟨g, 1, none⟩ = some (.int .i64 m) := hB5.cell 1
        go_wp2_with fail
        refine (wsDay_c d _).mono ?_; rintro e w' ⟨rfl, rfl⟩
        cases k0 : inB d 0 4000 with
        | false =>
          obtain rfl : E = 1 := by rw [H.out, HE.out, HS.out, if_pos k0]
          clear k0
          go_wp2_with fail
          go_ret
          exact ⟨rfl, hG5⟩
        | true =>
          have K0 := Lib.hid k0
          clear k0
          go_wp2_with fail
          refine (within_c m 0 20 _).mono ?_; rintro e w' ⟨rfl, rfl⟩
          cases k1 : inB m 0 20 with
          | false =>
            obtain rfl : E = 1 := by rw [H.out, HE.out, HS.out, if_neg (by simp [K0.out]), if_pos k1]
            clear k1
            go_wp2_with fail
            go_ret
            exact ⟨rfl, hG5⟩
          | true =>
            have K1 := Lib.hid k1
            clear k1
            by_cases o0 : d ≤ b
            · obtain rfl : E = 7 := by rw [H.out, HE.out, HS.out, if_neg (by simp [K0.out]), if_neg (by simp [K1.out]), if_pos o0]
              go_wp2_with fail
              go_ret
              exact ⟨rfl, hG5⟩
            have O0 := Lib.hid o0
            have HF : Hid (wslErr (-1) l = wslErr d (l.drop (k + 1))) := Lib.hid (by rw [HE.out, HS.out, if_neg (by simp [K0.out]), if_neg (by simp [K1.out]), if_neg O0.out])
            go_wp2_with fail
            go_roundw
            case rel => exact ⟨k + 1, d, (by have := HK.out; omega), by go_num, rfl, HF.out, hG5⟩
            case measure => have := HK.out; simp [intOf]; omega
      · obtain rfl : k = l.length := by omega
        obtain rfl : E = 0 := by rw [H.out, HE.out, List.drop_length]; rfl
        go_wp2_with fail
        go_ret
        exact ⟨rfl, hG⟩
set_option maxRecDepth 100000 in
set_option maxHeartbeats 4000000 in
theorem checkWanted_c (v : Value) (l : List Wsw) (w : World) (hr : RdR w 3 wswC v l) (hl : WswOk l) (hn : l.length ≤ 1000000) :
    Calls Tryd.prog 121 #[v] w fun e w' => e = .returned (.int .i64 (wswE l)) ∧ G w w' none := by
  have HR := Lib.hid hr
  obtain ⟨a, cap, rfl, hcap, hm⟩ := RdR.form hr
  clear hr
  obtain ⟨E, hE⟩ : ∃ E, wswE l = E := ⟨_, rfl⟩
  have HEE := Lib.hid hE
  rw [hE]
  clear hE
  by_cases h30 : 6 < l.length
  · obtain rfl : E = 2 := by rw [← HEE.out]; simp [wswE, h30]
    go_enter Tryd.func121, Tryd.ntmps121
    go_wp2_with fail
    go_ret
    exact ⟨rfl, G.refl _ _⟩
  · have H := Lib.hid (show E = wswErr ⟨#[]⟩ l by rw [← HEE.out]; simp [wswE, h30])
    go_enter Tryd.func121, Tryd.ntmps121
    go_wp2_with fail
    go_loopw [3, 11] (WswRel w l) (fun _ i _ => l.length - (intOf i).toNat)
    case atStart => exact ⟨0, ⟨#[]⟩, by omega, rfl, rfl, rfl, G.refl _ _⟩
    case round =>
      obtain ⟨k, b, hkl, rfl, rfl, heq, hG⟩ := hrel
      have HE := Lib.hid heq
      clear heq
      by_cases hk : k < l.length
      · obtain ⟨⟨h, f, t⟩, hp⟩ : ∃ p, l[k]? = some p := ⟨_, List.getElem?_eq_getElem hk⟩
        have hdrop : l.drop k = (h, f, t) :: l.drop (k + 1) := by rw [List.drop_eq_getElem_cons hk, ← (List.getElem?_eq_some_iff.1 hp).2]
        have hs1 := hl _ (List.mem_of_getElem? hp)
        dsimp only at hs1
        unfold Small at hs1
        obtain ⟨bb, bo, rfl, hbb, _⟩ := RdR.elem wswC_sz HR.out hG hp
        have HW := Lib.hid (wswRow HR.out hG hp)
        have HP := Lib.hid hp
        have HK := Lib.hid hk
        have HS : Hid (wswErr b (l.drop k) = if keyB h = false then 5 else if leB h b = true then 7 else if arB f t = false then 1 else wswErr h (l.drop (k + 1))) := Lib.hid (by rw [hdrop]; rfl)
        have hB5 : Bk (wr.alloc (.cells #[.string h, .int .i64 f, .int .i64 t] 168)) wr.heap.size 168 #[.string h, .int .i64 f, .int .i64 t] := Bk.new wr 168 _
        have hG5 : G w (wr.alloc (.cells #[.string h, .int .i64 f, .int .i64 t] 168)) none := hG.alloc (.cells (wswC (h, f, t)) 168)
        clear hdrop hp hG
        go_upto_region 7 with (refine wpList_load_at rfl 168 _ rfl ⟨bb, bo + k * 3, none⟩ rfl #[.string h, .int .i64 f, .int .i64 t] _ HW.out Tryd.underlying168 rfl (wsw_info (h, f, t)) ?_)
        clear HW
        generalize wr.alloc (.cells #[.string h, .int .i64 f, .int .i64 t] 168) = w5 at hB5 hG5 ⊢
        generalize wr.heap.size = g at hB5 ⊢
        have c0 : w5.cell? ⟨g, 0, none⟩ = some (.string h) := hB5.cell 0
        have c1 : w5.cell? ⟨g, 1, none⟩ = some (.int .i64 f) := hB5.cell 1
        have c2 : w5.cell? ⟨g, 2, none⟩ = some (.int .i64 t) := hB5.cell 2
        go_wp2_with fail
        refine (isKey_c _ _ hs1).mono ?_; rintro e w' ⟨rfl, rfl⟩
        cases k0 : keyB h with
        | false =>
          obtain rfl : E = 5 := by rw [H.out, HE.out, HS.out, if_pos k0]
          clear k0
          go_wp2_with fail
          go_ret
          exact ⟨rfl, hG5⟩
        | true =>
          have K0 := Lib.hid k0
          clear k0
          cases hle : leB h b with
          | true =>
            obtain rfl : E = 7 := by rw [H.out, HE.out, HS.out, if_neg (by simp [K0.out]), if_pos hle]
            unfold leB at hle
            go_wp2_with fail
            go_ret
            exact ⟨rfl, hG5⟩
          | false =>
            have HL := Lib.hid hle
            unfold leB at hle
            go_wp2_with fail
            refine (areDays_c f t _).mono ?_; rintro e w' ⟨rfl, rfl⟩
            cases k1 : arB f t with
            | false =>
              obtain rfl : E = 1 := by rw [H.out, HE.out, HS.out, if_neg (by simp [K0.out]), if_neg (by simp [HL.out]), if_pos k1]
              clear k1
              go_wp2_with fail
              go_ret
              exact ⟨rfl, hG5⟩
            | true =>
              have K1 := Lib.hid k1
              clear k1
              have HF : Hid (wswErr ⟨#[]⟩ l = wswErr h (l.drop (k + 1))) := Lib.hid (by rw [HE.out, HS.out, if_neg (by simp [K0.out]), if_neg (by simp [HL.out]), if_neg (by simp [K1.out])])
              go_wp2_with fail
              go_roundw
              case rel => exact ⟨k + 1, h, (by have := HK.out; omega), by go_num, rfl, HF.out, hG5⟩
              case measure => have := HK.out; simp [intOf]; omega
      · obtain rfl : k = l.length := by omega
        obtain rfl : E = 0 := by rw [H.out, HE.out, List.drop_length]; rfl
        go_wp2_with fail
        go_ret
        exact ⟨rfl, hG⟩
set_option maxRecDepth 100000 in
set_option maxHeartbeats 4000000 in
theorem checkRight_c (v : Value) (l : List Wsp) (w : World) (hr : RdR w 2 wspC v l) (hl : WspOk l) (hn : l.length ≤ 1000000) :
    Calls Tryd.prog 112 #[v] w fun e w' => e = .returned (.int .i64 (wspE l)) ∧ G w w' none := by
  have HR := Lib.hid hr
  obtain ⟨a, cap, rfl, hcap, hm⟩ := RdR.form hr
  clear hr
  obtain ⟨E, hE⟩ : ∃ E, wspE l = E := ⟨_, rfl⟩
  have HEE := Lib.hid hE
  rw [hE]
  clear hE
  by_cases h30 : 6 < l.length
  · obtain rfl : E = 2 := by rw [← HEE.out]; simp [wspE, h30]
    go_enter Tryd.func112, Tryd.ntmps112
    go_wp2_with fail
    go_ret
    exact ⟨rfl, G.refl _ _⟩
  · have H := Lib.hid (show E = wspErr ⟨#[]⟩ l by rw [← HEE.out]; simp [wspE, h30])
    go_enter Tryd.func112, Tryd.ntmps112
    go_wp2_with fail
    go_loopw [3, 11] (WspRel w l) (fun _ i _ => l.length - (intOf i).toNat)
    case atStart => exact ⟨0, ⟨#[]⟩, by omega, rfl, rfl, rfl, G.refl _ _⟩
    case round =>
      obtain ⟨k, b, hkl, rfl, rfl, heq, hG⟩ := hrel
      have HE := Lib.hid heq
      clear heq
      by_cases hk : k < l.length
      · obtain ⟨⟨h, d⟩, hp⟩ : ∃ p, l[k]? = some p := ⟨_, List.getElem?_eq_getElem hk⟩
        have hdrop : l.drop k = (h, d) :: l.drop (k + 1) := by rw [List.drop_eq_getElem_cons hk, ← (List.getElem?_eq_some_iff.1 hp).2]
        have hs1 := hl _ (List.mem_of_getElem? hp)
        dsimp only at hs1
        unfold Small at hs1
        obtain ⟨bb, bo, rfl, hbb, _⟩ := RdR.elem wspC_sz HR.out hG hp
        have HW := Lib.hid (wspRow HR.out hG hp)
        have HP := Lib.hid hp
        have HK := Lib.hid hk
        have HS : Hid (wspErr b (l.drop k) = if keyB h = false then 5 else if leB h b = true then 7 else if inB d 0 4000 = false then 1 else wspErr h (l.drop (k + 1))) := Lib.hid (by rw [hdrop]; rfl)
        have hB5 : Bk (wr.alloc (.cells #[.string h, .int .i64 d] 174)) wr.heap.size 174 #[.string h, .int .i64 d] := Bk.new wr 174 _
        have hG5 : G w (wr.alloc (.cells #[.string h, .int .i64 d] 174)) none := hG.alloc (.cells (wspC (h, d)) 174)
        clear hdrop hp hG
        go_upto_region 7 with (refine wpList_load_at rfl 174 _ rfl ⟨bb, bo + k * 2, none⟩ rfl #[.string h, .int .i64 d] _ HW.out Tryd.underlying174 rfl (wsp_info (h, d)) ?_)
        clear HW
        generalize wr.alloc (.cells #[.string h, .int .i64 d] 174) = w5 at hB5 hG5 ⊢
        generalize wr.heap.size = g at hB5 ⊢
        have c0 : w5.cell? ⟨g, 0, none⟩ = some (.string h) := hB5.cell 0
        have c1 : w5.cell? ⟨g, 1, none⟩ = some (.int .i64 d) := hB5.cell 1
        go_wp2_with fail
        refine (isKey_c _ _ hs1).mono ?_; rintro e w' ⟨rfl, rfl⟩
        cases k0 : keyB h with
        | false =>
          obtain rfl : E = 5 := by rw [H.out, HE.out, HS.out, if_pos k0]
          clear k0
          go_wp2_with fail
          go_ret
          exact ⟨rfl, hG5⟩
        | true =>
          have K0 := Lib.hid k0
          clear k0
          cases hle : leB h b with
          | true =>
            obtain rfl : E = 7 := by rw [H.out, HE.out, HS.out, if_neg (by simp [K0.out]), if_pos hle]
            unfold leB at hle
            go_wp2_with fail
            go_ret
            exact ⟨rfl, hG5⟩
          | false =>
            have HL := Lib.hid hle
            unfold leB at hle
            go_wp2_with fail
            refine (wsDay_c d _).mono ?_; rintro e w' ⟨rfl, rfl⟩
            cases k1 : inB d 0 4000 with
            | false =>
              obtain rfl : E = 1 := by rw [H.out, HE.out, HS.out, if_neg (by simp [K0.out]), if_neg (by simp [HL.out]), if_pos k1]
              clear k1
              go_wp2_with fail
              go_ret
              exact ⟨rfl, hG5⟩
            | true =>
              have K1 := Lib.hid k1
              clear k1
              have HF : Hid (wspErr ⟨#[]⟩ l = wspErr h (l.drop (k + 1))) := Lib.hid (by rw [HE.out, HS.out, if_neg (by simp [K0.out]), if_neg (by simp [HL.out]), if_neg (by simp [K1.out])])
              go_wp2_with fail
              go_roundw
              case rel => exact ⟨k + 1, h, (by have := HK.out; omega), by go_num, rfl, HF.out, hG5⟩
              case measure => have := HK.out; simp [intOf]; omega
      · obtain rfl : k = l.length := by omega
        obtain rfl : E = 0 := by rw [H.out, HE.out, List.drop_length]; rfl
        go_wp2_with fail
        go_ret
        exact ⟨rfl, hG⟩
set_option maxRecDepth 100000 in
set_option maxHeartbeats 4000000 in
theorem checkBusy_c (v : Value) (l : List Wsb) (w : World) (hr : RdR w 4 wsbC v l) (hl : WsbOk l) (hn : l.length ≤ 1000000) :
    Calls Tryd.prog 111 #[v] w fun e w' => e = .returned (.int .i64 (wsbE l)) ∧ G w w' none := by
  have HR := Lib.hid hr
  obtain ⟨a, cap, rfl, hcap, hm⟩ := RdR.form hr
  clear hr
  obtain ⟨E, hE⟩ : ∃ E, wsbE l = E := ⟨_, rfl⟩
  have HEE := Lib.hid hE
  rw [hE]
  clear hE
  by_cases h30 : 200 < l.length
  · obtain rfl : E = 2 := by rw [← HEE.out]; simp [wsbE, h30]
    go_enter Tryd.func111, Tryd.ntmps111
    go_wp2_with fail
    go_ret
    exact ⟨rfl, G.refl _ _⟩
  · have H := Lib.hid (show E = wsbErr l by rw [← HEE.out]; simp [wsbE, h30])
    go_enter Tryd.func111, Tryd.ntmps111
    go_wp2_with fail
    go_loopw [10] (WsbRel w l) (fun i _ => l.length - (intOf i).toNat)
    case atStart => exact ⟨0, by omega, rfl, rfl, G.refl _ _⟩
    case round =>
      obtain ⟨k, hkl, rfl, heq, hG⟩ := hrel
      have HE := Lib.hid heq
      clear heq
      by_cases hk : k < l.length
      · obtain ⟨⟨h, f, t, c⟩, hp⟩ : ∃ p, l[k]? = some p := ⟨_, List.getElem?_eq_getElem hk⟩
        have hdrop : l.drop k = (h, f, t, c) :: l.drop (k + 1) := by rw [List.drop_eq_getElem_cons hk, ← (List.getElem?_eq_some_iff.1 hp).2]
        have hs1 := hl _ (List.mem_of_getElem? hp)
        dsimp only at hs1
        unfold Small at hs1
        obtain ⟨bb, bo, rfl, hbb, _⟩ := RdR.elem wsbC_sz HR.out hG hp
        have HW := Lib.hid (wsbRow HR.out hG hp)
        have HP := Lib.hid hp
        have HK := Lib.hid hk
        have HS : Hid (wsbErr (l.drop k) = if keyB h = false then 5 else if arB f t = false then 1 else if inB c 0 1000000 = false then 1 else wsbErr (l.drop (k + 1))) := Lib.hid (by rw [hdrop]; rfl)
        have hB5 : Bk (wr.alloc (.cells #[.string h, .int .i64 f, .int .i64 t, .int .i64 c] 171)) wr.heap.size 171 #[.string h, .int .i64 f, .int .i64 t, .int .i64 c] := Bk.new wr 171 _
        have hG5 : G w (wr.alloc (.cells #[.string h, .int .i64 f, .int .i64 t, .int .i64 c] 171)) none := hG.alloc (.cells (wsbC (h, f, t, c)) 171)
        clear hdrop hp hG
        go_upto_region 6 with (refine wpList_load_at rfl 171 _ rfl ⟨bb, bo + k * 4, none⟩ rfl #[.string h, .int .i64 f, .int .i64 t, .int .i64 c] _ HW.out Tryd.underlying171 rfl (wsb_info (h, f, t, c)) ?_)
        clear HW
        generalize wr.alloc (.cells #[.string h, .int .i64 f, .int .i64 t, .int .i64 c] 171) = w5 at hB5 hG5 ⊢
        generalize wr.heap.size = g at hB5 ⊢
        have c0 : w5.cell? ⟨g, 0, none⟩ = some (.string h) := hB5.cell 0
        have c1 : w5.cell? ⟨g, 1, none⟩ = some (.int .i64 f) := hB5.cell 1
        have c2 : w5.cell? ⟨g, 2, none⟩ = some (.int .i64 t) := hB5.cell 2
        have c3 : w5.cell? ⟨g, 3, none⟩ = some (.int .i64 c) := hB5.cell 3
        go_wp2_with fail
        refine (isKey_c _ _ hs1).mono ?_; rintro e w' ⟨rfl, rfl⟩
        cases k0 : keyB h with
        | false =>
          obtain rfl : E = 5 := by rw [H.out, HE.out, HS.out, if_pos k0]
          clear k0
          go_wp2_with fail
          go_ret
          exact ⟨rfl, hG5⟩
        | true =>
          have K0 := Lib.hid k0
          clear k0
          go_wp2_with fail
          refine (areDays_c f t _).mono ?_; rintro e w' ⟨rfl, rfl⟩
          cases k1 : arB f t with
          | false =>
            obtain rfl : E = 1 := by rw [H.out, HE.out, HS.out, if_neg (by simp [K0.out]), if_pos k1]
            clear k1
            go_wp2_with fail
            go_ret
            exact ⟨rfl, hG5⟩
          | true =>
            have K1 := Lib.hid k1
            clear k1
            go_wp2_with fail
            refine (wsRate_c c _).mono ?_; rintro e w' ⟨rfl, rfl⟩
            cases k2 : inB c 0 1000000 with
            | false =>
              obtain rfl : E = 1 := by rw [H.out, HE.out, HS.out, if_neg (by simp [K0.out]), if_neg (by simp [K1.out]), if_pos k2]
              clear k2
              go_wp2_with fail
              go_ret
              exact ⟨rfl, hG5⟩
            | true =>
              have K2 := Lib.hid k2
              clear k2
              have HF : Hid (wsbErr l = wsbErr (l.drop (k + 1))) := Lib.hid (by rw [HE.out, HS.out, if_neg (by simp [K0.out]), if_neg (by simp [K1.out]), if_neg (by simp [K2.out])])
              go_wp2_with fail
              go_roundw
              case rel => exact ⟨k + 1, (by have := HK.out; omega), by go_num, HF.out, hG5⟩
              case measure => have := HK.out; simp [intOf]; omega
      · obtain rfl : k = l.length := by omega
        obtain rfl : E = 0 := by rw [H.out, HE.out, List.drop_length]; rfl
        go_wp2_with fail
        go_ret
        exact ⟨rfl, hG⟩
set_option maxRecDepth 100000 in
set_option maxHeartbeats 4000000 in
theorem slotsFault_c (v : Value) (l : List Wsl) (w : World) (hr : RdR w 2 wslC v l) (hn : l.length ≤ 1000000) :
    Calls Tryd.prog 64 #[v] w fun e w' => e = .returned (.int .i64 (wslE l)) ∧ G w w' none := by
  have HR := Lib.hid hr
  obtain ⟨a, cap, rfl, hcap, hm⟩ := RdR.form hr
  clear hr
  obtain ⟨E, hE⟩ : ∃ E, wslE l = E := ⟨_, rfl⟩
  have HEE := Lib.hid hE
  rw [hE]
  clear hE
  by_cases h30 : 12 < l.length
  · obtain rfl : E = 2 := by rw [← HEE.out]; simp [wslE, h30]
    go_enter Tryd.func64, Tryd.ntmps64
    go_wp2_with fail
    go_ret
    exact ⟨rfl, G.refl _ _⟩
  · have H := Lib.hid (show E = wslErr (-1) l by rw [← HEE.out]; simp [wslE, h30])
    go_enter Tryd.func64, Tryd.ntmps64
    go_wp2_with fail
    go_loopw [10] (WslfRel w l) (fun i _ => l.length - (intOf i).toNat)
    case atStart => exact ⟨0, by omega, rfl, rfl, G.refl _ _⟩
    case round =>
      obtain ⟨k, hkl, rfl, heq, hG⟩ := hrel
      have HE := Lib.hid heq
      clear heq
      by_cases hk : k < l.length
      · obtain ⟨⟨d, m⟩, hp⟩ : ∃ p, l[k]? = some p := ⟨_, List.getElem?_eq_getElem hk⟩
        have hdrop : l.drop k = (d, m) :: l.drop (k + 1) := by rw [List.drop_eq_getElem_cons hk, ← (List.getElem?_eq_some_iff.1 hp).2]
        obtain ⟨bb, bo, rfl, hbb, _⟩ := RdR.elem wslC_sz HR.out hG hp
        have HW := Lib.hid (wslRow HR.out hG hp)
        have HP := Lib.hid hp
        have HK := Lib.hid hk
        have HS : Hid (wslErr (wslB l k) (l.drop k) = if inB d 0 4000 = false then 1 else if inB m 0 20 = false then 1 else if d ≤ wslB l k then 7 else wslErr d (l.drop (k + 1))) := Lib.hid (by rw [hdrop]; rfl)
        have HBN : Hid (wslB l (k + 1) = d) := Lib.hid (by show (match l[k]? with | some x => x.1 | none => 0) = d; rw [hp])
        have HBR : Hid (∀ w' : World, G w w' none → 0 < k → w'.cell? ⟨bb, bo + (k - 1) * 2, none⟩ = some (.int .i64 (wslB l k))) := Lib.hid (fun w' h q => by
          obtain ⟨j, rfl⟩ : ∃ j, k = j + 1 := ⟨k - 1, by omega⟩
          obtain ⟨⟨p0, p1⟩, hpj⟩ : ∃ p, l[j]? = some p := ⟨_, List.getElem?_eq_getElem (by omega)⟩
          have e := RdR.cell wslC_sz HR.out h hpj 0 (.int .i64 p0) rfl
          rw [show j + 1 - 1 = j by omega, show wslB l (j + 1) = p0 from (show (match l[j]? with | some x => x.1 | none => 0) = p0 by rw [hpj])]
          exact e)
        have hB5 : Bk (wr.alloc (.cells #[.int .i64 d, .int .i64 m] 166)) wr.heap.size 166 #[.int .i64 d, .int .i64 m] := Bk.new wr 166 _
        have hG5 : G w (wr.alloc (.cells #[.int .i64 d, .int .i64 m] 166)) none := hG.alloc (.cells (wslC (d, m)) 166)
        clear hdrop hp hG
        go_upto_region 6 with (refine wpList_load_at rfl 166 _ rfl ⟨bb, bo + k * 2, none⟩ rfl #[.int .i64 d, .int .i64 m] _ HW.out Tryd.underlying166 rfl (wsl_info (d, m)) ?_)
        clear HW
        generalize wr.alloc (.cells #[.int .i64 d, .int .i64 m] 166) = w5 at hB5 hG5 ⊢
        generalize wr.heap.size = g at hB5 ⊢
        have c0 : w5.cell? ⟨g, 0, none⟩ = some (.int .i64 d) := hB5.cell 0
        have c1 : w5.cell? ⟨g, 1, none⟩ = some (.int .i64 m) := hB5.cell 1
        go_wp2_with fail
        refine (inn_c d 0 4000 _).mono ?_; rintro e w' ⟨rfl, rfl⟩
        cases k0 : inB d 0 4000 with
        | false =>
          obtain rfl : E = 1 := by rw [H.out, HE.out, HS.out, if_pos k0]
          clear k0
          go_wp2_with fail
          go_ret
          exact ⟨rfl, hG5⟩
        | true =>
          have K0 := Lib.hid k0
          clear k0
          go_wp2_with fail
          refine (inn_c m 0 20 _).mono ?_; rintro e w' ⟨rfl, rfl⟩
          cases k1 : inB m 0 20 with
          | false =>
            obtain rfl : E = 1 := by rw [H.out, HE.out, HS.out, if_neg (by simp [K0.out]), if_pos k1]
            clear k1
            go_wp2_with fail
            go_ret
            exact ⟨rfl, hG5⟩
          | true =>
            have K1 := Lib.hid k1
            clear k1
            generalize hdb : wslB l k = db at HBR HS
            have HDB := Lib.hid hdb
            clear hdb
            by_cases k0 : k = 0
            · have hk0 : ¬ (0 : Int) < (k : Int) := by omega
              have hkd : decide (0 < k) = false := by simp [k0]
              have HZ : Hid (¬ d ≤ db) := Lib.hid (by
                have := HDB.out
                subst k0
                have h2 : wslB l 0 = -1 := rfl
                have h3 := K0.out
                simp [inB] at h3
                omega)
              have HF : Hid (wslErr (-1) l = wslErr (wslB l (k + 1)) (l.drop (k + 1))) := Lib.hid (by rw [HBN.out, HE.out, HDB.out, HS.out, if_neg (by simp [K0.out]), if_neg (by simp [K1.out]), if_neg HZ.out])
              clear k0
              go_wp2_with fail
              go_quiet (fail)
              go_wp2_with fail
              go_roundw
              case rel => exact ⟨k + 1, (by have := HK.out; omega), by go_num, HF.out, hG5.drewN _⟩
              case measure => have := HK.out; simp [intOf]; omega
            · have hk0 : (0 : Int) < (k : Int) := by omega
              have hkd : decide (0 < k) = true := by simp; omega
              have hkn : k - 1 < l.length := by have := HK.out; omega
              have hb0 := HBR.out _ hG5 (by omega)
              have hki : ((k : Int) - 1) = ((k - 1 : Nat) : Int) := by omega
              by_cases o0 : d ≤ db
              · obtain rfl : E = 7 := by rw [H.out, HE.out, HDB.out, HS.out, if_neg (by simp [K0.out]), if_neg (by simp [K1.out]), if_pos o0]
                go_wp2_with fail
                go_quiet (fail)
                go_wp2_with fail
                go_ret
                exact ⟨rfl, hG5.drewN _⟩
              · have HF : Hid (wslErr (-1) l = wslErr (wslB l (k + 1)) (l.drop (k + 1))) := Lib.hid (by rw [HBN.out, HE.out, HDB.out, HS.out, if_neg (by simp [K0.out]), if_neg (by simp [K1.out]), if_neg o0])
                go_wp2_with fail
                go_quiet (fail)
                go_wp2_with fail
                go_roundw
                case rel => exact ⟨k + 1, (by have := HK.out; omega), by go_num, HF.out, hG5.drewN _⟩
                case measure => have := HK.out; simp [intOf]; omega
      · obtain rfl : k = l.length := by omega
        obtain rfl : E = 0 := by rw [H.out, HE.out, List.drop_length]; rfl
        go_wp2_with fail
        go_ret
        exact ⟨rfl, hG⟩
set_option maxRecDepth 100000 in
set_option maxHeartbeats 4000000 in
theorem wantedFault_c (v : Value) (l : List Wsw) (w : World) (hr : RdR w 3 wswC v l) (hl : WswOk l) (hn : l.length ≤ 1000000) :
    Calls Tryd.prog 65 #[v] w fun e w' => e = .returned (.int .i64 (wswE l)) ∧ G w w' none := by
  have HR := Lib.hid hr
  obtain ⟨a, cap, rfl, hcap, hm⟩ := RdR.form hr
  clear hr
  obtain ⟨E, hE⟩ : ∃ E, wswE l = E := ⟨_, rfl⟩
  have HEE := Lib.hid hE
  rw [hE]
  clear hE
  by_cases h30 : 6 < l.length
  · obtain rfl : E = 2 := by rw [← HEE.out]; simp [wswE, h30]
    go_enter Tryd.func65, Tryd.ntmps65
    go_wp2_with fail
    go_ret
    exact ⟨rfl, G.refl _ _⟩
  · have H := Lib.hid (show E = wswErr ⟨#[]⟩ l by rw [← HEE.out]; simp [wswE, h30])
    go_enter Tryd.func65, Tryd.ntmps65
    go_wp2_with fail
    go_loopw [3, 11] (WswRel w l) (fun _ i _ => l.length - (intOf i).toNat)
    case atStart => exact ⟨0, ⟨#[]⟩, by omega, rfl, rfl, rfl, G.refl _ _⟩
    case round =>
      obtain ⟨k, b, hkl, rfl, rfl, heq, hG⟩ := hrel
      have HE := Lib.hid heq
      clear heq
      by_cases hk : k < l.length
      · obtain ⟨⟨h, f, t⟩, hp⟩ : ∃ p, l[k]? = some p := ⟨_, List.getElem?_eq_getElem hk⟩
        have hdrop : l.drop k = (h, f, t) :: l.drop (k + 1) := by rw [List.drop_eq_getElem_cons hk, ← (List.getElem?_eq_some_iff.1 hp).2]
        have hs1 := hl _ (List.mem_of_getElem? hp)
        dsimp only at hs1
        unfold Small at hs1
        obtain ⟨bb, bo, rfl, hbb, _⟩ := RdR.elem wswC_sz HR.out hG hp
        have HW := Lib.hid (wswRow HR.out hG hp)
        have HP := Lib.hid hp
        have HK := Lib.hid hk
        have HS : Hid (wswErr b (l.drop k) = if keyB h = false then 5 else if leB h b = true then 7 else if inB f 0 t = false then 1 else if 4001 < t then 1 else wswErr h (l.drop (k + 1))) := Lib.hid (by rw [hdrop, ← arE]; rfl)
        have hB5 : Bk (wr.alloc (.cells #[.string h, .int .i64 f, .int .i64 t] 168)) wr.heap.size 168 #[.string h, .int .i64 f, .int .i64 t] := Bk.new wr 168 _
        have hG5 : G w (wr.alloc (.cells #[.string h, .int .i64 f, .int .i64 t] 168)) none := hG.alloc (.cells (wswC (h, f, t)) 168)
        clear hdrop hp hG
        go_upto_region 7 with (refine wpList_load_at rfl 168 _ rfl ⟨bb, bo + k * 3, none⟩ rfl #[.string h, .int .i64 f, .int .i64 t] _ HW.out Tryd.underlying168 rfl (wsw_info (h, f, t)) ?_)
        clear HW
        generalize wr.alloc (.cells #[.string h, .int .i64 f, .int .i64 t] 168) = w5 at hB5 hG5 ⊢
        generalize wr.heap.size = g at hB5 ⊢
        have c0 : w5.cell? ⟨g, 0, none⟩ = some (.string h) := hB5.cell 0
        have c1 : w5.cell? ⟨g, 1, none⟩ = some (.int .i64 f) := hB5.cell 1
        have c2 : w5.cell? ⟨g, 2, none⟩ = some (.int .i64 t) := hB5.cell 2
        go_wp2_with fail
        refine (rkey_c _ _ hs1).mono ?_; rintro e w6 ⟨rfl, hGk⟩
        have hB6 := hB5.quiet hGk
        have hG6 := hG5.trans hGk
        clear hGk c0 c1 c2 hB5 hG5
        have c0 : w6.cell? ⟨g, 0, none⟩ = some (.string h) := hB6.cell 0
        have c1 : w6.cell? ⟨g, 1, none⟩ = some (.int .i64 f) := hB6.cell 1
        have c2 : w6.cell? ⟨g, 2, none⟩ = some (.int .i64 t) := hB6.cell 2
        cases k0 : keyB h with
        | false =>
          obtain rfl : E = 5 := by rw [H.out, HE.out, HS.out, if_pos k0]
          clear k0
          go_wp2_with fail
          go_ret
          exact ⟨rfl, hG6⟩
        | true =>
          have K0 := Lib.hid k0
          clear k0
          cases hle : leB h b with
          | true =>
            obtain rfl : E = 7 := by rw [H.out, HE.out, HS.out, if_neg (by simp [K0.out]), if_pos hle]
            unfold leB at hle
            go_wp2_with fail
            go_ret
            exact ⟨rfl, hG6⟩
          | false =>
            have HL := Lib.hid hle
            unfold leB at hle
            go_wp2_with fail
            refine (inn_c f 0 t _).mono ?_; rintro e w' ⟨rfl, rfl⟩
            cases k1 : inB f 0 t with
            | false =>
              obtain rfl : E = 1 := by rw [H.out, HE.out, HS.out, if_neg (by simp [K0.out]), if_neg (by simp [HL.out]), if_pos k1]
              clear k1
              go_wp2_with fail
              go_ret
              exact ⟨rfl, hG6⟩
            | true =>
              have K1 := Lib.hid k1
              clear k1
              by_cases k2 : 4001 < t
              · obtain rfl : E = 1 := by rw [H.out, HE.out, HS.out, if_neg (by simp [K0.out]), if_neg (by simp [HL.out]), if_neg (by simp [K1.out]), if_pos k2]
                go_wp2_with fail
                go_ret
                exact ⟨rfl, hG6⟩
              have K2 := Lib.hid (show ¬ 4001 < t by omega)
              have HF : Hid (wswErr ⟨#[]⟩ l = wswErr h (l.drop (k + 1))) := Lib.hid (by rw [HE.out, HS.out, if_neg (by simp [K0.out]), if_neg (by simp [HL.out]), if_neg (by simp [K1.out]), if_neg (by have := K2.out; omega)])
              go_wp2_with fail
              go_roundw
              case rel => exact ⟨k + 1, h, (by have := HK.out; omega), by go_num, rfl, HF.out, hG6⟩
              case measure => have := HK.out; simp [intOf]; omega
      · obtain rfl : k = l.length := by omega
        obtain rfl : E = 0 := by rw [H.out, HE.out, List.drop_length]; rfl
        go_wp2_with fail
        go_ret
        exact ⟨rfl, hG⟩
set_option maxRecDepth 100000 in
set_option maxHeartbeats 4000000 in
theorem placedForm_c (v : Value) (l : List Wsp) (w : World) (hr : RdR w 2 wspC v l) (hl : WspOk l) (hn : l.length ≤ 1000000) :
    Calls Tryd.prog 66 #[v] w fun e w' => e = .returned (.int .i64 (wspE l)) ∧ G w w' none := by
  have HR := Lib.hid hr
  obtain ⟨a, cap, rfl, hcap, hm⟩ := RdR.form hr
  clear hr
  obtain ⟨E, hE⟩ : ∃ E, wspE l = E := ⟨_, rfl⟩
  have HEE := Lib.hid hE
  rw [hE]
  clear hE
  by_cases h30 : 6 < l.length
  · obtain rfl : E = 2 := by rw [← HEE.out]; simp [wspE, h30]
    go_enter Tryd.func66, Tryd.ntmps66
    go_wp2_with fail
    go_ret
    exact ⟨rfl, G.refl _ _⟩
  · have H := Lib.hid (show E = wspErr ⟨#[]⟩ l by rw [← HEE.out]; simp [wspE, h30])
    go_enter Tryd.func66, Tryd.ntmps66
    go_wp2_with fail
    go_loopw [3, 11] (WspRel w l) (fun _ i _ => l.length - (intOf i).toNat)
    case atStart => exact ⟨0, ⟨#[]⟩, by omega, rfl, rfl, rfl, G.refl _ _⟩
    case round =>
      obtain ⟨k, b, hkl, rfl, rfl, heq, hG⟩ := hrel
      have HE := Lib.hid heq
      clear heq
      by_cases hk : k < l.length
      · obtain ⟨⟨h, d⟩, hp⟩ : ∃ p, l[k]? = some p := ⟨_, List.getElem?_eq_getElem hk⟩
        have hdrop : l.drop k = (h, d) :: l.drop (k + 1) := by rw [List.drop_eq_getElem_cons hk, ← (List.getElem?_eq_some_iff.1 hp).2]
        have hs1 := hl _ (List.mem_of_getElem? hp)
        dsimp only at hs1
        unfold Small at hs1
        obtain ⟨bb, bo, rfl, hbb, _⟩ := RdR.elem wspC_sz HR.out hG hp
        have HW := Lib.hid (wspRow HR.out hG hp)
        have HP := Lib.hid hp
        have HK := Lib.hid hk
        have HS : Hid (wspErr b (l.drop k) = if keyB h = false then 5 else if leB h b = true then 7 else if inB d 0 4000 = false then 1 else wspErr h (l.drop (k + 1))) := Lib.hid (by rw [hdrop]; rfl)
        have hB5 : Bk (wr.alloc (.cells #[.string h, .int .i64 d] 174)) wr.heap.size 174 #[.string h, .int .i64 d] := Bk.new wr 174 _
        have hG5 : G w (wr.alloc (.cells #[.string h, .int .i64 d] 174)) none := hG.alloc (.cells (wspC (h, d)) 174)
        clear hdrop hp hG
        go_upto_region 7 with (refine wpList_load_at rfl 174 _ rfl ⟨bb, bo + k * 2, none⟩ rfl #[.string h, .int .i64 d] _ HW.out Tryd.underlying174 rfl (wsp_info (h, d)) ?_)
        clear HW
        generalize wr.alloc (.cells #[.string h, .int .i64 d] 174) = w5 at hB5 hG5 ⊢
        generalize wr.heap.size = g at hB5 ⊢
        have c0 : w5.cell? ⟨g, 0, none⟩ = some (.string h) := hB5.cell 0
        have c1 : w5.cell? ⟨g, 1, none⟩ = some (.int .i64 d) := hB5.cell 1
        go_wp2_with fail
        refine (rkey_c _ _ hs1).mono ?_; rintro e w6 ⟨rfl, hGk⟩
        have hB6 := hB5.quiet hGk
        have hG6 := hG5.trans hGk
        clear hGk c0 c1 hB5 hG5
        have c0 : w6.cell? ⟨g, 0, none⟩ = some (.string h) := hB6.cell 0
        have c1 : w6.cell? ⟨g, 1, none⟩ = some (.int .i64 d) := hB6.cell 1
        cases k0 : keyB h with
        | false =>
          obtain rfl : E = 5 := by rw [H.out, HE.out, HS.out, if_pos k0]
          clear k0
          go_wp2_with fail
          go_ret
          exact ⟨rfl, hG6⟩
        | true =>
          have K0 := Lib.hid k0
          clear k0
          cases hle : leB h b with
          | true =>
            obtain rfl : E = 7 := by rw [H.out, HE.out, HS.out, if_neg (by simp [K0.out]), if_pos hle]
            unfold leB at hle
            go_wp2_with fail
            go_ret
            exact ⟨rfl, hG6⟩
          | false =>
            have HL := Lib.hid hle
            unfold leB at hle
            go_wp2_with fail
            refine (inn_c d 0 4000 _).mono ?_; rintro e w' ⟨rfl, rfl⟩
            cases k1 : inB d 0 4000 with
            | false =>
              obtain rfl : E = 1 := by rw [H.out, HE.out, HS.out, if_neg (by simp [K0.out]), if_neg (by simp [HL.out]), if_pos k1]
              clear k1
              go_wp2_with fail
              go_ret
              exact ⟨rfl, hG6⟩
            | true =>
              have K1 := Lib.hid k1
              clear k1
              have HF : Hid (wspErr ⟨#[]⟩ l = wspErr h (l.drop (k + 1))) := Lib.hid (by rw [HE.out, HS.out, if_neg (by simp [K0.out]), if_neg (by simp [HL.out]), if_neg (by simp [K1.out])])
              go_wp2_with fail
              go_roundw
              case rel => exact ⟨k + 1, h, (by have := HK.out; omega), by go_num, rfl, HF.out, hG6⟩
              case measure => have := HK.out; simp [intOf]; omega
      · obtain rfl : k = l.length := by omega
        obtain rfl : E = 0 := by rw [H.out, HE.out, List.drop_length]; rfl
        go_wp2_with fail
        go_ret
        exact ⟨rfl, hG⟩
set_option maxRecDepth 100000 in
set_option maxHeartbeats 4000000 in
theorem busyFault_c (v : Value) (l : List Wsb) (w : World) (hr : RdR w 4 wsbC v l) (hl : WsbOk l) (hn : l.length ≤ 1000000) :
    Calls Tryd.prog 69 #[v] w fun e w' => e = .returned (.int .i64 (wsbE l)) ∧ G w w' none := by
  have HR := Lib.hid hr
  obtain ⟨a, cap, rfl, hcap, hm⟩ := RdR.form hr
  clear hr
  obtain ⟨E, hE⟩ : ∃ E, wsbE l = E := ⟨_, rfl⟩
  have HEE := Lib.hid hE
  rw [hE]
  clear hE
  by_cases h30 : 200 < l.length
  · obtain rfl : E = 2 := by rw [← HEE.out]; simp [wsbE, h30]
    go_enter Tryd.func69, Tryd.ntmps69
    go_wp2_with fail
    go_ret
    exact ⟨rfl, G.refl _ _⟩
  · have H := Lib.hid (show E = wsbErr l by rw [← HEE.out]; simp [wsbE, h30])
    go_enter Tryd.func69, Tryd.ntmps69
    go_wp2_with fail
    go_loopw [10] (WsbRel w l) (fun i _ => l.length - (intOf i).toNat)
    case atStart => exact ⟨0, by omega, rfl, rfl, G.refl _ _⟩
    case round =>
      obtain ⟨k, hkl, rfl, heq, hG⟩ := hrel
      have HE := Lib.hid heq
      clear heq
      by_cases hk : k < l.length
      · obtain ⟨⟨h, f, t, c⟩, hp⟩ : ∃ p, l[k]? = some p := ⟨_, List.getElem?_eq_getElem hk⟩
        have hdrop : l.drop k = (h, f, t, c) :: l.drop (k + 1) := by rw [List.drop_eq_getElem_cons hk, ← (List.getElem?_eq_some_iff.1 hp).2]
        have hs1 := hl _ (List.mem_of_getElem? hp)
        dsimp only at hs1
        unfold Small at hs1
        obtain ⟨bb, bo, rfl, hbb, _⟩ := RdR.elem wsbC_sz HR.out hG hp
        have HW := Lib.hid (wsbRow HR.out hG hp)
        have HP := Lib.hid hp
        have HK := Lib.hid hk
        have HS : Hid (wsbErr (l.drop k) = if keyB h = false then 5 else if inB f 0 t = false then 1 else if 4001 < t then 1 else if inB c 0 1000000 = false then 1 else wsbErr (l.drop (k + 1))) := Lib.hid (by rw [hdrop, ← arE]; rfl)
        have hB5 : Bk (wr.alloc (.cells #[.string h, .int .i64 f, .int .i64 t, .int .i64 c] 171)) wr.heap.size 171 #[.string h, .int .i64 f, .int .i64 t, .int .i64 c] := Bk.new wr 171 _
        have hG5 : G w (wr.alloc (.cells #[.string h, .int .i64 f, .int .i64 t, .int .i64 c] 171)) none := hG.alloc (.cells (wsbC (h, f, t, c)) 171)
        clear hdrop hp hG
        go_upto_region 6 with (refine wpList_load_at rfl 171 _ rfl ⟨bb, bo + k * 4, none⟩ rfl #[.string h, .int .i64 f, .int .i64 t, .int .i64 c] _ HW.out Tryd.underlying171 rfl (wsb_info (h, f, t, c)) ?_)
        clear HW
        generalize wr.alloc (.cells #[.string h, .int .i64 f, .int .i64 t, .int .i64 c] 171) = w5 at hB5 hG5 ⊢
        generalize wr.heap.size = g at hB5 ⊢
        have c0 : w5.cell? ⟨g, 0, none⟩ = some (.string h) := hB5.cell 0
        have c1 : w5.cell? ⟨g, 1, none⟩ = some (.int .i64 f) := hB5.cell 1
        have c2 : w5.cell? ⟨g, 2, none⟩ = some (.int .i64 t) := hB5.cell 2
        have c3 : w5.cell? ⟨g, 3, none⟩ = some (.int .i64 c) := hB5.cell 3
        go_wp2_with fail
        refine (rkey_c _ _ hs1).mono ?_; rintro e w6 ⟨rfl, hGk⟩
        have hB6 := hB5.quiet hGk
        have hG6 := hG5.trans hGk
        clear hGk c0 c1 c2 c3 hB5 hG5
        have c0 : w6.cell? ⟨g, 0, none⟩ = some (.string h) := hB6.cell 0
        have c1 : w6.cell? ⟨g, 1, none⟩ = some (.int .i64 f) := hB6.cell 1
        have c2 : w6.cell? ⟨g, 2, none⟩ = some (.int .i64 t) := hB6.cell 2
        have c3 : w6.cell? ⟨g, 3, none⟩ = some (.int .i64 c) := hB6.cell 3
        cases k0 : keyB h with
        | false =>
          obtain rfl : E = 5 := by rw [H.out, HE.out, HS.out, if_pos k0]
          clear k0
          go_wp2_with fail
          go_ret
          exact ⟨rfl, hG6⟩
        | true =>
          have K0 := Lib.hid k0
          clear k0
          go_wp2_with fail
          refine (inn_c f 0 t _).mono ?_; rintro e w' ⟨rfl, rfl⟩
          cases k1 : inB f 0 t with
          | false =>
            obtain rfl : E = 1 := by rw [H.out, HE.out, HS.out, if_neg (by simp [K0.out]), if_pos k1]
            clear k1
            go_wp2_with fail
            go_ret
            exact ⟨rfl, hG6⟩
          | true =>
            have K1 := Lib.hid k1
            clear k1
            by_cases k2 : 4001 < t
            · obtain rfl : E = 1 := by rw [H.out, HE.out, HS.out, if_neg (by simp [K0.out]), if_neg (by simp [K1.out]), if_pos k2]
              go_wp2_with fail
              go_ret
              exact ⟨rfl, hG6⟩
            have K2 := Lib.hid (show ¬ 4001 < t by omega)
            go_wp2_with fail
            refine (inn_c c 0 1000000 _).mono ?_; rintro e w' ⟨rfl, rfl⟩
            cases k3 : inB c 0 1000000 with
            | false =>
              obtain rfl : E = 1 := by rw [H.out, HE.out, HS.out, if_neg (by simp [K0.out]), if_neg (by simp [K1.out]), if_neg (by have := K2.out; omega), if_pos k3]
              clear k3
              go_wp2_with fail
              go_ret
              exact ⟨rfl, hG6⟩
            | true =>
              have K3 := Lib.hid k3
              clear k3
              have HF : Hid (wsbErr l = wsbErr (l.drop (k + 1))) := Lib.hid (by rw [HE.out, HS.out, if_neg (by simp [K0.out]), if_neg (by simp [K1.out]), if_neg (by have := K2.out; omega), if_neg (by simp [K3.out])])
              go_wp2_with fail
              go_roundw
              case rel => exact ⟨k + 1, (by have := HK.out; omega), by go_num, HF.out, hG6⟩
              case measure => have := HK.out; simp [intOf]; omega
      · obtain rfl : k = l.length := by omega
        obtain rfl : E = 0 := by rw [H.out, HE.out, List.drop_length]; rfl
        go_wp2_with fail
        go_ret
        exact ⟨rfl, hG⟩
end Go.Proofs.YtndeidcddlmhbaaDoor

/- Services: what is due and by when (mathematics; no program). -/
namespace Go.Proofs.YtndeidcddlmhbaaDoor
open Go.RowKit

/-- An interval: kind, kilometres, days. -/
abbrev Iv := ByteArray × Int × Int
def ivC (x : Iv) : Array Value := #[.string x.1, .int .i64 x.2.1, .int .i64 x.2.2]
theorem ivC_sz (x : Iv) : (ivC x).size = 3 := rfl
/-- A service that was done: vehicle, kind, day, meter. -/
abbrev Dn := ByteArray × ByteArray × Int × Int
def dnC (x : Dn) : Array Value := #[.string x.1, .string x.2.1, .int .i64 x.2.2.1, .int .i64 x.2.2.2]
theorem dnC_sz (x : Dn) : (dnC x).size = 4 := rfl
/-- What is due: kind, day, kilometres. -/
abbrev Du := ByteArray × Int × Int
def duC (x : Du) : Array Value := #[.string x.1, .int .i64 x.2.1, .int .i64 x.2.2]
theorem duC_sz (x : Du) : (duC x).size = 3 := rfl
/-- The last service of a kind that a vehicle had. -/
def lsO (v k : ByteArray) : List Dn → Option Dn
  | [] => none
  | s :: r => match lsO v k r with | some u => some u | none => if s.1 = v ∧ s.2.1 = k then some s else none
theorem lsO_snoc (v k : ByteArray) (l : List Dn) (s : Dn) : lsO v k (l ++ [s]) = if s.1 = v ∧ s.2.1 = k then some s else lsO v k l := by
  induction l with
  | nil => simp [lsO]
  | cons a r ih =>
    show (match lsO v k (r ++ [s]) with | some u => some u | none => if a.1 = v ∧ a.2.1 = k then some a else none) = _
    rw [ih]
    by_cases h : s.1 = v ∧ s.2.1 = k
    · rw [if_pos h, if_pos h]
    · rw [if_neg h, if_neg h]; rfl
theorem lsO_mem {v k : ByteArray} {l : List Dn} {u : Dn} (h : lsO v k l = some u) : u ∈ l := by
  induction l with
  | nil => cases h
  | cons a r ih =>
    unfold lsO at h
    cases hr : lsO v k r with
    | some x => rw [hr] at h; cases h; exact List.mem_cons_of_mem _ (ih hr)
    | none =>
      rw [hr] at h
      dsimp only at h
      split at h
      · cases h; exact List.mem_cons_self
      · cases h
/-- The map of the last services, as a function. -/
def lsF (v : ByteArray) (l : List Dn) : Fn := fun t => (lsO v t l).map (fun u => .agg (dnC u))
theorem lsF_hit {v : ByteArray} {l : List Dn} {s : Dn} (h : s.1 = v) : lsF v (l ++ [s]) = fput (lsF v l) s.2.1 (.agg (dnC s)) := by
  funext t
  unfold lsF fput
  rw [lsO_snoc]
  by_cases e : t = s.2.1
  · rw [if_pos ⟨h, e.symm⟩, if_pos e]; rfl
  · rw [if_neg (fun q => e q.2.symm), if_neg e]
theorem lsF_miss {v : ByteArray} {l : List Dn} {s : Dn} (h : ¬ s.1 = v) : lsF v (l ++ [s]) = lsF v l := by
  funext t
  unfold lsF
  rw [lsO_snoc, if_neg (fun q => h q.1)]
/-- What is due for an interval. -/
def dueL (x : Iv) (s : Dn) (m : Int) : Du := (x.1, (if x.2.2 = 0 then 1000000 else s.2.2.1 + x.2.2), (if x.2.1 = 0 then 1000000000 else s.2.2.2 + x.2.1 - m))
def duesL (l : List Iv) (d : List Dn) (f : Dn) (m : Int) : List Du := l.map fun x => dueL x ((lsO f.1 x.1 d).getD f) m
/-- The day on which a service is due. -/
def dayL (t y : Int) (x : Du) : Int := if x.2.2 = 1000000000 then x.2.1 else if x.2.2 < 0 then min x.2.1 t else if y = 0 then x.2.1 else min x.2.1 (t + x.2.2 / y)
/-- The first of the least ones. -/
def bsL (t y : Int) (p : ByteArray × Int) (l : List Du) : ByteArray × Int := l.foldl (fun p x => if dayL t y x < p.2 then (x.1, dayL t y x) else p) p
theorem bsL_snoc (t y : Int) (p : ByteArray × Int) (l : List Du) (x : Du) : bsL t y p (l ++ [x]) = if dayL t y x < (bsL t y p l).2 then (x.1, dayL t y x) else bsL t y p l := by
  unfold bsL
  rw [List.foldl_append]
  rfl
end Go.Proofs.YtndeidcddlmhbaaDoor

/- Services: intervals and services done, their checks. Written by gensrv.py. -/
namespace Go.Proofs.YtndeidcddlmhbaaDoor
open Go.RowKit

def IvOk (l : List Iv) : Prop := ∀ x ∈ l, Small x.1
def ivErr (b : ByteArray) : List Iv → Int
  | [] => 0
  | x :: r => if keyB x.1 = false then 5 else if leB x.1 b = true then 7 else if inB x.2.1 0 1000000 = false then 1 else if inB x.2.2 0 100000 = false then 1 else if x.2.1 = 0 ∧ x.2.2 = 0 then 3 else ivErr x.1 r
def ivE (l : List Iv) : Int := if 500 < l.length then 2 else ivErr ⟨#[]⟩ l
theorem ivRow {W w : World} {bb bo n cap : Nat} {l : List Iv} (h : RdR W 3 ivC (.slice (some ⟨bb, bo, none⟩) n cap) l) (hG : G W w none) {k : Nat} {p : Iv} (hp : l[k]? = some p) :
    ∀ j v, (ivC p).toList[j]? = some v → w.cell? ((⟨bb, bo + k * 3, none⟩ : Addr).add j) = some v := fun j v hv => by
  rw [add_at]
  exact RdR.cell ivC_sz h hG hp j v hv
def IvRel (w : World) (l : List Iv) (v i : Value) (wr : World) : Prop :=
  ∃ (k : Nat) (b : ByteArray), k ≤ l.length ∧ i = .int .i64 k ∧ v = .string b ∧ ivErr ⟨#[]⟩ l = ivErr b (l.drop k) ∧ G w wr none
def DnOk (l : List Dn) : Prop := ∀ x ∈ l, Small x.1 ∧ Small x.2.1
def dnErr (b : Int) : List Dn → Int
  | [] => 0
  | x :: r => if keyB x.1 = false then 5 else if keyB x.2.1 = false then 5 else if inB x.2.2.1 0 4000 = false then 1 else if inB x.2.2.2 0 10000000 = false then 1 else if x.2.2.1 < b then 7 else dnErr x.2.2.1 r
def dnE (l : List Dn) : Int := if 500 < l.length then 2 else dnErr 0 l
def dnB (l : List Dn) : Nat → Int
  | 0 => 0
  | m + 1 => match l[m]? with | some x => x.2.2.1 | none => 0
theorem dnRow {W w : World} {bb bo n cap : Nat} {l : List Dn} (h : RdR W 4 dnC (.slice (some ⟨bb, bo, none⟩) n cap) l) (hG : G W w none) {k : Nat} {p : Dn} (hp : l[k]? = some p) :
    ∀ j v, (dnC p).toList[j]? = some v → w.cell? ((⟨bb, bo + k * 4, none⟩ : Addr).add j) = some v := fun j v hv => by
  rw [add_at]
  exact RdR.cell dnC_sz h hG hp j v hv
def DnRel (w : World) (l : List Dn) (v i : Value) (wr : World) : Prop :=
  ∃ (k : Nat) (b : Int), k ≤ l.length ∧ i = .int .i64 k ∧ v = .int .i64 b ∧ dnErr 0 l = dnErr b (l.drop k) ∧ G w wr none
def DnfRel (w : World) (l : List Dn) (i : Value) (wr : World) : Prop :=
  ∃ k : Nat, k ≤ l.length ∧ i = .int .i64 k ∧ dnErr 0 l = dnErr (dnB l k) (l.drop k) ∧ G w wr none
theorem svDay_c (n : Int) (w : World) : Calls Tryd.prog 155 #[.int .i64 n] w fun e w' => e = .returned (.bool (inB n 0 4000)) ∧ w = w' := by
  go_enter Tryd.func155, Tryd.ntmps155
  go_wp2_with fail
  refine (within_c n 0 4000 _).mono ?_; rintro e w' ⟨rfl, rfl⟩
  go_wp2_with fail
  go_ret
  exact ⟨rfl, rfl⟩
end Go.Proofs.YtndeidcddlmhbaaDoor

/- Services: what right ones keep to (mathematics). -/
namespace Go.Proofs.YtndeidcddlmhbaaDoor
open Go.RowKit

theorem ivErr_ok (l : List Iv) : ∀ b, ivErr b l = 0 → ∀ x ∈ l, (0 ≤ x.2.1 ∧ x.2.1 ≤ 1000000) ∧ 0 ≤ x.2.2 ∧ x.2.2 ≤ 100000 := by
  induction l with
  | nil => intro b _ x hx; cases hx
  | cons p r ih =>
    intro b h x hx
    unfold ivErr at h
    split at h
    · omega
    split at h
    · omega
    split at h
    · omega
    rename_i k2
    split at h
    · omega
    rename_i k3
    split at h
    · omega
    rcases List.mem_cons.1 hx with rfl | hx
    · simp [inB] at k2 k3; omega
    · exact ih _ h x hx
theorem iv_ok {l : List Iv} (h : ivE l = 0) : ∀ x ∈ l, (0 ≤ x.2.1 ∧ x.2.1 ≤ 1000000) ∧ 0 ≤ x.2.2 ∧ x.2.2 ≤ 100000 := by
  unfold ivE at h
  split at h
  · omega
  · exact ivErr_ok l _ h
theorem dnErr_ok (l : List Dn) : ∀ b, dnErr b l = 0 → ∀ x ∈ l, (0 ≤ x.2.2.1 ∧ x.2.2.1 ≤ 4000) ∧ 0 ≤ x.2.2.2 ∧ x.2.2.2 ≤ 10000000 := by
  induction l with
  | nil => intro b _ x hx; cases hx
  | cons p r ih =>
    intro b h x hx
    unfold dnErr at h
    split at h
    · omega
    split at h
    · omega
    split at h
    · omega
    rename_i k2
    split at h
    · omega
    rename_i k3
    split at h
    · omega
    rcases List.mem_cons.1 hx with rfl | hx
    · simp [inB] at k2 k3; omega
    · exact ih _ h x hx
theorem dn_ok {l : List Dn} (h : dnE l = 0) : ∀ x ∈ l, (0 ≤ x.2.2.1 ∧ x.2.2.1 ≤ 4000) ∧ 0 ≤ x.2.2.2 ∧ x.2.2.2 ≤ 10000000 := by
  unfold dnE at h
  split at h
  · omega
  · exact dnErr_ok l _ h
theorem ls_ok {v k : ByteArray} {d : List Dn} {f : Dn} (hd : ∀ x ∈ d, (0 ≤ x.2.2.1 ∧ x.2.2.1 ≤ 4000) ∧ 0 ≤ x.2.2.2 ∧ x.2.2.2 ≤ 10000000) (hf : (0 ≤ f.2.2.1 ∧ f.2.2.1 ≤ 4000) ∧ 0 ≤ f.2.2.2 ∧ f.2.2.2 ≤ 10000000) : (0 ≤ ((lsO v k d).getD f).2.2.1 ∧ ((lsO v k d).getD f).2.2.1 ≤ 4000) ∧ 0 ≤ ((lsO v k d).getD f).2.2.2 ∧ ((lsO v k d).getD f).2.2.2 ≤ 10000000 := by
  cases h : lsO v k d with
  | none => exact hf
  | some u => exact hd u (lsO_mem h)
end Go.Proofs.YtndeidcddlmhbaaDoor

/- shift.dueOf. Written by gendof.py. -/
namespace Go.Proofs.YtndeidcddlmhbaaDoor
open Go.RowKit

end Go.Proofs.YtndeidcddlmhbaaDoor

/- shift.Dues. Written by gendus.py. -/
namespace Go.Proofs.YtndeidcddlmhbaaDoor
open Go.RowKit

/-- The errors of Dues. -/
def dusE (l : List Iv) (d : List Dn) (f : Dn) (m : Int) : Int := errsOf [ivE l, dnE d, dnE [f], if inB m 0 10000000 = false then 1 else 0]
theorem dusE_eq (l : List Iv) (d : List Dn) (f : Dn) (m : Int) : dusE l d f m = if ivE l = 0 then (if dnE d = 0 then (if dnE [f] = 0 then (if inB m 0 10000000 = false then 1 else 0) else dnE [f]) else dnE d) else ivE l := by
  unfold dusE
  by_cases h1 : ivE l = 0
  · rw [errsOf, if_pos h1, if_pos h1]
    by_cases h2 : dnE d = 0
    · rw [errsOf, if_pos h2, if_pos h2]
      by_cases h3 : dnE [f] = 0
      · rw [errsOf, if_pos h3, if_pos h3]
        by_cases h4 : inB m 0 10000000 = false
        · rw [if_pos h4]; rfl
        · rw [if_neg h4]; rfl
      · rw [errsOf, if_neg h3, if_neg h3]
    · rw [errsOf, if_neg h2, if_neg h2]
  · rw [errsOf, if_neg h1, if_neg h1]
def duZ : Du := (⟨#[]⟩, 0, 0)
theorem tkrep_get {α : Type} {Q : List α} {z : α} {k n : Nat} (hk : k < n) (hQ : Q.length = n) : (Q.take k ++ List.replicate (n - k) z)[k]? = some z := by
  rw [List.getElem?_append_right (by rw [List.length_take]; omega), List.length_take, Nat.min_eq_left (by omega), Nat.sub_self, List.getElem?_replicate, if_pos (by omega)]
theorem tkrep_len {α : Type} {Q : List α} {z : α} {k n : Nat} (hk : k ≤ n) (hQ : Q.length = n) : (Q.take k ++ List.replicate (n - k) z).length = n := by
  rw [List.length_append, List.length_take, List.length_replicate]; omega
theorem tkrep_set {α : Type} {Q : List α} {z q : α} {k n : Nat} (hk : k < n) (hQ : Q.length = n) (hq : Q[k]? = some q) : (Q.take k ++ List.replicate (n - k) z).set k q = Q.take (k + 1) ++ List.replicate (n - (k + 1)) z := by
  obtain ⟨j, hj⟩ : ∃ j, n - k = j + 1 := ⟨n - k - 1, by omega⟩
  rw [hj, List.replicate_succ, List.set_append_right _ _ (by rw [List.length_take]; omega), List.length_take, Nat.min_eq_left (by omega), Nat.sub_self, List.set_cons_zero, List.take_add_one, hq, show n - (k + 1) = j by omega]
  simp
def DsPost (l : List Iv) (d : List Dn) (f : Dn) (m : Int) (w : World) (e : Ending) (w' : World) : Prop := ∃ v', e = .returned (.tuple #[v', .int .i64 (dusE l d f m)]) ∧ RdR w' 3 duC v' (if dusE l d f m = 0 then duesL l d f m else []) ∧ G w w' none
end Go.Proofs.YtndeidcddlmhbaaDoor

/- The reference's DuesOf. Written by gendud.py. -/
namespace Go.Proofs.YtndeidcddlmhbaaDoor
open Go.RowKit

theorem OwnX.apy {α : Type} {T T' : TypeId} {z g base : Nat} {c : α → Array Value} {w : World} {v : Value} {l : List α} {cs : Array Value} (h : OwnX T z c w base v l) (hB : Bk w g T' cs) (hT : T ≠ T') : some g ≠ v.ownBlock := by
  rcases h.2 with ⟨rfl, _⟩ | ⟨g', cap, cur, rfl, _, hg, _⟩
  · simp [Value.ownBlock]
  · intro e
    simp only [Value.ownBlock, Option.map_some, Option.some.injEq] at e
    subst e
    have h2 := hB.symm.trans hg
    simp only [Option.some.injEq, Obj.cells.injEq] at h2
    exact hT h2.2.1.symm
theorem beq_str (a b : ByteArray) : (a.toList == b.toList) = decide (a = b) := by
  by_cases h : a = b
  · subst h; simp
  · rw [decide_eq_false h]
    cases h2 : (a.toList == b.toList) with
    | false => rfl
    | true => exact absurd (eqB_iff.1 h2) h
end Go.Proofs.YtndeidcddlmhbaaDoor

/- Generators: Slots, Wanted. Written by genwsg.py. -/
namespace Go.Proofs.YtndeidcddlmhbaaDoor
open Go.RowKit

theorem wsl_rowOk : RowOk Tryd.prog 166 96 2 16 (.agg #[.int .i64 0, .int .i64 0]) wslC := ⟨by kernel_rfl, Tryd.underlying96, fun r u hu => by simp [wslC] at hu; rcases hu with rfl | rfl <;> rfl, wslC_sz, rfl, by omega, by omega⟩
theorem wsw_rowOk : RowOk Tryd.prog 168 98 3 32 (.agg #[.string ⟨#[]⟩, .int .i64 0, .int .i64 0]) wswC := ⟨by kernel_rfl, Tryd.underlying98, fun r u hu => by simp [wswC] at hu; rcases hu with rfl | rfl | rfl <;> rfl, wswC_sz, rfl, by omega, by omega⟩
theorem ws_form0 {α : Type} {T : TypeId} {z : Nat} {c : α → Array Value} {w : World} {base : Nat} {v : Value} {l : List α} (h : OwnX T z c w base v l) (h0 : 0 < l.length) : ∃ g cap cur, v = .slice (some ⟨g, 0, none⟩) l.length cap ∧ Bk w g T cur := by
  rcases h.2 with ⟨rfl, h3⟩ | ⟨g, cap, cur, rfl, hb, hg, _⟩
  · omega
  · exact ⟨g, cap, cur, rfl, hg⟩
theorem WswOk.snoc {l : List Wsw} {r : Wsw} (h : WswOk l) (hr : Small r.1) : WswOk (l ++ [r]) := fun p hp => by
  rcases List.mem_append.1 hp with hp | hp
  · exact h p hp
  · obtain rfl := List.mem_singleton.1 hp; exact hr
theorem WswOk.set {l : List Wsw} {r : Wsw} (h : WswOk l) (hr : Small r.1) (k : Nat) : WswOk (l.set k r) := fun p hp => by
  rcases List.mem_or_eq_of_mem_set hp with hp | rfl
  · exact h p hp
  · exact hr
def WslPost (s K : Nat) (w : World) (e : Ending) (w' : World) : Prop :=
  ∃ (v : Value) (l : List Wsl), e = .returned v ∧ OwnX 166 2 wslC w' w.heap.size v l ∧ l.length ≤ 7 ∧ SB w' s (K + 100) ∧ G w w' (some s)
def WslGRel (w : World) (s K : Nat) (s3 s8 : Value) (wr : World) : Prop :=
  ∃ (k : Nat) (l : List Wsl), k ≤ 6 ∧ l.length ≤ k ∧ s8 = .int .i64 k ∧ OwnX 166 2 wslC wr w.heap.size s3 l ∧ SB wr s (K + 1 + 4 * k) ∧ G w wr (some s)
set_option maxRecDepth 100000 in
set_option maxHeartbeats 8000000 in
theorem slotsG_c (w : World) (s : Nat) (K : Nat) (hs : SB w s K) (hk : K ≤ 600000000000) :
    Calls Tryd.prog 58 #[.pointer (some ⟨s, 0, none⟩)] w (WslPost s K w) := by
  have hsw := hs.lt
  go_enter Tryd.func58, Tryd.ntmps58
  go_wp2_with fail
  go_loopw [3, 5] (WslGRel w s K) (fun _ i _ => 6 - (intOf i).toNat)
  case atStart => exact ⟨0, [], by omega, by simp, rfl, World.ownsRow_nil _ _ _ _, hs.le (by omega), G.refl _ _⟩
  case round =>
    clear hs
    obtain ⟨k, l, hkn, hlk, rfl, hown, hSB, hG⟩ := hrel
    by_cases hlt : k < 6
    · have HLK := Lib.hid hlk
      have HKN := Lib.hid hlt
      have hki : (k : Int) < 6 := by omega
      clear hlk
      go_wp2_with fail
      refine (flip_c _ _ _ _ hSB (by omega) (by omega)).mono ?_; rintro e v11 ⟨q, rfl, hSB11, hg⟩

      have hh := hg
      have hown11 := OwnX.kept hown hh hsw
      have hG11 := hG.trans hh
      clear hown hG hSB hg hh 
      cases q with
      | true =>
        go_wp2_with fail
        go_roundw
        case rel => exact ⟨k + 1, l, (by have := HKN.out; omega), (by have := HLK.out; omega), by go_num, hown11, hSB11.le (by omega), hG11⟩
        case measure => have := HKN.out; simp [intOf]; omega
      | false =>
        go_wp2_with fail
        refine (pick_c _ _ _ [0, 1, 1, 2] _ _ _ (hSB11.alloc _) (by omega) (by decide) (by decide) (Rd.newAt _ rfl rfl (by decide)) (hSB11.newAt _ _ _ (Nat.le_refl _))).mono ?_; rintro e v12 ⟨m, rfl, hp, hSB12, hg⟩

        have hh := ((G.refl v11 (some s)).alloc (.cells _ 3)).trans hg
        have hown12 := OwnX.kept hown11 hh hsw
        have hG12 := hG11.trans hh
        clear hown11 hG11 hSB11 hg hh hp
        have hob := OwnX.low hown12
        have hsz := hG12.size
        have hownA := OwnX.alloc hown12 (.cells #[.int .i64 (k : Int), .int .i64 m] 166)
        go_wp2_with (at_builtin; refine wpList_plain rfl fun K' hK' => wp_append_x wsl_rowOk _ _ rfl w.heap.size u3 l rfl hownA v12.heap.size ((k : Int), m) rfl (Bk.new v12 _ _) (by have := HLK.out; omega) (by simp; omega) ?_; intro v8 w8 hown8 hgrow; refine hK' _ _ ?_)
        go_roundw
        case rel => exact ⟨k + 1, l ++ [((k : Int), m)], (by have := HKN.out; omega), (by have := HLK.out; simp; omega), by go_num, hown8, ((hSB12.alloc _).own hgrow (fun r e => Nat.lt_of_lt_of_le hsw (hob r e))).le (by omega), (hG12.alloc _).other hgrow (fun r e => .inl (hob r e))⟩
        case measure => have := HKN.out; simp [intOf]; omega
    · have hl6 : l.length ≤ 6 := by omega
      have hk6 : k = 6 := by omega
      subst hk6
      clear hlk
      go_wp2_with fail
      refine (flip_c _ _ _ _ hSB (by omega) (by omega)).mono ?_; rintro e v11 ⟨q, rfl, hSB11, hg⟩

      have hh := hg
      have hown11 := OwnX.kept hown hh hsw
      have hG11 := hG.trans hh
      clear hown hG hSB hg hh 
      cases q with
      | false =>
        go_wp2_with fail
        go_ret
        exact ⟨_, l, rfl, hown11, by omega, hSB11.le (by omega), hG11⟩
      | true =>
        go_wp2_with fail
        refine (odd_c _ _ _ _ _ hSB11 (by omega) (by omega) (by omega) (by omega) (by omega)).mono ?_; rintro e v12 ⟨d, rfl, d0, d1, hSB12, hg⟩

        have hh := hg
        have hown12 := OwnX.kept hown11 hh hsw
        have hG12 := hG11.trans hh
        clear hown11 hG11 hSB11 hg hh 
        go_wp2_with fail
        refine (odd_c _ _ _ _ _ hSB12 (by omega) (by omega) (by omega) (by omega) (by omega)).mono ?_; rintro e v13 ⟨m, rfl, m0, m1, hSB13, hg⟩

        have hh := hg
        have hown13 := OwnX.kept hown12 hh hsw
        have hG13 := hG12.trans hh
        clear hown12 hG12 hSB12 hg hh 
        have hob := OwnX.low hown13
        have hsz := hG13.size
        have hownA := OwnX.alloc hown13 (.cells #[.int .i64 d, .int .i64 m] 166)
        go_wp2_with (at_builtin; refine wpList_plain rfl fun K' hK' => wp_append_x wsl_rowOk _ _ rfl w.heap.size u3 l rfl hownA v13.heap.size (d, m) rfl (Bk.new v13 _ _) (by omega) (by simp; omega) ?_; intro v8 w8 hown8 hgrow; refine hK' _ _ ?_)
        go_wp2_with fail
        go_ret
        exact ⟨_, l ++ [(d, m)], rfl, hown8, by simp; omega, ((hSB13.alloc _).own hgrow (fun r e => Nat.lt_of_lt_of_le hsw (hob r e))).le (by omega), (hG13.alloc _).other hgrow (fun r e => .inl (hob r e))⟩
def WswBd (l : List Wsw) : Prop := ∀ x ∈ l, -1099511627776 ≤ x.2.1 ∧ x.2.1 ≤ 1099511627776
theorem WswBd.snoc {l : List Wsw} {r : Wsw} (h : WswBd l) (hr : -1099511627776 ≤ r.2.1 ∧ r.2.1 ≤ 1099511627776) : WswBd (l ++ [r]) := fun p hp => by
  rcases List.mem_append.1 hp with hp | hp
  · exact h p hp
  · obtain rfl := List.mem_singleton.1 hp; exact hr
theorem WswBd.set {l : List Wsw} {r : Wsw} (h : WswBd l) (hr : -1099511627776 ≤ r.2.1 ∧ r.2.1 ≤ 1099511627776) (k : Nat) : WswBd (l.set k r) := fun p hp => by
  rcases List.mem_or_eq_of_mem_set hp with hp | rfl
  · exact h p hp
  · exact hr
def WswPost (s K : Nat) (w : World) (e : Ending) (w' : World) : Prop :=
  ∃ (v : Value) (l : List Wsw), e = .returned v ∧ OwnX 168 3 wswC w' w.heap.size v l ∧ WswOk l ∧ WswBd l ∧ l.length ≤ 4 ∧ SB w' s (K + 100) ∧ G w w' (some s)
def WswGRel (w : World) (s K gk : Nat) (s3 s8 : Value) (wr : World) : Prop :=
  ∃ (k : Nat) (l : List Wsw), k ≤ 4 ∧ l.length ≤ k ∧ s8 = .int .i64 k ∧ Bk wr gk 9 #[.string ⟨#[118, 49]⟩, .string ⟨#[118, 50]⟩, .string ⟨#[118, 51]⟩, .string ⟨#[118, 52]⟩] ∧ OwnX 168 3 wswC wr w.heap.size s3 l ∧ WswOk l ∧ WswBd l ∧ SB wr s (K + 1 + 4 * k) ∧ G w wr (some s)
set_option maxRecDepth 100000 in
set_option maxHeartbeats 8000000 in
theorem wantedG_c (w : World) (s : Nat) (K : Nat) (hs : SB w s K) (hk : K ≤ 600000000000) :
    Calls Tryd.prog 59 #[.pointer (some ⟨s, 0, none⟩)] w (WswPost s K w) := by
  have hsw := hs.lt
  have hK := Bk.new w 9 #[.string ⟨#[118, 49]⟩, .string ⟨#[118, 50]⟩, .string ⟨#[118, 51]⟩, .string ⟨#[118, 52]⟩]
  have hSB1 := hs.alloc (.cells #[.string ⟨#[118, 49]⟩, .string ⟨#[118, 50]⟩, .string ⟨#[118, 51]⟩, .string ⟨#[118, 52]⟩] 9)
  have hG1 := (G.refl w (some s)).alloc (.cells #[.string ⟨#[118, 49]⟩, .string ⟨#[118, 50]⟩, .string ⟨#[118, 51]⟩, .string ⟨#[118, 52]⟩] 9)
  go_enter Tryd.func59, Tryd.ntmps59
  go_wp2_with fail
  generalize w.alloc (.cells #[.string ⟨#[118, 49]⟩, .string ⟨#[118, 50]⟩, .string ⟨#[118, 51]⟩, .string ⟨#[118, 52]⟩] 9) = w1 at hK hSB1 hG1 ⊢
  have hsk : s < w.heap.size := hsw
  obtain ⟨gk, hgk⟩ : ∃ g, w.heap.size = g := ⟨_, rfl⟩
  have hgks : s ≠ gk := by omega
  have hgkw : w.heap.size ≤ gk := by omega
  rw [hgk] at hK ⊢
  clear hgk
  go_loopw [3, 10] (WswGRel w s K gk) (fun _ i _ => 4 - (intOf i).toNat)
  case atStart => exact ⟨0, [], by omega, by simp, rfl, hK, World.ownsRow_nil _ _ _ _, fun x hx => (by cases hx), fun x hx => (by cases hx), hSB1.le (by omega), hG1⟩
  case round =>
    clear hK hSB1 hG1 hs
    obtain ⟨k, l, hkn, hlk, rfl, hK, hown, hok, hbd, hSB, hG⟩ := hrel
    have HOK := Lib.hid hok
    have HBD := Lib.hid hbd
    clear hok hbd
    by_cases hlt : k < 4
    · have HLK := Lib.hid hlk
      have HKN := Lib.hid hlt
      obtain ⟨ky, hky, hcy⟩ : ∃ ky : ByteArray, Small ky ∧ wr.cell? ⟨gk, k, none⟩ = some (.string ky) := by
        rcases (show k = 0 ∨ k = 1 ∨ k = 2 ∨ k = 3 by omega) with rfl | rfl | rfl | rfl
        · exact ⟨_, small_of (by decide), hK.cell 0⟩
        · exact ⟨_, small_of (by decide), hK.cell 1⟩
        · exact ⟨_, small_of (by decide), hK.cell 2⟩
        · exact ⟨_, small_of (by decide), hK.cell 3⟩
      have HKY := Lib.hid hky
      have hki : (k : Int) < 4 := by omega
      clear hlk hky
      go_wp2_with fail
      refine (flip_c _ _ _ _ hSB (by omega) (by omega)).mono ?_; rintro e v11 ⟨q, rfl, hSB11, hg⟩

      have hh := hg
      have hown11 := OwnX.kept hown hh hsw
      have hG11 := hG.trans hh
      have hK11 := hK.grown hh (fun e => hgks (Option.some.inj e).symm)
      clear hown hG hSB hK hg hh 
      clear hcy
      cases q with
      | true =>
        go_wp2_with fail
        go_roundw
        case rel => exact ⟨k + 1, l, (by have := HKN.out; omega), (by have := HLK.out; omega), by go_num, hK11, hown11, HOK.out, HBD.out, hSB11.le (by omega), hG11⟩
        case measure => have := HKN.out; simp [intOf]; omega
      | false =>
        go_wp2_with fail
        refine (pick_c _ _ _ [0, 0, 1, 2] _ _ _ (hSB11.alloc _) (by omega) (by decide) (by decide) (Rd.newAt _ rfl rfl (by decide)) (hSB11.newAt _ _ _ (Nat.le_refl _))).mono ?_; rintro e v12 ⟨f, rfl, hp, hSB12, hg⟩
        have fb : 0 ≤ f ∧ f ≤ 2 := by simp only [List.mem_cons, List.mem_nil_iff, or_false] at hp; omega
        obtain ⟨f0, f1⟩ := fb
        have hh := ((G.refl v11 (some s)).alloc (.cells _ 3)).trans hg
        have hown12 := OwnX.kept hown11 hh hsw
        have hG12 := hG11.trans hh
        have hK12 := hK11.grown hh (fun e => hgks (Option.some.inj e).symm)
        clear hown11 hG11 hSB11 hK11 hg hh hp
        go_wp2_with fail
        refine (pick_c _ _ _ [1, 2, 3, 4, 6, 0] _ _ _ (hSB12.alloc _) (by omega) (by decide) (by decide) (Rd.newAt _ rfl rfl (by decide)) (hSB12.newAt _ _ _ (Nat.le_refl _))).mono ?_; rintro e v13 ⟨t, rfl, hp, hSB13, hg⟩
        have tb : 0 ≤ t ∧ t ≤ 6 := by simp only [List.mem_cons, List.mem_nil_iff, or_false] at hp; omega
        obtain ⟨t0, t1⟩ := tb
        have hh := ((G.refl v12 (some s)).alloc (.cells _ 3)).trans hg
        have hown13 := OwnX.kept hown12 hh hsw
        have hG13 := hG12.trans hh
        have hK13 := hK12.grown hh (fun e => hgks (Option.some.inj e).symm)
        clear hown12 hG12 hSB12 hK12 hg hh hp
        have hne := OwnX.apy hown13 hK13 (by decide)
        have hKA := hK13.alloc (.cells #[.string ky, .int .i64 f, .int .i64 (f + t)] 168)
        have hob := OwnX.low hown13
        have hsz := hG13.size
        have hownA := OwnX.alloc hown13 (.cells #[.string ky, .int .i64 f, .int .i64 (f + t)] 168)
        go_wp2_with (at_builtin; refine wpList_plain rfl fun K' hK' => wp_append_x wsw_rowOk _ _ rfl w.heap.size u3 l rfl hownA v13.heap.size (ky, f, f + t) rfl (Bk.new v13 _ _) (by have := HLK.out; omega) (by simp; omega) ?_; intro v8 w8 hown8 hgrow; refine hK' _ _ ?_)
        go_roundw
        case rel => exact ⟨k + 1, l ++ [(ky, f, f + t)], (by have := HKN.out; omega), (by have := HLK.out; simp; omega), by go_num, hKA.grown hgrow hne, hown8, HOK.out.snoc HKY.out, HBD.out.snoc (by dsimp only; omega), ((hSB13.alloc _).own hgrow (fun r e => Nat.lt_of_lt_of_le hsw (hob r e))).le (by omega), (hG13.alloc _).other hgrow (fun r e => .inl (hob r e))⟩
        case measure => have := HKN.out; simp [intOf]; omega
    · have hl4 : l.length ≤ 4 := by omega
      have hk4 : k = 4 := by omega
      subst hk4
      clear hK
      clear hlk
      rcases Nat.eq_zero_or_pos l.length with h0 | h0
      · obtain rfl : l = [] := List.eq_nil_of_length_eq_zero h0
        obtain ⟨aa, cc, hv, -, -⟩ := RdR.form (c := wswC) (Rd.of_owns hown)
        have hv' : u3 = .slice aa 0 cc := hv
        clear hv h0
        subst hv'
        go_wp2_with fail
        go_ret
        exact ⟨_, [], rfl, hown, HOK.out, HBD.out, by simp, hSB.le (by omega), hG⟩
      · obtain ⟨g, cap, cur, e, -⟩ := ws_form0 hown h0
        subst e
        have hgs := OwnX.low hown g rfl
        have h0i : ((0 : Int) < (l.length : Int)) := by omega
        clear h0
        go_wp2_with fail
        refine (flip_c _ _ _ _ hSB (by omega) (by omega)).mono ?_; rintro e v31 ⟨q, rfl, hSB31, hg⟩

        have hh := hg
        have hown31 := OwnX.kept hown hh hsw
        have hG31 := hG.trans hh
        clear hown hG hSB hg hh 
        cases q with
        | false =>
          go_wp2_with fail
          go_ret
          exact ⟨_, l, rfl, hown31, HOK.out, HBD.out, by omega, hSB31.le (by omega), hG31⟩
        | true =>
          go_wp2_with fail
          refine (next_c _ _ _ _ hSB31 (by omega) (by omega)).mono ?_; rintro e v32 ⟨j, rfl, hj, hSB32, hg⟩
          obtain ⟨j0, j1⟩ := hj
          obtain ⟨j, rfl⟩ := Int.eq_ofNat_of_zero_le j0
          have jl : j < l.length := by omega
          have jli : (j : Int) < (l.length : Int) := by omega
          clear j1
          have hh := hg
          have hown32 := OwnX.kept hown31 hh hsw
          have hG32 := hG31.trans hh
          clear hown31 hG31 hSB31 hg hh 
          obtain ⟨⟨z1, z2, z3⟩, hpj⟩ : ∃ p, l[j]? = some p := ⟨_, List.getElem?_eq_getElem jl⟩
          have HPJ := Lib.hid hpj
          have HPG : Hid (Small z1) := Lib.hid (HOK.out _ (List.mem_of_getElem? hpj))
          clear hpj
          have hgsg : s < g := Nat.lt_of_lt_of_le hsw hgs
          have c0 := RdR.cell wswC_sz (Rd.of_owns hown32) (G.refl _ none) HPJ.out 0 (.string z1) rfl
          simp only [Nat.add_zero, Nat.zero_add] at c0
          go_wp2_with fail
          refine (some_c _ _ _ [z1, ⟨#[]⟩, ⟨#[118, 49]⟩] _ _ _ (hSB32.alloc _) (by omega) (by decide) (by decide) (Rd.newAt _ rfl rfl (by decide)) (hSB32.newAt _ _ _ (Nat.le_refl _))).mono ?_; rintro e v33 ⟨n7, rfl, hp, hSB33, hg⟩
          have Hn7 : Hid (Small n7) := Lib.hid (by
            simp only [List.mem_cons, List.mem_nil_iff, or_false] at hp
            rcases hp with rfl | rfl | rfl
            · exact HPG.out
            · exact small_of (by decide)
            · exact small_of (by decide)
          )
          have hh := ((G.refl v32 (some s)).alloc (.cells _ 9)).trans hg
          have hown33 := OwnX.kept hown32 hh hsw
          have hG33 := hG32.trans hh
          clear hown32 hG32 hSB32 hg hh hp
          clear c0
          go_wp2_with fail
          refine (odd_c _ _ _ _ _ hSB33 (by omega) (by omega) (by omega) (by omega) (by omega)).mono ?_; rintro e v34 ⟨o1, rfl, o10, o11, hSB34, hg⟩

          have hh := hg
          have hown34 := OwnX.kept hown33 hh hsw
          have hG34 := hG33.trans hh
          clear hown33 hG33 hSB33 hg hh 
          go_wp2_with fail
          refine (odd_c _ _ _ _ _ hSB34 (by omega) (by omega) (by omega) (by omega) (by omega)).mono ?_; rintro e v35 ⟨o2, rfl, o20, o21, hSB35, hg⟩

          have hh := hg
          have hown35 := OwnX.kept hown34 hh hsw
          have hG35 := hG34.trans hh
          clear hown34 hG34 hSB34 hg hh 
          have d0 := RdR.cell wswC_sz (Rd.of_owns hown35) (G.refl _ none) HPJ.out 0 (.string z1) rfl
          have f0 := ownsRow_free hown35 (j * 3 + 0)
          have d1 := RdR.cell wswC_sz (Rd.of_owns hown35) (G.refl _ none) HPJ.out 1 (.int .i64 z2) rfl
          have f1 := ownsRow_free hown35 (j * 3 + 1)
          have d2 := RdR.cell wswC_sz (Rd.of_owns hown35) (G.refl _ none) HPJ.out 2 (.int .i64 z3) rfl
          have f2 := ownsRow_free hown35 (j * 3 + 2)
          have q1 := OwnX.set wswC_sz hown35 HPJ.out (q := (n7, z2, z3)) 0 (.string n7) (by omega) rfl
          have q2 := OwnX.set wswC_sz q1 (show (l.set j (n7, z2, z3))[j]? = some (n7, z2, z3) by rw [List.getElem?_set_self jl]) (q := (n7, o1, z3)) 1 (.int .i64 o1) (by omega) rfl
          rw [List.set_set] at q2
          have q3 := OwnX.set wswC_sz q2 (show (l.set j (n7, o1, z3))[j]? = some (n7, o1, z3) by rw [List.getElem?_set_self jl]) (q := (n7, o1, o2)) 2 (.int .i64 o2) (by omega) rfl
          rw [List.set_set] at q3
          simp only [Nat.zero_add, Nat.add_zero] at d0 d1 d2 f0 q3
          have HQ := Lib.hid q3
          clear q1 q2 q3 hown35
          go_wp2_with fail
          go_ret
          exact ⟨_, l.set j (n7, o1, o2), rfl, (by unfold OwnX; rw [List.length_set]; exact HQ.out), HOK.out.set (r := (n7, o1, o2)) Hn7.out j, HBD.out.set (r := (n7, o1, o2)) (by dsimp only; omega) j, by rw [List.length_set]; omega, (((hSB35.setCell (p := ⟨g, j * 3, none⟩) hgsg _).setCell (p := ⟨g, j * 3 + 1, none⟩) hgsg _).setCell (p := ⟨g, j * 3 + 2, none⟩) hgsg _).le (by omega), (((hG35.setCell (p := ⟨g, j * 3, none⟩) (.inl hgs) _).setCell (p := ⟨g, j * 3 + 1, none⟩) (.inl hgs) _).setCell (p := ⟨g, j * 3 + 2, none⟩) (.inl hgs) _)⟩
end Go.Proofs.YtndeidcddlmhbaaDoor

/- Generators: BusyOf, placed ones. Written by genwsg.py. -/
namespace Go.Proofs.YtndeidcddlmhbaaDoor
open Go.RowKit

theorem wsb_rowOk : RowOk Tryd.prog 171 100 4 40 (.agg #[.string ⟨#[]⟩, .int .i64 0, .int .i64 0, .int .i64 0]) wsbC := ⟨by kernel_rfl, Tryd.underlying100, fun r u hu => by simp [wsbC] at hu; rcases hu with rfl | rfl | rfl | rfl <;> rfl, wsbC_sz, rfl, by omega, by omega⟩
theorem wsp_rowOk : RowOk Tryd.prog 174 102 2 24 (.agg #[.string ⟨#[]⟩, .int .i64 0]) wspC := ⟨by kernel_rfl, Tryd.underlying102, fun r u hu => by simp [wspC] at hu; rcases hu with rfl | rfl <;> rfl, wspC_sz, rfl, by omega, by omega⟩
theorem WsbOk.snoc {l : List Wsb} {r : Wsb} (h : WsbOk l) (hr : Small r.1) : WsbOk (l ++ [r]) := fun p hp => by
  rcases List.mem_append.1 hp with hp | hp
  · exact h p hp
  · obtain rfl := List.mem_singleton.1 hp; exact hr
theorem WsbOk.set {l : List Wsb} {r : Wsb} (h : WsbOk l) (hr : Small r.1) (k : Nat) : WsbOk (l.set k r) := fun p hp => by
  rcases List.mem_or_eq_of_mem_set hp with hp | rfl
  · exact h p hp
  · exact hr
theorem WspOk.snoc {l : List Wsp} {r : Wsp} (h : WspOk l) (hr : Small r.1) : WspOk (l ++ [r]) := fun p hp => by
  rcases List.mem_append.1 hp with hp | hp
  · exact h p hp
  · obtain rfl := List.mem_singleton.1 hp; exact hr
theorem WspOk.set {l : List Wsp} {r : Wsp} (h : WspOk l) (hr : Small r.1) (k : Nat) : WspOk (l.set k r) := fun p hp => by
  rcases List.mem_or_eq_of_mem_set hp with hp | rfl
  · exact h p hp
  · exact hr
def WsbPost (s K : Nat) (w : World) (e : Ending) (w' : World) : Prop :=
  ∃ (v : Value) (l : List Wsb), e = .returned v ∧ OwnX 171 4 wsbC w' w.heap.size v l ∧ WsbOk l ∧ l.length ≤ 7 ∧ SB w' s (K + 100) ∧ G w w' (some s)
def WsbGRel (w : World) (s K m : Nat) (s3 s8 : Value) (wr : World) : Prop :=
  ∃ (k : Nat) (l : List Wsb), k ≤ m ∧ l.length = k ∧ s8 = .int .i64 k ∧ OwnX 171 4 wsbC wr w.heap.size s3 l ∧ WsbOk l ∧ SB wr s (K + 1 + 5 * k) ∧ G w wr (some s)
set_option maxRecDepth 100000 in
set_option maxHeartbeats 8000000 in
theorem busyG_c (w : World) (s : Nat) (K : Nat) (hs : SB w s K) (hk : K ≤ 600000000000) :
    Calls Tryd.prog 60 #[.pointer (some ⟨s, 0, none⟩)] w (WsbPost s K w) := by
  have hsw := hs.lt
  go_enter Tryd.func60, Tryd.ntmps60
  go_wp2_with fail
  refine (range_c 0 7 _ s _ hs (by omega) (by omega) (by omega) (by omega)).mono ?_; rintro e w1 ⟨nn, rfl, r0, r1, hSB1, hG1⟩
  obtain ⟨m, rfl⟩ := Int.eq_ofNat_of_zero_le r0
  have hm7 : m ≤ 7 := by omega
  clear hs r0 r1
  go_wp2_with fail
  go_loopw [3, 8] (WsbGRel w s K m) (fun _ i _ => m - (intOf i).toNat)
  case atStart => exact ⟨0, [], by omega, rfl, rfl, World.ownsRow_nil _ _ _ _, fun x hx => (by cases hx), hSB1, hG1⟩
  case round =>
    clear hSB1 hG1
    obtain ⟨k, l, hkn, hlk, rfl, hown, hok, hSB, hG⟩ := hrel
    have HOK := Lib.hid hok
    clear hok
    by_cases hlt : k < m
    · have HLK := Lib.hid hlk
      have HKN := Lib.hid hlt
      clear hlk
      go_wp2_with fail
      refine (range_c 0 5 _ s _ hSB (by omega) (by omega) (by omega) (by omega)).mono ?_; rintro e v11 ⟨f, rfl, f0, f1, hSB11, hg⟩
      have f2 : f ≤ 5 := by omega
      have hh := hg
      have hown11 := OwnX.kept hown hh hsw
      have hG11 := hG.trans hh
      clear hown hG hSB hg hh 
      go_wp2_with fail
      refine (some_c _ _ _ [⟨#[118, 49]⟩, ⟨#[118, 50]⟩, ⟨#[118, 51]⟩, ⟨#[118, 57]⟩] _ _ _ (hSB11.alloc _) (by omega) (by decide) (by decide) (Rd.newAt _ rfl rfl (by decide)) (hSB11.newAt _ _ _ (Nat.le_refl _))).mono ?_; rintro e v12 ⟨h, rfl, hp, hSB12, hg⟩
      have Hh := Lib.hid (small_pick hp (by decide))
      have hh := ((G.refl v11 (some s)).alloc (.cells _ 9)).trans hg
      have hown12 := OwnX.kept hown11 hh hsw
      have hG12 := hG11.trans hh
      clear hown11 hG11 hSB11 hg hh hp
      go_wp2_with fail
      refine (pick_c _ _ _ [0, 1, 1, 2, 4] _ _ _ (hSB12.alloc _) (by omega) (by decide) (by decide) (Rd.newAt _ rfl rfl (by decide)) (hSB12.newAt _ _ _ (Nat.le_refl _))).mono ?_; rintro e v13 ⟨t, rfl, hp, hSB13, hg⟩
      have tb : 0 ≤ t ∧ t ≤ 4 := by simp only [List.mem_cons, List.mem_nil_iff, or_false] at hp; omega
      obtain ⟨t0, t1⟩ := tb
      have hh := ((G.refl v12 (some s)).alloc (.cells _ 3)).trans hg
      have hown13 := OwnX.kept hown12 hh hsw
      have hG13 := hG12.trans hh
      clear hown12 hG12 hSB12 hg hh hp
      go_wp2_with fail
      refine (pick_c _ _ _ [0, 50, 50, 80, 100] _ _ _ (hSB13.alloc _) (by omega) (by decide) (by decide) (Rd.newAt _ rfl rfl (by decide)) (hSB13.newAt _ _ _ (Nat.le_refl _))).mono ?_; rintro e v14 ⟨c, rfl, hp, hSB14, hg⟩

      have hh := ((G.refl v13 (some s)).alloc (.cells _ 3)).trans hg
      have hown14 := OwnX.kept hown13 hh hsw
      have hG14 := hG13.trans hh
      clear hown13 hG13 hSB13 hg hh hp
      have hob := OwnX.low hown14
      have hsz := hG14.size
      have hownA := OwnX.alloc hown14 (.cells #[.string h, .int .i64 f, .int .i64 (f + t), .int .i64 c] 171)
      go_wp2_with (at_builtin; refine wpList_plain rfl fun K' hK' => wp_append_x wsb_rowOk _ _ rfl w.heap.size u3 l rfl hownA v14.heap.size (h, f, f + t, c) rfl (Bk.new v14 _ _) (by have := HLK.out; omega) (by simp; omega) ?_; intro v8 w8 hown8 hgrow; refine hK' _ _ ?_)
      go_roundw
      case rel => exact ⟨k + 1, l ++ [(h, f, f + t, c)], (by have := HKN.out; omega), (by have := HLK.out; simp; omega), by go_num, hown8, HOK.out.snoc Hh.out, ((hSB14.alloc _).own hgrow (fun r e => Nat.lt_of_lt_of_le hsw (hob r e))).le (by omega), (hG14.alloc _).other hgrow (fun r e => .inl (hob r e))⟩
      case measure => have := HKN.out; simp [intOf]; omega
    · obtain rfl : k = m := by omega
      have hl7 : l.length ≤ 7 := by omega
      clear hlk
      rcases Nat.eq_zero_or_pos l.length with h0 | h0
      · obtain rfl : l = [] := List.eq_nil_of_length_eq_zero h0
        obtain ⟨aa, cc, hv, -, -⟩ := RdR.form (c := wsbC) (Rd.of_owns hown)
        have hv' : u3 = .slice aa 0 cc := hv
        clear hv h0
        subst hv'
        go_wp2_with fail
        go_ret
        exact ⟨_, [], rfl, hown, HOK.out, by simp, hSB.le (by omega), hG⟩
      · obtain ⟨g, cap, cur, e, -⟩ := ws_form0 hown h0
        subst e
        have hgs := OwnX.low hown g rfl
        have h0i : ((0 : Int) < (l.length : Int)) := by omega
        clear h0
        go_wp2_with fail
        refine (flip_c _ _ _ _ hSB (by omega) (by omega)).mono ?_; rintro e v31 ⟨q, rfl, hSB31, hg⟩

        have hh := hg
        have hown31 := OwnX.kept hown hh hsw
        have hG31 := hG.trans hh
        clear hown hG hSB hg hh 
        cases q with
        | false =>
          go_wp2_with fail
          go_ret
          exact ⟨_, l, rfl, hown31, HOK.out, by omega, hSB31.le (by omega), hG31⟩
        | true =>
          go_wp2_with fail
          refine (next_c _ _ _ _ hSB31 (by omega) (by omega)).mono ?_; rintro e v32 ⟨j, rfl, hj, hSB32, hg⟩
          obtain ⟨j0, j1⟩ := hj
          obtain ⟨j, rfl⟩ := Int.eq_ofNat_of_zero_le j0
          have jl : j < l.length := by omega
          have jli : (j : Int) < (l.length : Int) := by omega
          clear j1
          have hh := hg
          have hown32 := OwnX.kept hown31 hh hsw
          have hG32 := hG31.trans hh
          clear hown31 hG31 hSB31 hg hh 
          obtain ⟨⟨z1, z2, z3, z4⟩, hpj⟩ : ∃ p, l[j]? = some p := ⟨_, List.getElem?_eq_getElem jl⟩
          have HPJ := Lib.hid hpj
          have HPG : Hid (Small z1) := Lib.hid (HOK.out _ (List.mem_of_getElem? hpj))
          clear hpj
          have hgsg : s < g := Nat.lt_of_lt_of_le hsw hgs
          have c0 := RdR.cell wsbC_sz (Rd.of_owns hown32) (G.refl _ none) HPJ.out 0 (.string z1) rfl
          simp only [Nat.add_zero, Nat.zero_add] at c0
          go_wp2_with fail
          refine (some_c _ _ _ [z1, ⟨#[]⟩] _ _ _ (hSB32.alloc _) (by omega) (by decide) (by decide) (Rd.newAt _ rfl rfl (by decide)) (hSB32.newAt _ _ _ (Nat.le_refl _))).mono ?_; rintro e v33 ⟨n7, rfl, hp, hSB33, hg⟩
          have Hn7 : Hid (Small n7) := Lib.hid (by
            simp only [List.mem_cons, List.mem_nil_iff, or_false] at hp
            rcases hp with rfl | rfl
            · exact HPG.out
            · exact small_of (by decide)
          )
          have hh := ((G.refl v32 (some s)).alloc (.cells _ 9)).trans hg
          have hown33 := OwnX.kept hown32 hh hsw
          have hG33 := hG32.trans hh
          clear hown32 hG32 hSB32 hg hh hp
          clear c0
          go_wp2_with fail
          refine (odd_c _ _ _ _ _ hSB33 (by omega) (by omega) (by omega) (by omega) (by omega)).mono ?_; rintro e v34 ⟨o1, rfl, o10, o11, hSB34, hg⟩

          have hh := hg
          have hown34 := OwnX.kept hown33 hh hsw
          have hG34 := hG33.trans hh
          clear hown33 hG33 hSB33 hg hh 
          go_wp2_with fail
          refine (odd_c _ _ _ _ _ hSB34 (by omega) (by omega) (by omega) (by omega) (by omega)).mono ?_; rintro e v35 ⟨o2, rfl, o20, o21, hSB35, hg⟩

          have hh := hg
          have hown35 := OwnX.kept hown34 hh hsw
          have hG35 := hG34.trans hh
          clear hown34 hG34 hSB34 hg hh 
          have d0 := RdR.cell wsbC_sz (Rd.of_owns hown35) (G.refl _ none) HPJ.out 0 (.string z1) rfl
          have f0 := ownsRow_free hown35 (j * 4 + 0)
          have d2 := RdR.cell wsbC_sz (Rd.of_owns hown35) (G.refl _ none) HPJ.out 2 (.int .i64 z3) rfl
          have f2 := ownsRow_free hown35 (j * 4 + 2)
          have d3 := RdR.cell wsbC_sz (Rd.of_owns hown35) (G.refl _ none) HPJ.out 3 (.int .i64 z4) rfl
          have f3 := ownsRow_free hown35 (j * 4 + 3)
          have q1 := OwnX.set wsbC_sz hown35 HPJ.out (q := (n7, z2, z3, z4)) 0 (.string n7) (by omega) rfl
          have q2 := OwnX.set wsbC_sz q1 (show (l.set j (n7, z2, z3, z4))[j]? = some (n7, z2, z3, z4) by rw [List.getElem?_set_self jl]) (q := (n7, z2, o1, z4)) 2 (.int .i64 o1) (by omega) rfl
          rw [List.set_set] at q2
          have q3 := OwnX.set wsbC_sz q2 (show (l.set j (n7, z2, o1, z4))[j]? = some (n7, z2, o1, z4) by rw [List.getElem?_set_self jl]) (q := (n7, z2, o1, o2)) 3 (.int .i64 o2) (by omega) rfl
          rw [List.set_set] at q3
          simp only [Nat.zero_add, Nat.add_zero] at d0 d2 d3 f0 q3
          have HQ := Lib.hid q3
          clear q1 q2 q3 hown35
          go_wp2_with fail
          go_ret
          exact ⟨_, l.set j (n7, z2, o1, o2), rfl, (by unfold OwnX; rw [List.length_set]; exact HQ.out), HOK.out.set (r := (n7, z2, o1, o2)) Hn7.out j, by rw [List.length_set]; omega, (((hSB35.setCell (p := ⟨g, j * 4, none⟩) hgsg _).setCell (p := ⟨g, j * 4 + 2, none⟩) hgsg _).setCell (p := ⟨g, j * 4 + 3, none⟩) hgsg _).le (by omega), (((hG35.setCell (p := ⟨g, j * 4, none⟩) (.inl hgs) _).setCell (p := ⟨g, j * 4 + 2, none⟩) (.inl hgs) _).setCell (p := ⟨g, j * 4 + 3, none⟩) (.inl hgs) _)⟩
end Go.Proofs.YtndeidcddlmhbaaDoor
