/- Bkd, Odc, Ode, Rdy, Cml, Lay. -/
import Derived.Test.YtdcofbciebkfkaaDoorZm9
import Derived.Laws.StructEq
import Derived.Test.YtdcofbciebkfkaaDoorZm1
import Derived.Test.YtdcofbciebkfkaaDoorRows
import Derived.Test.YtdcofbciebkfkaaDoorTie
import Derived.Test.YtdcofbciebkfkaaDoorCards
import Derived.LaidMore
import Derived.ChangeSame
import Derived.ProofKit
import Derived.OpenShut
import Derived.PinnedBridge
import Derived.Deep.DeepHandedRow
import Derived.Deep.DeepWitnessRowRef
/- The law's own 'booked': the odds of one booking. -/
namespace Go.Proofs.YtdcofbciebkfkaaDoor
open Go.RowKit

def coE (l : List Bo) : Int := if boE l = 0 then (if 9 < l.length then 2 else 0) else boE l
set_option maxRecDepth 100000 in
set_option maxHeartbeats 1000000 in
theorem checkOdds_c (v : Value) (l : List Bo) (w : World) (hr : RdR w 6 boC v l) (hl : BoOk l) (hn : l.length ≤ 1000) :
    Calls Tryd.prog 155 #[v] w fun e w' => e = .returned (.int .i64 (coE l)) ∧ G w w' none := by
  have HR := Lib.hid hr
  obtain ⟨a, cap, rfl, hcap, hm⟩ := RdR.form hr
  clear hr
  go_enter Tryd.func155, Tryd.ntmps155
  go_wp2_with fail
  refine (checkForm_c _ l _ HR.out hl hn).mono ?_; rintro e w1 ⟨rfl, hG1⟩
  by_cases h0 : boE l = 0
  · have HE : Hid (coE l = if 9 < l.length then 2 else 0) := Lib.hid (by rw [coE, if_pos h0])
    rw [h0]
    clear h0
    by_cases h9 : 9 < l.length
    · have HF : Hid (coE l = 2) := Lib.hid (by rw [HE.out, if_pos h9])
      go_wp2_with fail
      go_ret
      exact ⟨by rw [HF.out]; rfl, hG1⟩
    · have HF : Hid (coE l = 0) := Lib.hid (by rw [HE.out, if_neg h9])
      go_wp2_with fail
      go_ret
      exact ⟨by rw [HF.out]; rfl, hG1⟩
  · have HF : Hid (coE l = boE l) := Lib.hid (by rw [coE, if_neg h0])
    have h0' : (boE l != 0) = true := by rw [bne_iff_ne]; exact h0
    clear h0
    generalize boE l = E at h0' HF ⊢
    go_wp2_with fail
    go_ret
    exact ⟨by rw [HF.out]; rfl, hG1⟩
def bo1 : Bo := (⟨#[97]⟩, ⟨#[99]⟩, 0, 1, 0, 50)
set_option maxRecDepth 100000 in
set_option maxHeartbeats 4000000 in
theorem casesOf1_c (w : World) (b : Nat) (h : Bk w b 210 (boC bo1)) :
    Calls Tryd.prog 156 #[.slice (some ⟨b, 0, none⟩) 1 1] w fun e w' => ∃ g, e = .returned (.tuple #[.slice (some ⟨g, 0, none⟩) 2 2, .int .i64 100]) ∧ Bk w' g 3 #[.int .i64 50, .int .i64 50] ∧ G w w' none := by
  have HA := Lib.hid h.at_
  have hb := h.lt
  have h1 := h.alloc (.cells #[.int .i64 1] 3)
  have hG1 := (G.refl w none).alloc (.cells #[.int .i64 1] 3)
  have hN1 := Bk.new w 3 #[.int .i64 1]
  have HA1 := Lib.hid h1.at_
  have hms : ∀ w : World, (Instr.makeSlice 22 (.int .i64 2) (.int .i64 2)).run Tryd.prog w = .ok (.slice (some ⟨w.heap.size, 0, none⟩) 2 2) (w.alloc (.cells #[.int .i64 0, .int .i64 0] 3)) := fun _ => by kernel_rfl
  clear h
  go_enter Tryd.func156, Tryd.ntmps156
  go_wp2_with fail
  refine wp_loop_rounds 2 ?_
  rw [rounds_succ]
  go_wp2_with (refine wpList_load_at rfl 210 _ rfl ⟨b, 0, none⟩ rfl #[.string ⟨#[97]⟩, .string ⟨#[99]⟩, .int .i64 0, .int .i64 1, .int .i64 0, .int .i64 50] _ HA1.out Tryd.underlying210 rfl (bo_info bo1) ?_)
  refine wp_loop_rounds 2 ?_
  rw [rounds_succ]
  go_wp2_with fail
  have hP : Bk (((w.alloc (.cells #[.int .i64 1] 3)).alloc (.cells #[.string ⟨#[97]⟩, .string ⟨#[99]⟩, .int .i64 0, .int .i64 1, .int .i64 0, .int .i64 50] 210)).alloc (.cells #[.int .i64 0, .int .i64 0] 3)) (w.heap.size + 1) 210 (boC bo1) := (Bk.newAt (w := w.alloc (.cells #[.int .i64 1] 3)) (b := w.heap.size + 1) (by simp) 210 (boC bo1)).alloc _
  have hN : Bk (((w.alloc (.cells #[.int .i64 1] 3)).alloc (.cells #[.string ⟨#[97]⟩, .string ⟨#[99]⟩, .int .i64 0, .int .i64 1, .int .i64 0, .int .i64 50] 210)).alloc (.cells #[.int .i64 0, .int .i64 0] 3)) (w.heap.size + 1 + 1) 3 #[.int .i64 0, .int .i64 0] := Bk.newAt (w := ((w.alloc (.cells #[.int .i64 1] 3)).alloc (.cells #[.string ⟨#[97]⟩, .string ⟨#[99]⟩, .int .i64 0, .int .i64 1, .int .i64 0, .int .i64 50] 210))) (b := w.heap.size + 1 + 1) (by simp) 3 #[.int .i64 0, .int .i64 0]
  have hO : Bk (((w.alloc (.cells #[.int .i64 1] 3)).alloc (.cells #[.string ⟨#[97]⟩, .string ⟨#[99]⟩, .int .i64 0, .int .i64 1, .int .i64 0, .int .i64 50] 210)).alloc (.cells #[.int .i64 0, .int .i64 0] 3)) w.heap.size 3 #[.int .i64 1] := ((Bk.new w 3 #[.int .i64 1]).alloc _).alloc _
  have hG : G w (((w.alloc (.cells #[.int .i64 1] 3)).alloc (.cells #[.string ⟨#[97]⟩, .string ⟨#[99]⟩, .int .i64 0, .int .i64 1, .int .i64 0, .int .i64 50] 210)).alloc (.cells #[.int .i64 0, .int .i64 0] 3)) none := (((G.refl w none).alloc _).alloc _).alloc _
  clear h1 hG1 hN1 HA HA1
  generalize (((w.alloc (.cells #[.int .i64 1] 3)).alloc (.cells #[.string ⟨#[97]⟩, .string ⟨#[99]⟩, .int .i64 0, .int .i64 1, .int .i64 0, .int .i64 50] 210)).alloc (.cells #[.int .i64 0, .int .i64 0] 3)) = w4 at hP hN hO hG ⊢
  have p5 : w4.cell? ⟨w.heap.size + 1, 5, none⟩ = some (.int .i64 50) := hP.cell 5
  have n0 : w4.cell? ⟨w.heap.size + 1 + 1, 0, none⟩ = some (.int .i64 0) := hN.cell 0
  have f0 : w4.frozen? ⟨w.heap.size + 1 + 1, 0, none⟩ = false := hN.free 0
  go_still_tail 11, (by kernel_rfl)
  change wpList _ _ _ _ _ w4.drew
  have hPd := hP.quiet ((G.refl w4 none).drew)
  have hOd := hO.quiet ((G.refl w4 none).drew)
  have hNd := hN.quiet ((G.refl w4 none).drew)
  have hGd := hG.drew
  clear hP hN hO hG p5 n0 f0
  generalize w4.drew = w5 at hPd hOd hNd hGd ⊢
  have n0 : w5.cell? ⟨w.heap.size + 1 + 1, 0, none⟩ = some (.int .i64 0) := hNd.cell 0
  have f0 : w5.frozen? ⟨w.heap.size + 1 + 1, 0, none⟩ = false := hNd.free 0
  have hN : Bk (w5.setCell ⟨w.heap.size + 1 + 1, 0, none⟩ (.int .i64 50)) (w.heap.size + 1 + 1) 3 #[.int .i64 50, .int .i64 0] := hNd.set 0 _
  have hP := hPd.far (p := ⟨w.heap.size + 1 + 1, 0, none⟩) (show w.heap.size + 1 ≠ w.heap.size + 1 + 1 by omega) (.int .i64 50)
  have hG := hGd.setCell (p := ⟨w.heap.size + 1 + 1, 0, none⟩) (.inl (show w.heap.size ≤ w.heap.size + 1 + 1 by omega)) (.int .i64 50)
  clear hPd hNd hOd hGd
  go_wp2_with fail
  generalize w5.setCell ⟨w.heap.size + 1 + 1, 0, none⟩ (.int .i64 50) = w6 at hP hN hG ⊢
  have p5 : w6.cell? ⟨w.heap.size + 1, 5, none⟩ = some (.int .i64 50) := hP.cell 5
  have n1 : w6.cell? ⟨w.heap.size + 1 + 1, 1, none⟩ = some (.int .i64 0) := hN.cell 1
  have hw1 : IntKind.i64.wrap 1 = 1 := by decide
  have f1 : w6.frozen? ⟨w.heap.size + 1 + 1, 1, none⟩ = false := hN.free 1
  go_still_tail 11, (by kernel_rfl)
  change wpList _ _ _ _ _ w6.drew
  have hNd := hN.quiet ((G.refl w6 none).drew)
  have hGd := hG.drew
  clear hP hN hG p5 n1 f1
  generalize w6.drew = w7 at hNd hGd ⊢
  have n1 : w7.cell? ⟨w.heap.size + 1 + 1, 1, none⟩ = some (.int .i64 0) := hNd.cell 1
  have f1 : w7.frozen? ⟨w.heap.size + 1 + 1, 1, none⟩ = false := hNd.free 1
  have hN : Bk (w7.setCell ⟨w.heap.size + 1 + 1, 1, none⟩ (.int .i64 50)) (w.heap.size + 1 + 1) 3 #[.int .i64 50, .int .i64 50] := hNd.set 1 _
  have hG := hGd.setCell (p := ⟨w.heap.size + 1 + 1, 1, none⟩) (.inl (show w.heap.size ≤ w.heap.size + 1 + 1 by omega)) (.int .i64 50)
  clear hNd hGd
  go_wp2_with fail
  rw [rounds_succ]
  go_wp2_with fail
  rw [rounds_succ]
  go_wp2_with fail
  go_ret2
  exact ⟨_, rfl, hN, hG⟩
theorem bo1_ok : boB bo1 := ⟨small_of (by decide), small_of (by decide), by unfold bnd bo1; dsimp only; omega, by unfold bnd bo1; dsimp only; omega, by unfold bnd bo1; dsimp only; omega, by unfold bnd bo1; dsimp only; omega⟩
theorem coE_one : coE [bo1] = 0 := by
  have h1 : boE [bo1] = 0 := by
    show boErr ⟨#[]⟩ [bo1] = 0
    unfold boErr bo1
    dsimp only
    rw [if_neg (by rw [show keyB ⟨#[97]⟩ = true by decide]; decide), if_neg (by rw [show keyB ⟨#[99]⟩ = true by decide]; decide), if_neg (by rw [leB_cmp]; decide), if_neg (by decide)]
    rfl
  rw [coE, if_pos h1, if_neg (by decide)]
/-! A row of fractions that the call owns. -/
abbrev Fr := Int × Int
def frV (x : Fr) : Array Value := frC x.1 x.2
theorem frV_sz (x : Fr) : (frV x).size = 2 := rfl
abbrev OwnFr (w : World) (base : Nat) (v : Value) (l : List Fr) : Prop := w.ownsRow base 198 2 v l.length (rowL frV l)
theorem fr_row : (Tryd.prog.info? 198).map (fun i => (i.zero, i.size, i.bytes)) = some (some (.agg (frC 0 0)), 2, 16) := by kernel_rfl
theorem frV_one (r : Fr) : ∀ u ∈ (frV r).toList, u.oneCell' = true := by
  intro u hu
  simp [frV, frC] at hu
  rcases hu with rfl | rfl <;> rfl
theorem wp_append_fr {w : World} {o : Oper} {a : Act} {K : Act → World → Prop} {Q : Exit → Act → World → Prop} (s x : Operand)
    (ho : o.op = .call { callee := .builtin .append, args := #[s, x], argTypes := #[150, 150] }) (base : Nat) (v : Value) (l : List Fr) (hs : a.eval s = v) (hown : OwnFr w base v l)
    (g : Nat) (r : Fr) (hx : a.eval x = .slice (some ⟨g, 0, none⟩) 1 1) (hb : Bk w g 198 (frV r)) (hl : l.length ≤ 1000) (hbase : base ≤ w.heap.size)
    (hK : ∀ v' w', OwnFr w' base v' (l ++ [r]) → w.grownBy w' v.ownBlock → K (a.put o.dst v') w') : o.wp Tryd.prog a w K Q := by
  obtain ⟨i0, hi, hz0, hz1, hz2⟩ := info_parts fr_row
  refine wp_append_own w s x 150 ho base 198 i0 _ 2 16 Tryd.underlying150 hi hz0 hz1 hz2 rfl (by decide) v l.length (rowL frV l) hs hown ⟨g, 0, none⟩ 1 1 (frV r).toList hx rfl hb.at_ (frV_one r) (by unfold maxLen; omega) (by omega) hbase ?_
  intro v' w' h1 h2 _
  refine hK v' w' ?_ h2
  unfold OwnFr
  rw [List.length_append, rowL_snoc]
  exact h1
theorem OwnFr.alloc {w : World} {base : Nat} {v : Value} {l : List Fr} (h : OwnFr w base v l) (o : Obj) : OwnFr (w.alloc o) base v l := World.ownsRow.alloc h o
theorem OwnFr.quiet {w w' : World} {base : Nat} {v : Value} {l : List Fr} (h : OwnFr w base v l) (hg : G w w' none) : OwnFr w' base v l :=
  World.ownsRow.kept h hg (Classical.em _)
set_option maxRecDepth 100000 in
set_option maxHeartbeats 4000000 in
theorem spread1_c (w : World) (b : Nat) (h : Bk w b 210 (boC bo1)) :
    Calls Tryd.prog 113 #[.slice (some ⟨b, 0, none⟩) 1 1] w fun e w' => ∃ v, e = .returned (.tuple #[v, .int .i64 0]) ∧ OwnFr w' w.heap.size v [(1, 2), (1, 2)] ∧ G w w' none := by
  go_enter Tryd.func113, Tryd.ntmps113
  go_wp2_with fail
  refine (checkOdds_c _ [bo1] _ (RdR.one h) (BoOk.one bo1_ok) (one_len bo1)).mono ?_; rintro e w1 ⟨rfl, hG1⟩
  rw [coE_one]
  have h1 := h.quiet hG1
  go_wp2_with fail
  refine (casesOf1_c _ b h1).mono ?_; rintro e w2 ⟨g, rfl, hN2, hG2⟩
  have hG02 := hG1.trans hG2
  clear hG1 hG2 h h1
  have c0 : w2.cell? ⟨g, 0, none⟩ = some (.int .i64 50) := hN2.cell 0
  go_wp2_with fail
  refine wp_loop_rounds 3 ?_
  rw [rounds_succ]
  go_wp2_with fail
  refine (lowest_c 50 100 _ (by omega) (by omega) (by omega)).mono ?_; rintro e w3 ⟨rfl, hG3⟩
  rw [show frC ((50 / Nat.gcd 100 50 : Nat) : Int) ((100 / Nat.gcd 100 50 : Nat) : Int) = #[.int .i64 1, .int .i64 2] by rfl]
  have hN3 := (hN2.quiet hG3).alloc (.cells #[.int .i64 1, .int .i64 2] 198)
  have hG03 := (hG02.trans hG3).alloc (.cells #[.int .i64 1, .int .i64 2] 198)
  have hz3 := hG03.size
  clear hN2 hG02 hG3 c0
  go_wp2_with (at_builtin; refine wpList_plain rfl fun K' hK' => wp_append_fr _ _ rfl w.heap.size (.slice none 0 0) [] rfl (World.ownsRow_nil _ _ _ _) w3.heap.size (1, 2) rfl (Bk.new w3 _ _) (by simp) hz3 ?_; intro v1 w4 hown1 hgrow1; refine hK' _ _ ?_)
  have hN4 := hN3.quiet hgrow1
  have hG04 := hG03.trans hgrow1
  clear hN3 hG03 hz3 hgrow1
  have c1 : w4.cell? ⟨g, 1, none⟩ = some (.int .i64 50) := hN4.cell 1
  rw [rounds_succ]
  go_wp2_with fail
  refine (lowest_c 50 100 _ (by omega) (by omega) (by omega)).mono ?_; rintro e w5 ⟨rfl, hG5⟩
  rw [show frC ((50 / Nat.gcd 100 50 : Nat) : Int) ((100 / Nat.gcd 100 50 : Nat) : Int) = #[.int .i64 1, .int .i64 2] by rfl]
  have hown2 := (hown1.quiet hG5).alloc (.cells #[.int .i64 1, .int .i64 2] 198)
  have hG05 := (hG04.trans hG5).alloc (.cells #[.int .i64 1, .int .i64 2] 198)
  have hz5 := hG05.size
  clear hN4 hG04 hG5 c1 hown1
  go_wp2_with (at_builtin; refine wpList_plain rfl fun K' hK' => wp_append_fr _ _ rfl w.heap.size v1 [(1, 2)] rfl hown2 w5.heap.size (1, 2) rfl (Bk.new w5 _ _) (by simp) hz5 ?_; intro v2 w6 hown3 hgrow2; refine hK' _ _ ?_)
  have hG06 := hG05.other hgrow2 (fun j e => .inl (World.ownsRow.lt hown2 j e).1)
  rw [rounds_succ]
  go_wp2_with fail
  go_ret2
  exact ⟨_, rfl, hown3, hG06⟩
theorem fr_neq (x y : Fr) (w : World) : (binOp .neq 198 (.agg (frV x)) (.agg (frV y))).run Tryd.prog w = .ok (.bool (!(decide (x = y)))) w := by
  obtain ⟨a, b⟩ := x
  obtain ⟨c, d⟩ := y
  have ht : Tryd.prog.underlying 198 = some (.struct (Tryd.prog.fieldsOf 198)) := by kernel_rfl
  have hp : Tryd.prog.stoodInHeld 198 = false := by kernel_rfl
  rw [run_neq_struct, run_equalIn_agg w 9999 198 _ _ ht hp]
  simp [frV, frC, Tryd.underlying198, Tryd.underlying3, go_sem]
  by_cases h1 : a = c <;> by_cases h2 : b = d <;> simp [h1, h2]
def EqfRel (l m : List Fr) (w : World) (i : Value) (wr : World) : Prop := ∃ k n : Nat, k ≤ l.length ∧ i = .int .i64 k ∧ l.take k = m.take k ∧ wr = w.drewN n
theorem take_succ_eq {l m : List Fr} {k : Nat} {x : Fr} (h : l.take k = m.take k) (hx : l[k]? = some x) (hy : m[k]? = some x) : l.take (k + 1) = m.take (k + 1) := by
  rw [List.take_add_one, List.take_add_one, h, hx, hy]
end Go.Proofs.YtdcofbciebkfkaaDoor

/- Odds: casesOf, for any bookings that are right. -/
namespace Go.Proofs.YtdcofbciebkfkaaDoor
open Go.RowKit

def pcs (l : List Bo) : List Int := l.map fun x => x.2.2.2.2.2
def PcOk (l : List Bo) : Prop := ∀ p ∈ pcs l, 0 ≤ p ∧ p ≤ 100
theorem pow_le (k : Nat) (h : k ≤ 9) : (100 : Int) ^ k ≤ 1000000000000000000 := by
  have : k = 0 ∨ k = 1 ∨ k = 2 ∨ k = 3 ∨ k = 4 ∨ k = 5 ∨ k = 6 ∨ k = 7 ∨ k = 8 ∨ k = 9 := by omega
  rcases this with rfl | rfl | rfl | rfl | rfl | rfl | rfl | rfl | rfl | rfl <;> decide
theorem pow_pos100 (k : Nat) : (0 : Int) < 100 ^ k := Int.pow_pos (by omega)
theorem made_ints (n : Nat) : madeCells (Value.cells (.int .i64 0)) n = ic (List.replicate n 0) := by
  apply Array.ext
  · simp [madeCells, ic]
  · intro k h1 h2
    simp [madeCells, ic, Value.cells, Nat.mod_one]
theorem make_ints (n : Nat) (hn : n ≤ 1000) (w : World) : (Instr.makeSlice 22 (.int .i64 (n : Int)) (.int .i64 (n : Int))).run Tryd.prog w = .ok (.slice (some ⟨w.heap.size, 0, none⟩) n n) (w.alloc (.cells (ic (List.replicate n 0)) 3)) := by
  obtain ⟨i0, hi, hz0, hz1, hz2⟩ := info_parts (show (Tryd.prog.info? 3).map (fun i => (i.zero, i.size, i.bytes)) = some (some (.int .i64 0), 1, 8) by kernel_rfl)
  have h := run_make (P := Tryd.prog) w 22 3 i0 (.int .i64 0) Tryd.underlying22 hi hz0 .i64 .i64 n n (by omega) (by omega) (by rw [hz2]; omega) (by omega)
  rw [h, hz1, Int.toNat_natCast, Nat.mul_one, made_ints]
theorem take_le {c : List Int} (h : NN c) (j : Nat) : (c.take j).sum ≤ c.sum := by
  induction c generalizing j with
  | nil => simp
  | cons x r ih =>
    have h1 := h x (List.mem_cons_self ..)
    have hr : NN r := fun y hy => h y (List.mem_cons_of_mem _ hy)
    cases j with
    | zero =>
      have := hr.sum
      simp only [List.take_zero, List.sum_nil, List.sum_cons]
      omega
    | succ j =>
      have := ih hr j
      simp only [List.take_succ_cons, List.sum_cons]
      omega
theorem nx_bnds {c : List Int} {p P : Int} {j : Nat} (cn : NN c) (p0 : 0 ≤ p) (p1 : p ≤ 100) (hj : j < c.length) (hs : c.sum = P) :
    0 ≤ c.getD j 0 ∧ (0 ≤ c.getD j 0 * (100 - p) ∧ c.getD j 0 * (100 - p) ≤ P * 100) ∧ (0 ≤ c.getD j 0 * p ∧ c.getD j 0 * p ≤ P * 100) ∧
    (0 ≤ (nx c p j).getD j 0 ∧ (nx c p j).getD j 0 + c.getD j 0 * (100 - p) ≤ P * 100) ∧ (0 ≤ (nx c p j).getD (j + 1) 0 ∧ (nx c p j).getD (j + 1) 0 + c.getD j 0 * p ≤ P * 100) := by
  have h1 := cn.getD j
  have hn := nx_nn cn p0 p1 j
  have h2 := hn.le_sum j
  have h3 := hn.le_sum (j + 1)
  have h4 := nx_sum c p j (by omega)
  have h5 := take_sum c j hj
  have h6 := take_le cn (j + 1)
  have h7 := hn.getD j
  have h8 := hn.getD (j + 1)
  have m1 := Int.mul_nonneg h1 (show 0 ≤ 100 - p by omega)
  have m2 := Int.mul_nonneg h1 p0
  have m3 : c.getD j 0 * (100 - p) + c.getD j 0 * p = 100 * c.getD j 0 := by rw [← Int.mul_add]; rw [show (100 - p + p : Int) = 100 by omega, Int.mul_comm]
  have h9 := (show NN (c.take j) from fun x hx => cn x (List.mem_of_mem_take hx)).sum
  omega
def CoRelO (w : World) (l : List Bo) (s4 s5 s14 : Value) (wr : World) : Prop :=
  ∃ (k g : Nat), k ≤ l.length ∧ s14 = .int .i64 k ∧ s4 = .slice (some ⟨g, 0, none⟩) (k + 1) (k + 1) ∧ s5 = .int .i64 (100 ^ k) ∧ Bk wr g 3 (ic (cas ((pcs l).take k))) ∧ w.heap.size ≤ g ∧ G w wr none
def CoRelI (w : World) (c : List Int) (p : Int) (n g g2 gb : Nat) (x : Bo) (s24 : Value) (wr : World) : Prop :=
  ∃ j : Nat, j ≤ n ∧ s24 = .int .i64 j ∧ Bk wr g 3 (ic c) ∧ Bk wr g2 3 (ic (nx c p j)) ∧ Bk wr gb 210 (boC x) ∧ G w wr none
set_option maxRecDepth 100000 in
set_option maxHeartbeats 8000000 in
theorem casesOf_c (v : Value) (l : List Bo) (w : World) (hr : RdR w 6 boC v l) (hn : l.length ≤ 9) (hp : PcOk l) :
    Calls Tryd.prog 156 #[v] w fun e w' => ∃ g, e = .returned (.tuple #[.slice (some ⟨g, 0, none⟩) (l.length + 1) (l.length + 1), .int .i64 (100 ^ l.length)]) ∧ Bk w' g 3 (ic (cas (pcs l))) ∧ w.heap.size ≤ g ∧ G w w' none := by
  have HR := Lib.hid hr
  have HPC := Lib.hid hp
  obtain ⟨ad, cap, rfl, hcap, hm⟩ := RdR.form hr
  clear hr hp
  go_enter Tryd.func156, Tryd.ntmps156
  go_wp2_with fail
  go_loopw [4, 5, 14] (CoRelO w l) (fun _ _ i _ => l.length - (intOf i).toNat)
  case atStart => exact ⟨0, w.heap.size, by omega, rfl, rfl, rfl, Bk.new w _ _, Nat.le_refl _, (G.refl _ _).alloc _⟩
  case round =>
    obtain ⟨k, g, hkl, rfl, rfl, rfl, hB, hgw, hG⟩ := hrel
    by_cases hlt : k < l.length
    · obtain ⟨x, hx⟩ : ∃ x, l[k]? = some x := ⟨_, List.getElem?_eq_getElem hlt⟩
      have hpx : (pcs l)[k]? = some x.2.2.2.2.2 := by unfold pcs; rw [List.getElem?_map, hx]; rfl
      obtain ⟨p0, p1⟩ := HPC.out _ (List.mem_of_getElem? hpx)
      have hps : (pcs l).take (k + 1) = (pcs l).take k ++ [x.2.2.2.2.2] := by
        have hk' : k < (pcs l).length := (List.getElem?_eq_some_iff.1 hpx).1
        rw [List.take_succ_eq_append_getElem hk', (List.getElem?_eq_some_iff.1 hpx).2]
      obtain ⟨cl, cn, cs⟩ := cas_ok ((pcs l).take k) (fun q hq => HPC.out q (List.mem_of_mem_take hq))
      have htl : ((pcs l).take k).length = k := by rw [List.length_take]; unfold pcs; rw [List.length_map]; omega
      rw [htl] at cl cs
      have HC : Hid (cas ((pcs l).take (k + 1)) = nx (cas ((pcs l).take k)) x.2.2.2.2.2 (k + 1)) := Lib.hid (by rw [hps, cas_snoc, cl])
      obtain ⟨bb, bo, rfl, hbb, _⟩ := RdR.elem boC_sz HR.out hG hx
      have HW := Lib.hid (boRow HR.out hG hx)
      have hms : ∀ w : World, (Instr.makeSlice 22 (.int .i64 ((k : Int) + 1 + 1)) (.int .i64 ((k : Int) + 1 + 1))).run Tryd.prog w = .ok (.slice (some ⟨w.heap.size, 0, none⟩) (k + 1 + 1) (k + 1 + 1)) (w.alloc (.cells (ic (List.replicate (k + 1 + 1) 0)) 3)) := fun w => make_ints (k + 1 + 1) (by omega) w
      have hgl := hB.lt
      have hBx := Bk.new wr 210 (boC x)
      have hB1 := hB.alloc (.cells (boC x) 210)
      have hG1 := hG.alloc (.cells (boC x) 210)
      have hP9 := pow_le k (by omega)
      have hP10 := pow_le (k + 1) (by omega)
      have hPs : (100 : Int) ^ (k + 1) = 100 ^ k * 100 := Int.pow_succ ..
      have hPp := pow_pos100 k
      obtain ⟨P, hPd⟩ : ∃ P : Int, (100 : Int) ^ k = P := ⟨_, rfl⟩
      have HPd := Lib.hid hPd
      have HPs := Lib.hid hPs
      rw [hPs] at hP10
      rw [hPd] at cs hP9 hP10 hPp ⊢
      clear hx hpx hps hPd hPs hB hG htl
      obtain ⟨c, hc⟩ : ∃ c, cas ((pcs l).take k) = c := ⟨_, rfl⟩
      rw [hc] at cl cn cs HC hB1
      clear hc
      go_wp2_with (refine wpList_load_at rfl 210 _ rfl ⟨bb, bo + k * 6, none⟩ rfl #[.string x.1, .string x.2.1, .int .i64 x.2.2.1, .int .i64 x.2.2.2.1, .int .i64 x.2.2.2.2.1, .int .i64 x.2.2.2.2.2] _ HW.out Tryd.underlying210 rfl (bo_info x) ?_)
      have hX4 : Bk ((wr.alloc (.cells #[.string x.1, .string x.2.1, .int .i64 x.2.2.1, .int .i64 x.2.2.2.1, .int .i64 x.2.2.2.2.1, .int .i64 x.2.2.2.2.2] 210)).alloc (.cells (ic (List.replicate (k + 1 + 1) 0)) 3)) wr.heap.size 210 (boC x) := (Bk.new wr 210 (boC x)).alloc _
      have hN4 : Bk ((wr.alloc (.cells #[.string x.1, .string x.2.1, .int .i64 x.2.2.1, .int .i64 x.2.2.2.1, .int .i64 x.2.2.2.2.1, .int .i64 x.2.2.2.2.2] 210)).alloc (.cells (ic (List.replicate (k + 1 + 1) 0)) 3)) (wr.heap.size + 1) 3 (ic (nx c x.2.2.2.2.2 0)) := by
        have h := Bk.newAt (w := (wr.alloc (.cells #[.string x.1, .string x.2.1, .int .i64 x.2.2.1, .int .i64 x.2.2.2.1, .int .i64 x.2.2.2.2.1, .int .i64 x.2.2.2.2.2] 210))) (b := wr.heap.size + 1) (by simp) 3 (ic (List.replicate (k + 1 + 1) 0))
        have e : nx c x.2.2.2.2.2 0 = List.replicate (k + 1 + 1) 0 := by unfold nx; rw [cl]
        rw [e]
        exact h
      have hB4 : Bk ((wr.alloc (.cells #[.string x.1, .string x.2.1, .int .i64 x.2.2.1, .int .i64 x.2.2.2.1, .int .i64 x.2.2.2.2.1, .int .i64 x.2.2.2.2.2] 210)).alloc (.cells (ic (List.replicate (k + 1 + 1) 0)) 3)) g 3 (ic c) := hB1.alloc _
      have hG4 : G w ((wr.alloc (.cells #[.string x.1, .string x.2.1, .int .i64 x.2.2.1, .int .i64 x.2.2.2.1, .int .i64 x.2.2.2.2.1, .int .i64 x.2.2.2.2.2] 210)).alloc (.cells (ic (List.replicate (k + 1 + 1) 0)) 3)) none := hG1.alloc _
      clear hBx hB1 hG1 hms HW
      generalize ((wr.alloc (.cells #[.string x.1, .string x.2.1, .int .i64 x.2.2.1, .int .i64 x.2.2.2.1, .int .i64 x.2.2.2.2.1, .int .i64 x.2.2.2.2.2] 210)).alloc (.cells (ic (List.replicate (k + 1 + 1) 0)) 3)) = w4 at hX4 hN4 hB4 hG4 ⊢
      generalize wr.heap.size = gb at hX4 hN4 hgl ⊢
      go_loopw [24] (CoRelI w c x.2.2.2.2.2 (k + 1) g (gb + 1) gb x) (fun i _ => k + 1 - (intOf i).toNat)
      case atStart => exact ⟨0, by omega, rfl, hB4, hN4, hX4, hG4⟩
      case round =>
        clear hX4 hN4 hB4 hG4
        obtain ⟨j, hjk, rfl, hB, hN, hX, hG⟩ := hrel
        by_cases hj : j < k + 1
        · obtain ⟨b0, ⟨b1, b2⟩, ⟨b3, b4⟩, ⟨b5, b6⟩, b7, b8⟩ := nx_bnds cn p0 p1 (show j < c.length by omega) cs
          have hcj : World.cell? _ ⟨g, j, none⟩ = some (.int .i64 (c.getD j 0)) := (hB.cell j).trans (ic_at c j (by omega))
          have ha0 : World.cell? _ ⟨gb + 1, j, none⟩ = some (.int .i64 ((nx c x.2.2.2.2.2 j).getD j 0)) := (hN.cell j).trans (ic_at _ j (by rw [nx_len]; omega))
          have hp5 : World.cell? _ ⟨gb, 5, none⟩ = some (.int .i64 x.2.2.2.2.2) := hX.cell 5
          have fr0 := hN.free j
          have HNX : Hid (nx c x.2.2.2.2.2 (j + 1) = ((nx c x.2.2.2.2.2 j).set j ((nx c x.2.2.2.2.2 j).getD j 0 + c.getD j 0 * (100 - x.2.2.2.2.2))).set (j + 1) ((nx c x.2.2.2.2.2 j).getD (j + 1) 0 + c.getD j 0 * x.2.2.2.2.2)) := Lib.hid rfl
          have HL := Lib.hid (nx_len c x.2.2.2.2.2 j)
          have HIC : Hid (∀ (m : List Int), m.length = k + 1 + 1 → (ic m)[j + 1]? = some (.int .i64 (m.getD (j + 1) 0))) := Lib.hid fun m hm => ic_at m (j + 1) (by omega)
          have HGD : Hid (∀ v : Int, ((nx c x.2.2.2.2.2 j).set j v).getD (j + 1) 0 = (nx c x.2.2.2.2.2 j).getD (j + 1) 0) := Lib.hid fun v => gdset_ne _ _ _ _ (by omega)
          obtain ⟨A0, hA0⟩ : ∃ A0, (nx c x.2.2.2.2.2 j).getD j 0 = A0 := ⟨_, rfl⟩
          obtain ⟨A1, hA1⟩ : ∃ A1, (nx c x.2.2.2.2.2 j).getD (j + 1) 0 = A1 := ⟨_, rfl⟩
          obtain ⟨C, hC⟩ : ∃ C, c.getD j 0 = C := ⟨_, rfl⟩
          rw [hA0, hC] at HNX
          rw [hA1] at HNX HGD
          rw [hA0] at ha0 b5 b6
          rw [hA1] at b7 b8
          rw [hC] at hcj b0 b1 b2 b3 b4 b6 b8
          have hw1 : IntKind.i64.wrap (100 - x.2.2.2.2.2) = 100 - x.2.2.2.2.2 := by rw [IntKind.wrap_i64]; omega
          obtain ⟨M1, hM1⟩ : ∃ M1, C * (100 - x.2.2.2.2.2) = M1 := ⟨_, rfl⟩
          obtain ⟨M2, hM2⟩ : ∃ M2, C * x.2.2.2.2.2 = M2 := ⟨_, rfl⟩
          have hw2 : IntKind.i64.wrap (C * (100 - x.2.2.2.2.2)) = M1 := by rw [hM1, IntKind.wrap_i64]; omega
          have hw4 : IntKind.i64.wrap (C * x.2.2.2.2.2) = M2 := by rw [hM2, IntKind.wrap_i64]; omega
          rw [hM1] at b6 HNX
          rw [hM2] at b8 HNX
          obtain ⟨V1, hV1⟩ : ∃ V1, A0 + M1 = V1 := ⟨_, rfl⟩
          obtain ⟨V2, hV2⟩ : ∃ V2, A1 + M2 = V2 := ⟨_, rfl⟩
          have hw3 : IntKind.i64.wrap (A0 + M1) = V1 := by rw [hV1, IntKind.wrap_i64]; omega
          have hw5 : IntKind.i64.wrap (A1 + M2) = V2 := by rw [hV2, IntKind.wrap_i64]; omega
          rw [hV1, hV2] at HNX
          have hj0 : (0 : Int) ≤ (j : Int) := by omega
          have hj1 : (j : Int) < (k : Int) + 1 := by omega
          have hj2 : (j : Int) < (k : Int) + 1 + 1 := by omega
          have hj3 : (j : Int) + 1 < (k : Int) + 1 + 1 := by omega
          have hj4 : (0 : Int) ≤ (j : Int) + 1 := by omega
          have hwj : IntKind.i64.wrap ((j : Int) + 1) = (j : Int) + 1 := by rw [IntKind.wrap_i64]; omega
          have hjt : ((j : Int) + 1).toNat = j + 1 := by omega
          have hgg : g ≠ gb + 1 := by omega
          have hwg : w.heap.size ≤ gb + 1 := by omega
          clear hA0 hA1 hC hM1 hM2 hV1 hV2 b0 b1 b2 b3 b4 b5 b6 b7 b8
          go_wp2_with fail
          go_still_tail 11, (by kernel_rfl)
          change wpList _ _ _ _ _ wr.drew
          have hBd := hB.quiet ((G.refl wr none).drew)
          have hNd := hN.quiet ((G.refl wr none).drew)
          have hXd := hX.quiet ((G.refl wr none).drew)
          have hGd := hG.drew
          have ha0d : wr.drew.cell? ⟨gb + 1, j, none⟩ = some (.int .i64 A0) := ha0
          clear hB hN hX hG hcj ha0 hp5 fr0
          generalize wr.drew = w5 at hBd hNd hXd hGd ha0d ⊢
          have fr5 := hNd.free j
          have hN6 : Bk (w5.setCell ⟨gb + 1, j, none⟩ (.int .i64 V1)) (gb + 1) 3 (ic ((nx c x.2.2.2.2.2 j).set j V1)) := by
            have h := hNd.set j (.int .i64 V1)
            rw [ic_set] at h
            exact h
          have hB6 := hBd.far (p := ⟨gb + 1, j, none⟩) hgg (.int .i64 V1)
          have hX6 := hXd.far (p := ⟨gb + 1, j, none⟩) (show gb ≠ gb + 1 by omega) (.int .i64 V1)
          have hG6 := hGd.setCell (p := ⟨gb + 1, j, none⟩) (.inl hwg) (.int .i64 V1)
          clear hBd hNd hXd hGd
          go_wp2_with fail
          generalize w5.setCell ⟨gb + 1, j, none⟩ (.int .i64 V1) = w6 at hN6 hB6 hX6 hG6 ⊢
          have ha1 : w6.cell? ⟨gb + 1, j + 1, none⟩ = some (.int .i64 A1) := by
            rw [hN6.cell, HIC.out _ (by rw [List.length_set, HL.out, cl]), HGD.out]
          have hp5 : w6.cell? ⟨gb, 5, none⟩ = some (.int .i64 x.2.2.2.2.2) := hX6.cell 5
          have fr6 := hN6.free (j + 1)
          clear ha0d fr5
          go_still_tail 11, (by kernel_rfl)
          change wpList _ _ _ _ _ w6.drew
          have hBd := hB6.quiet ((G.refl w6 none).drew)
          have hNd := hN6.quiet ((G.refl w6 none).drew)
          have hXd := hX6.quiet ((G.refl w6 none).drew)
          have hGd := hG6.drew
          have ha1d : w6.drew.cell? ⟨gb + 1, j + 1, none⟩ = some (.int .i64 A1) := ha1
          clear hB6 hN6 hX6 hG6 ha1 hp5 fr6
          generalize w6.drew = w7 at hBd hNd hXd hGd ha1d ⊢
          have fr7 := hNd.free (j + 1)
          have hN8 : Bk (w7.setCell ⟨gb + 1, j + 1, none⟩ (.int .i64 V2)) (gb + 1) 3 (ic (nx c x.2.2.2.2.2 (j + 1))) := by
            have h := hNd.set (j + 1) (.int .i64 V2)
            rw [ic_set, ← HNX.out] at h
            exact h
          have hB8 := hBd.far (p := ⟨gb + 1, j + 1, none⟩) hgg (.int .i64 V2)
          have hX8 := hXd.far (p := ⟨gb + 1, j + 1, none⟩) (show gb ≠ gb + 1 by omega) (.int .i64 V2)
          have hG8 := hGd.setCell (p := ⟨gb + 1, j + 1, none⟩) (.inl hwg) (.int .i64 V2)
          clear hBd hNd hXd hGd
          go_wp2_with fail
          go_roundw
          case rel => exact ⟨j + 1, by omega, by go_num, hB8, hN8, hX8, hG8⟩
          case measure => simp [intOf]; omega
        · obtain rfl : j = k + 1 := by omega
          have hnj : ¬ (((k + 1 : Nat) : Int) < ((k + 1 : Nat) : Int)) := by omega
          have hnj2 : ¬ ((k : Int) + 1 < (k : Int) + 1) := by omega
          go_wp2_with fail
          go_roundw
          case rel => exact ⟨k + 1, gb + 1, by omega, by go_num, rfl, by rw [HPs.out, HPd.out], by rw [HC.out]; exact hN, by omega, hG⟩
          case measure => simp [intOf]; omega
    · obtain rfl : k = l.length := by omega
      have hB2 : Bk wr g 3 (ic (cas (pcs l))) := by
        have := hB
        rw [List.take_of_length_le (by unfold pcs; rw [List.length_map]; omega)] at this
        exact this
      go_wp2_with fail
      go_ret2
      exact ⟨g, rfl, hB2, hgw, hG⟩
end Go.Proofs.YtdcofbciebkfkaaDoor

/- Odds: Spread, over, checkUnits, Over, for any bookings. -/
namespace Go.Proofs.YtdcofbciebkfkaaDoor
open Go.RowKit

/-- A fraction in lowest terms. -/
def lowF (n d : Int) : Fr := (((n.toNat / Nat.gcd d.toNat n.toNat : Nat) : Int), ((d.toNat / Nat.gcd d.toNat n.toNat : Nat) : Int))
theorem lowest_i (n d : Int) (w : World) (n0 : 0 ≤ n) (hn : n ≤ 1000000000000000000) (d0 : 0 < d) (hd : d ≤ 1000000000000000000) :
    Calls Tryd.prog 157 #[.int .i64 n, .int .i64 d] w fun e w' => e = .returned (.agg (frV (lowF n d))) ∧ G w w' none := by
  obtain ⟨a, rfl⟩ := Int.eq_ofNat_of_zero_le n0
  obtain ⟨b, rfl⟩ := Int.eq_ofNat_of_zero_le (Int.le_of_lt d0)
  exact lowest_c a b w (by omega) (by omega) (by omega)
theorem boErr_pct {l : List Bo} : ∀ {b : ByteArray}, boErr b l = 0 → PcOk l := by
  induction l with
  | nil => intro b _ p hp; cases hp
  | cons y r ih =>
    intro b h
    unfold boErr at h
    split at h
    · exact absurd h (by decide)
    · split at h
      · exact absurd h (by decide)
      · split at h
        · exact absurd h (by decide)
        · split at h
          · exact absurd h (by decide)
          · rename_i h4
            intro p hp
            rcases List.mem_cons.1 (show p ∈ y.2.2.2.2.2 :: pcs r from hp) with rfl | hp
            · simp only [boT, inB, Bool.not_eq_false, Bool.and_eq_true, decide_eq_true_eq] at h4
              omega
            · exact ih h p hp
theorem coE_ok {l : List Bo} (h : coE l = 0) : PcOk l ∧ l.length ≤ 9 := by
  unfold coE at h
  split at h
  · rename_i h1
    split at h
    · exact absurd h (by decide)
    · refine ⟨?_, by omega⟩
      unfold boE at h1
      split at h1
      · exact absurd h1 (by decide)
      · exact boErr_pct h1
  · rename_i h1; exact absurd h h1
def spL (l : List Bo) : List Fr := (cas (pcs l)).map fun n => lowF n (100 ^ l.length)
theorem map_take_snoc {α β : Type} (f : α → β) {c : List α} {k : Nat} {x : α} (h : c[k]? = some x) : (c.take (k + 1)).map f = (c.take k).map f ++ [f x] := by
  have hk : k < c.length := (List.getElem?_eq_some_iff.1 h).1
  rw [List.take_succ_eq_append_getElem hk, (List.getElem?_eq_some_iff.1 h).2, List.map_append]
  rfl
def SpreadPost (l : List Bo) (w : World) (e : Ending) (w' : World) : Prop := ∃ u m, e = .returned (.tuple #[u, .int .i64 (coE l)]) ∧ RdR w' 2 frV u m ∧ m = (if coE l = 0 then spL l else []) ∧ G w w' none
def SpRel (w : World) (c : List Int) (H : Int) (g : Nat) (s7 s22 : Value) (wr : World) : Prop :=
  ∃ k : Nat, k ≤ c.length ∧ s22 = .int .i64 k ∧ OwnFr wr (g + 1) s7 ((c.take k).map fun n => lowF n H) ∧ Bk wr g 3 (ic c) ∧ w.heap.size ≤ g ∧ G w wr none
set_option maxRecDepth 100000 in
set_option maxHeartbeats 4000000 in
theorem spread_c (v : Value) (l : List Bo) (w : World) (hr : RdR w 6 boC v l) (hl : BoOk l) (hn : l.length ≤ 1000) :
    Calls Tryd.prog 113 #[v] w (SpreadPost l w) := by
  have HR := Lib.hid hr
  obtain ⟨ad, cap, rfl, hcap, hm⟩ := RdR.form hr
  clear hr
  go_enter Tryd.func113, Tryd.ntmps113
  go_wp2_with fail
  refine (checkOdds_c _ l _ HR.out hl hn).mono ?_; rintro e w1 ⟨rfl, hG1⟩
  by_cases h0 : coE l = 0
  · obtain ⟨hp, h9⟩ := coE_ok h0
    have HM : Hid ((if coE l = 0 then spL l else []) = (cas (pcs l)).map fun n => lowF n (100 ^ l.length)) := Lib.hid (by rw [if_pos h0]; rfl)
    have HZ := Lib.hid h0
    obtain ⟨cl, cn, cs⟩ := cas_ok (pcs l) hp
    have hpl : (pcs l).length = l.length := by unfold pcs; rw [List.length_map]
    rw [hpl] at cl cs
    have hH1 := pow_le l.length h9
    have hH0 := pow_pos100 l.length
    rw [h0]
    clear h0 hpl
    go_wp2_with fail
    refine (casesOf_c _ l _ (HR.out.quiet hG1) h9 hp).mono ?_; rintro e w2 ⟨g, rfl, hB2, hgw, hG2⟩
    have hG02 := hG1.trans hG2
    have hgw2 : w.heap.size ≤ g := Nat.le_trans hG1.size hgw
    clear hG1 hG2 hgw hp
    obtain ⟨c, hc⟩ : ∃ c, cas (pcs l) = c := ⟨_, rfl⟩
    obtain ⟨H, hH⟩ : ∃ H : Int, (100 : Int) ^ l.length = H := ⟨_, rfl⟩
    rw [hc, hH] at HM
    rw [hc] at cl cn cs hB2
    rw [hH] at cs hH1 hH0 ⊢
    clear hc hH
    go_wp2_with fail
    go_loopw [7, 22] (SpRel w c H g) (fun _ i _ => c.length - (intOf i).toNat)
    case atStart => exact ⟨0, by omega, rfl, World.ownsRow_nil _ _ _ _, hB2, hgw2, hG02⟩
    case round =>
      clear hB2 hgw2 hG02
      obtain ⟨k, hkc, rfl, hown, hB, hgw, hG⟩ := hrel
      by_cases hlt : k < l.length + 1
      · have hck : c[k]? = some (c.getD k 0) := by simp [List.getD, show k < c.length by omega]
        have hcell : wr.cell? ⟨g, k, none⟩ = some (.int .i64 (c.getD k 0)) := (hB.cell k).trans (ic_at c k (by omega))
        have HT : Hid ((c.take (k + 1)).map (fun n => lowF n H) = (c.take k).map (fun n => lowF n H) ++ [lowF (c.getD k 0) H]) := Lib.hid (map_take_snoc _ hck)
        have e0 := cn.getD k
        have e1 := cn.le_sum k
        have hkt : ((c.take k).map fun n => lowF n H).length ≤ 1000 := by rw [List.length_map, List.length_take]; omega
        have hki : (k : Int) < (l.length : Int) + 1 := by omega
        clear hck
        obtain ⟨x, hx⟩ : ∃ x, c.getD k 0 = x := ⟨_, rfl⟩
        rw [hx] at hcell HT e0 e1
        clear hx
        go_wp2_with fail
        refine (lowest_i x H _ e0 (by omega) hH0 hH1).mono ?_; rintro e w3 ⟨rfl, hG3⟩
        obtain ⟨F, hF⟩ : ∃ F, lowF x H = F := ⟨_, rfl⟩
        rw [hF] at HT ⊢
        clear hF
        rw [show frV F = #[.int .i64 F.1, .int .i64 F.2] from rfl]
        have hB3 := (hB.quiet hG3).alloc (.cells #[.int .i64 F.1, .int .i64 F.2] 198)
        have hown3 := (hown.quiet hG3).alloc (.cells #[.int .i64 F.1, .int .i64 F.2] 198)
        have hG03 := (hG.trans hG3).alloc (.cells #[.int .i64 F.1, .int .i64 F.2] 198)
        have hz3 := hB3.lt
        have hob := fun r e => (World.ownsRow.lt hown3 r e).1
        have hne : some g ≠ u7.ownBlock := fun e => by have := hob g e.symm; omega
        clear hB hown hG hG3 hcell
        go_wp2_with (at_builtin; refine wpList_plain rfl fun K' hK' => wp_append_fr _ _ rfl (g + 1) u7 _ rfl hown3 w3.heap.size F rfl (Bk.new w3 _ _) hkt hz3 ?_; intro v1 w4 hown4 hgrow; refine hK' _ _ ?_)
        go_roundw
        case rel => exact ⟨k + 1, by omega, by go_num, by rw [HT.out]; exact hown4, hB3.grown hgrow hne, hgw, hG03.other hgrow (fun r e => .inl (by have := hob r e; omega))⟩
        case measure => simp [intOf]; omega
      · obtain rfl : k = c.length := by omega
        have hnk : ¬ ((c.length : Int) < (l.length : Int) + 1) := by omega
        have hq : (c.take c.length).map (fun n => lowF n H) = c.map fun n => lowF n H := by rw [List.take_length]
        rw [hq] at hown
        clear hq
        go_wp2_with fail
        go_ret2
        exact ⟨_, _, by rw [HZ.out]; rfl, Rd.of_owns hown, HM.out.symm, hG⟩
  · have HZ : Hid ((if coE l = 0 then spL l else []) = []) := Lib.hid (by rw [if_neg h0])
    have h0' : (coE l != 0) = true := by rw [bne_iff_ne]; exact h0
    obtain ⟨E, hE⟩ : ∃ E, coE l = E := ⟨_, rfl⟩
    have HE := Lib.hid hE
    rw [hE] at h0' ⊢
    clear h0 hE
    go_wp2_with fail
    go_ret2
    exact ⟨_, [], by rw [HE.out]; rfl, RdR.nil _ _ _, HZ.out.symm, hG1⟩
end Go.Proofs.YtdcofbciebkfkaaDoor

/- ready: the packages do something. -/
namespace Go.Proofs.YtdcofbciebkfkaaDoor
open Go.RowKit

def hS1 : Nat → Int := fun i => if i = 1 then 9 else 0
theorem hS1_B : HB hS1 := fun j => by unfold hS1; split <;> omega
theorem at1 : atE ⟨#[115]⟩ hS1 8 = 0 := by decide +kernel
theorem op1 : isOpenR ⟨#[115]⟩ hS1 8 = true := by decide +kernel
theorem t1441 : tE 0 1441 = 0 ∧ tN 0 1441 = 2 := by decide +kernel
theorem isOpen1_c (w : World) : Calls Tryd.prog 112 #[.agg #[.string ⟨#[115]⟩, .int .i64 0, .int .i64 9, .int .i64 0, .int .i64 0, .int .i64 0, .int .i64 0, .int .i64 0, .int .i64 0, .int .i64 0, .int .i64 0, .int .i64 0, .int .i64 0, .int .i64 0, .int .i64 0], .int .i64 8] w fun e w' => e = .returned (.tuple #[.bool true, .int .i64 0]) ∧ G w w' none := by
  have := isOpen_c ⟨#[115]⟩ hS1 8 w (by decide) hS1_B
  rw [at1, op1] at this
  exact this
theorem days1_c (w : World) : Calls Tryd.prog 87 #[.agg #[.int .i64 0, .int .i64 1441]] w fun e w' => e = .returned (.tuple #[.int .i64 2, .int .i64 0]) ∧ G w w' none := by
  have := days_c 0 1441 w (by unfold bnd; omega) (by unfold bnd; omega)
  rw [t1441.1, t1441.2] at this
  exact this
theorem spread0_c (w : World) : Calls Tryd.prog 113 #[.slice none 0 0] w fun e w' => ∃ a c, e = .returned (.tuple #[.slice a 1 c, .int .i64 0]) ∧ G w w' none := by
  refine (spread_c (.slice none 0 0) [] w (RdR.nil _ _ _) (fun _ h => by cases h) (by simp)).mono ?_
  rintro e w' ⟨u, m, rfl, hr, hm, hG⟩
  have h0 : coE [] = 0 := rfl
  have hm1 : m = [(1, 1)] := by rw [hm, if_pos h0]; decide +kernel
  subst hm1
  obtain ⟨a, c, rfl, -, -⟩ := RdR.form hr
  exact ⟨a, c, by rw [h0]; rfl, hG⟩
set_option maxRecDepth 100000 in
set_option maxHeartbeats 4000000 in
theorem ready_c (w : World) : Calls Tryd.prog 46 #[] w fun e w' => e = .returned (.bool true) ∧ G w w' none := by
  go_enter Tryd.func46, Tryd.ntmps46
  go_wp2_with fail
  refine (days1_c _).mono ?_; rintro e w1 ⟨rfl, hG1⟩
  go_wp2_with fail
  refine (isOpen1_c _).mono ?_; rintro e w2 ⟨rfl, hG2⟩
  have hG02 := hG1.trans hG2
  clear hG1 hG2
  go_wp2_with fail
  refine (spread0_c _).mono ?_; rintro e w3 ⟨a, c, rfl, hG3⟩
  have hG03 := hG02.trans hG3
  clear hG02 hG3
  go_wp2_with fail
  refine (start1_c _).mono ?_; rintro e w4 ⟨a2, c2, rfl, hG4⟩
  have hG04 := hG03.trans hG4
  clear hG03 hG4
  go_wp2_with fail
  go_ret
  exact ⟨rfl, hG04.alloc _⟩
end Go.Proofs.YtdcofbciebkfkaaDoor

/- The law ClashesMean. Written by gencml.py. -/
namespace Go.Proofs.YtdcofbciebkfkaaDoor
open Go.RowKit

theorem ks_info (x : Ks) : (Tryd.prog.info? 75).map (·.size) = some (ksC x).size := (by kernel_rfl : (Tryd.prog.info? 75).map (·.size) = some 4)
theorem ksRow {W w : World} {bb bo n cap : Nat} {l : List Ks} (h : RdR W 4 ksC (.slice (some ⟨bb, bo, none⟩) n cap) l) (hG : G W w none) {k : Nat} {p : Ks} (hp : l[k]? = some p) :
    ∀ j v, (ksC p).toList[j]? = some v → w.cell? ((⟨bb, bo + k * 4, none⟩ : Addr).add j) = some v := fun j v hv => by
  rw [add_at]
  exact RdR.cell ksC_sz h hG hp j v hv
theorem hxCell {W w : World} {bb bo n cap : Nat} {l : List Hx} (h : RdR W 5 hxC (.slice (some ⟨bb, bo, none⟩) n cap) l) (hG : G W w none) {k : Nat} {p : Hx} (hp : l[k]? = some p) : ∀ (j : Nat) (v : Value), (hxC p).toList[j]? = some v → w.cell? ⟨bb, bo + k * 5 + j, none⟩ = some v := fun j v hv => RdR.cell hxC_sz h hG hp j v hv
/-- One hire of a list, as a list. -/
theorem oneOf {W w : World} {bb bo cap : Nat} {l : List Hx} (h : RdR W 5 hxC (.slice (some ⟨bb, bo, none⟩) l.length cap) l) (hx : HxL W l) (hG : G W w none) {i : Nat} {p : Hx} (hp : l[i]? = some p) : HxR w (.slice (some ⟨bb, bo + i * 5, none⟩) 1 (cap - i)) [p] := by
  have hi := (List.getElem?_eq_some_iff.1 hp).1
  obtain ⟨a', c', e, hc, -⟩ := RdR.form h
  obtain rfl : cap = c' := by cases e; rfl
  have h1 := RdR.drop hxC_sz h i (by omega)
  rw [if_neg (by omega)] at h1
  simp only [Option.map_some, add_at] at h1
  have h2 := RdR.prefix_ hxC_sz h1 1 (by rw [List.length_drop]; omega)
  have h3 : (l.drop i).take 1 = [p] := by rw [List.drop_eq_getElem_cons hi, (List.getElem?_eq_some_iff.1 hp).2]; rfl
  rw [h3] at h2
  exact ⟨Rd.quiet h2 hG, fun x hx' => by obtain rfl := List.mem_singleton.1 hx'; exact Rd.quiet (hx _ (List.mem_of_getElem? hp)) hG⟩
def CmRel (w : World) (g : Nat) (cs : Array Value) (l : List Lg) (f : Lg → Bool) (s11 i : Value) (wr : World) : Prop :=
  ∃ t : Nat, t ≤ l.length ∧ i = .int .i64 t ∧ s11 = .bool ((l.take t).any f) ∧ Bk wr g 75 cs ∧ G w wr none
set_option maxRecDepth 100000 in
set_option maxHeartbeats 20000000 in
theorem clashesMean_c (a : Option Addr) (n c : Nat) (zs : List Int) (W : World) (hr : Rd W 1 (.slice a n c) n (zs.map (Value.int .i64))) (hz : ∀ z ∈ zs, -9223372036854775808 ≤ z ∧ z ≤ 9223372036854775807) :
    Calls Tryd.prog 6 #[.slice a n c] W fun e W' => e = .returned (.bool true) ∧ G W W' none := by
  have hSB : SB (W.alloc (.cells #[.slice a n c, .int .i64 0] 25)) W.heap.size 0 := by
    have hB := Bk.new W 25 #[.slice a n c, .int .i64 0]
    refine ⟨0, a, n, c, zs, Nat.le_refl _, hr.quiet ((G.refl _ _).alloc _), fun b e => ?_, hz, hB.cell 0, hB.cell 1, hB.free 1, hB.lt⟩
    obtain ⟨a', c', e', r1, r2, r3, r4, r5⟩ := hr
    cases e'
    exact (r5 b e).2.1
  have hG0 : G W (W.alloc (.cells #[.slice a n c, .int .i64 0] 25)) (some W.heap.size) := (G.refl _ _).alloc _
  clear hr hz
  go_enter Tryd.func6, Tryd.ntmps6
  go_wp2_with fail
  refine (range_c 2 4 _ W.heap.size 0 hSB (by omega) (by omega) (by omega) (by omega)).mono ?_; rintro e w1 ⟨r, rfl, r0, r1, hSB1, hG1⟩
  obtain ⟨m, rfl⟩ := Int.eq_ofNat_of_zero_le (show 0 ≤ r by omega)
  have hm4 : m ≤ 4 := by omega
  have hG01 := hG0.trans hG1
  clear hSB hG0 hG1 r0 r1
  go_wp2_with fail
  refine (hires_c m _ W.heap.size _ hm4 hSB1 (by omega)).mono ?_; rintro e w2 ⟨v, L, rfl, hL, hLn, hSB2, hG2⟩
  have HOK := Lib.hid hL.2.1
  have hR := hL.rd
  have hG := (hG01.trans hG2).own (Nat.le_refl _)
  clear hSB1 hG01 hG2 hL hSB2
  obtain ⟨a1, cL, rfl, hcl, -⟩ := RdR.form hR.1
  have HCAP := Lib.hid hcl
  clear hcl
  have CHF := Lib.hid (fun w' (q : HxR w' (.slice a1 L.length cL) L) => hiresFault_c _ L w' q HOK.out (by omega))
  have CCA := Lib.hid (fun w' (q : HxR w' (.slice a1 L.length cL) L) => checkAll_c _ L w' q HOK.out (by omega))
  have CC := Lib.hid (fun w' (q : HxR w' (.slice a1 L.length cL) L) => clashes_c _ L w' q HOK.out hLn)
  go_wp2_with fail
  refine (CHF.out _ hR).mono ?_; rintro e w4 ⟨rfl, hh⟩
  replace hR := hR.quiet hh
  replace hG := hG.trans hh
  clear hh CHF
  by_cases k1 : haE L = 0
  · obtain ⟨hall, -⟩ := haE_all k1
    have he0 := k1
    have HE0 := Lib.hid k1
    have HKA' : Hid (ksR L = clAll L) := Lib.hid (by rw [ksR, if_pos k1])
    clear CCA
    rw [HE0.out]
    clear k1
    have HEE := Lib.hid he0
    clear he0
    go_wp2_with fail
    refine (CC.out _ hR).mono ?_; rintro e w5 ⟨v', rfl, hKR, hh⟩
    rw [HE0.out]
    rw [HKA'.out] at hKR
    replace hR := hR.quiet hh
    replace hG := hG.trans hh
    clear hh CC
    obtain ⟨KA, hKA⟩ : ∃ KA, clAll L = KA := ⟨_, rfl⟩
    rw [hKA] at hKR
    have HKA := Lib.hid hKA
    have hlen : KA.length ≤ 1000 := by rw [← hKA]; exact clAll_len L hLn
    clear hKA
    obtain ⟨ak, cc, rfl, -, -⟩ := RdR.form hKR
    have HKR0 := Lib.hid hKR
    have HRL0 := Lib.hid hR.1
    have HX := Lib.hid hR.2
    clear hKR hR
    go_wp2_with fail
    go_loopw [43] (fun i wr => ∃ k : Nat, k ≤ KA.length ∧ i = .int .i64 k ∧ G w5 wr none) (fun i _ => KA.length - (intOf i).toNat)
    case atStart => exact ⟨0, by omega, rfl, G.refl _ _⟩
    case round =>
      obtain ⟨k, hk, rfl, hGr⟩ := hrel
      by_cases hlt : k < KA.length
      · obtain ⟨kk, hk0⟩ : ∃ kk, KA[k]? = some kk := ⟨_, List.getElem?_eq_getElem hlt⟩
        have he0 := HEE.out
        have hok0 := clAll_mem L hall kk (by rw [HKA.out]; exact List.mem_of_getElem? hk0)
        obtain ⟨i0, j0, x0, y0, hx0, -⟩ := hok0
        obtain ⟨bL, oL, rfl, -, -⟩ := RdR.elem hxC_sz HRL0.out (G.refl w5 none) hx0
        obtain ⟨bb, bo, rfl, -, -⟩ := RdR.elem ksC_sz HKR0.out (G.refl w5 none) hk0
        have HRL := Lib.hid HRL0.out
        have HKR := Lib.hid HKR0.out
        clear hx0 HRL0 HKR0
        have HWk := Lib.hid (ksRow HKR.out hGr hk0)
        have hok := clAll_mem L hall _ (by rw [HKA.out]; exact List.mem_of_getElem? hk0)
        obtain ⟨ca, cb, ck, cm⟩ := kk
        obtain ⟨i, j, ⟨ph, ⟨pa, pc⟩, pl⟩, ⟨qh, ⟨qa, qc⟩, ql⟩, hi, hj, hij, e1, e2, hcase⟩ := hok
        dsimp only at e1 e2 hcase
        have HA1 := Lib.hid e1
        have HA2 := Lib.hid e2
        clear e1 e2
        have hp0 := hall _ (List.mem_of_getElem? hi)
        have hy0 := hall _ (List.mem_of_getElem? hj)
        have hx1 := hiE_pos hp0
        have hiL := (List.getElem?_eq_some_iff.1 hi).1
        have hjL := (List.getElem?_eq_some_iff.1 hj).1
        obtain ⟨b3, o3, rfl, -, -⟩ := RdR.elem lgC_sz (show RdR w5 9 lgC (.slice pa pl.length pc) pl from HX.out _ (List.mem_of_getElem? hi)) (G.refl _ none) (List.getElem?_eq_getElem hx1.1)
        have HI : Hid (hxAt ca L = i) := Lib.hid (by rw [HA1.out]; exact hxAt_key he0 hi)
        have HJ : Hid (hxAt cb L = j) := Lib.hid (by rw [HA2.out]; exact hxAt_key he0 hj)
        have HOX := Lib.hid (HOK.out _ (List.mem_of_getElem? hi))
        have HOY := Lib.hid (HOK.out _ (List.mem_of_getElem? hj))
        have HK := Lib.hid hlt
        have hB8 : Bk (wr.alloc (.cells #[.string ca, .string cb, .int .i64 ck, .int .i64 cm] 75)) wr.heap.size 75 #[.string ca, .string cb, .int .i64 ck, .int .i64 cm] := Bk.new _ _ _
        have hG8 := hGr.alloc (.cells #[.string ca, .string cb, .int .i64 ck, .int .i64 cm] 75)
        clear hGr hk0
        go_upto_region 9 with (refine wpList_load_at rfl 75 _ rfl ⟨bb, bo + k * 4, none⟩ rfl #[.string ca, .string cb, .int .i64 ck, .int .i64 cm] _ HWk.out Tryd.underlying75 rfl (ks_info (ca, cb, ck, cm)) ?_)
        generalize wr.alloc (.cells #[.string ca, .string cb, .int .i64 ck, .int .i64 cm] 75) = w6 at hB8 hG8 ⊢
        generalize wr.heap.size = g8 at hB8 ⊢
        go_wp2_with fail
        refine (indexA_c _ L (ca, cb, ck, cm) g8 _ (Rd.quiet HRL.out hG8) (by omega) hB8).mono ?_; rintro e w7 ⟨rfl, hh⟩
        replace hB8 := hB8.quiet hh
        replace hG8 := hG8.trans hh
        clear hh
        dsimp only
        rw [HI.out]
        go_wp2_with fail
        refine (indexB_c _ L (ca, cb, ck, cm) g8 _ (Rd.quiet HRL.out hG8) (by omega) hB8).mono ?_; rintro e w8 ⟨rfl, hh⟩
        have hBk := hB8.quiet hh
        replace hG8 := hG8.trans hh
        clear hh hB8 HI
        dsimp only
        rw [HJ.out]
        clear HJ
        go_upto_region 11 with fail
        have HCI := Lib.hid (fun w' (q : G w5 w' none) => hxCell HRL.out q hi)
        have HCJ := Lib.hid (fun w' (q : G w5 w' none) => hxCell HRL.out q hj)
        have f0 : ¬ ((i : Int) < 0) := by omega
        have f1 : ¬ ((j : Int) ≤ (i : Int)) := by omega
        have f2 : (i : Int) < (L.length : Int) := by omega
        have f3 : (j : Int) < (L.length : Int) := by omega
        have f4 : (0 : Int) ≤ (i : Int) := by omega
        have f5 : (0 : Int) ≤ (j : Int) := by omega
        have hq := (G.refl w8 none).drew
        replace hBk := hBk.quiet hq
        replace hG8 := hG8.trans hq
        clear hq
        rcases hcase with ⟨hk1, hpair⟩ | ⟨hk2, hdr⟩
        · subst hk1
          have HANY := Lib.hid (hf_any (k := (ca, cb, 1, cm)) hp0 hy0 HA1.out HA2.out hpair)
          refine wp_region_held_drew (S := (fun w' : World => w'.cell? ⟨g8, 2, none⟩ = some (.int .i64 1) ∧ w'.cell? ⟨bL, oL + i * 5 + 1, none⟩ = some (.string ph.2.1) ∧ w'.cell? ⟨bL, oL + j * 5 + 1, none⟩ = some (.string qh.2.1))) (by kernel_rfl) ?_ (fun hHeld => ?_)
          · exact ⟨hBk.cell 2, HCI.out _ hG8 1 (.string ph.2.1) rfl, HCJ.out _ hG8 1 (.string qh.2.1) rfl⟩
          refine wpAnyH_take (i := 0) (oi := { dst := some 53, op := Op.move (Operand.tmp 9), type := 3, pos := _, after := #[], guard := none }) (v := ?_) rfl (by kernel_rfl) (by kernel_rfl) (by kernel_rfl) (fun _ _ _ h => h) (Or.inl ⟨by rfl, ?_⟩) (by assumption) ?_
          rotate_left
          · (intro w hSw; obtain ⟨z0, z1, z2⟩ := hSw; (go_simp <;> with_reducible rfl))
          try simp only [Act.put, List.setIfInBounds_toArray, List.set_cons_zero, List.set_cons_succ]
          refine wpAnyH_take (i := 1) (oi := { dst := some 54, op := Op.binOp BinOp.lss 3 (Operand.tmp 53) (Operand.const (Value.int IntKind.i64 0)) 3, type := 4, pos := _, after := #[{ on := 0, ground := Ground.data }], guard := none }) (v := ?_) rfl (by kernel_rfl) (by kernel_rfl) (by kernel_rfl) (fun _ _ _ h => h) (Or.inl ⟨by rfl, ?_⟩) (by assumption) ?_
          rotate_left
          · (intro w hSw; obtain ⟨z0, z1, z2⟩ := hSw; (go_simp <;> with_reducible rfl))
          try simp only [Act.put, List.setIfInBounds_toArray, List.set_cons_zero, List.set_cons_succ]
          refine wpAnyH_take (i := 2) (oi := { dst := some 55, op := Op.move (Operand.tmp 54), type := 4, pos := _, after := #[{ on := 1, ground := Ground.data }], guard := none }) (v := ?_) rfl (by kernel_rfl) (by kernel_rfl) (by kernel_rfl) (fun _ _ _ h => h) (Or.inl ⟨by rfl, ?_⟩) (by assumption) ?_
          rotate_left
          · (intro w hSw; obtain ⟨z0, z1, z2⟩ := hSw; (go_simp <;> with_reducible rfl))
          try simp only [Act.put, List.setIfInBounds_toArray, List.set_cons_zero, List.set_cons_succ]
          refine wpAnyH_take (i := 3) (oi := { dst := some 56, op := Op.move (Operand.tmp 10), type := 3, pos := _, after := #[{ on := 2, ground := Ground.guard }], guard := some (2, false) }) (v := ?_) rfl (by kernel_rfl) (by kernel_rfl) (by kernel_rfl) (fun _ _ _ h => h) (Or.inl ⟨by rfl, ?_⟩) (by assumption) ?_
          rotate_left
          · (intro w hSw; obtain ⟨z0, z1, z2⟩ := hSw; (go_simp <;> with_reducible rfl))
          try simp only [Act.put, List.setIfInBounds_toArray, List.set_cons_zero, List.set_cons_succ]
          refine wpAnyH_take (i := 4) (oi := { dst := some 57, op := Op.move (Operand.tmp 9), type := 3, pos := _, after := #[{ on := 2, ground := Ground.guard }], guard := some (2, false) }) (v := ?_) rfl (by kernel_rfl) (by kernel_rfl) (by kernel_rfl) (fun _ _ _ h => h) (Or.inl ⟨by rfl, ?_⟩) (by assumption) ?_
          rotate_left
          · (intro w hSw; obtain ⟨z0, z1, z2⟩ := hSw; (go_simp <;> with_reducible rfl))
          try simp only [Act.put, List.setIfInBounds_toArray, List.set_cons_zero, List.set_cons_succ]
          refine wpAnyH_take (i := 5) (oi := { dst := some 58, op := Op.binOp BinOp.leq 3 (Operand.tmp 56) (Operand.tmp 57) 3, type := 4, pos := _, after := #[{ on := 3, ground := Ground.data }, { on := 4, ground := Ground.data }, { on := 2, ground := Ground.guard }], guard := some (2, false) }) (v := ?_) rfl (by kernel_rfl) (by kernel_rfl) (by kernel_rfl) (fun _ _ _ h => h) (Or.inl ⟨by rfl, ?_⟩) (by assumption) ?_
          rotate_left
          · (intro w hSw; obtain ⟨z0, z1, z2⟩ := hSw; (go_simp <;> with_reducible rfl))
          try simp only [Act.put, List.setIfInBounds_toArray, List.set_cons_zero, List.set_cons_succ]
          refine wpAnyH_take (i := 6) (oi := { dst := some 59, op := Op.pick (Operand.tmp 55) (Operand.const (Value.bool true)) (Operand.tmp 58), type := 4, pos := _, after := #[{ on := 2, ground := Ground.data }, { on := 5, ground := Ground.data }], guard := none }) (v := ?_) rfl (by kernel_rfl) (by kernel_rfl) (by kernel_rfl) (fun _ _ _ h => h) (Or.inl ⟨by rfl, ?_⟩) (by assumption) ?_
          rotate_left
          · (intro w hSw; obtain ⟨z0, z1, z2⟩ := hSw; (go_simp <;> with_reducible rfl))
          try simp only [Act.put, List.setIfInBounds_toArray, List.set_cons_zero, List.set_cons_succ]
          refine wpAnyH_take (i := 7) (oi := { dst := some 60, op := Op.move (Operand.tmp 59), type := 4, pos := _, after := #[{ on := 6, ground := Ground.data }, { on := 2, ground := Ground.chain }], guard := none }) (v := ?_) rfl (by kernel_rfl) (by kernel_rfl) (by kernel_rfl) (fun _ _ _ h => h) (Or.inl ⟨by rfl, ?_⟩) (by assumption) ?_
          rotate_left
          · (intro w hSw; obtain ⟨z0, z1, z2⟩ := hSw; (go_simp <;> with_reducible rfl))
          try simp only [Act.put, List.setIfInBounds_toArray, List.set_cons_zero, List.set_cons_succ]
          refine wpAnyH_take (i := 8) (oi := { dst := some 61, op := Op.fieldAddr 75 (Operand.tmp 8) 2, type := 0, pos := _, after := #[{ on := 7, ground := Ground.guard }], guard := some (7, false) }) (v := ?_) rfl (by kernel_rfl) (by kernel_rfl) (by kernel_rfl) (fun _ _ _ h => h) (Or.inl ⟨by rfl, ?_⟩) (by assumption) ?_
          rotate_left
          · (intro w hSw; obtain ⟨z0, z1, z2⟩ := hSw; (go_simp <;> with_reducible rfl))
          try simp only [Act.put, List.setIfInBounds_toArray, List.set_cons_zero, List.set_cons_succ]
          refine wpAnyH_take (i := 9) (oi := { dst := some 62, op := Op.load 3 (Operand.tmp 61), type := 3, pos := _, after := #[{ on := 8, ground := Ground.data }, { on := 7, ground := Ground.guard }], guard := some (7, false) }) (v := ?_) rfl (by kernel_rfl) (by kernel_rfl) (by kernel_rfl) (fun _ _ _ h => h) (Or.inl ⟨by rfl, ?_⟩) (by assumption) ?_
          rotate_left
          · (intro w hSw; obtain ⟨z0, z1, z2⟩ := hSw; (go_simp <;> with_reducible rfl))
          try simp only [Act.put, List.setIfInBounds_toArray, List.set_cons_zero, List.set_cons_succ]
          refine wpAnyH_take (i := 10) (oi := { dst := some 63, op := Op.binOp BinOp.eql 3 (Operand.tmp 62) (Operand.const (Value.int IntKind.i64 2)) 3, type := 4, pos := _, after := #[{ on := 9, ground := Ground.data }, { on := 7, ground := Ground.guard }], guard := some (7, false) }) (v := ?_) rfl (by kernel_rfl) (by kernel_rfl) (by kernel_rfl) (fun _ _ _ h => h) (Or.inl ⟨by rfl, ?_⟩) (by assumption) ?_
          rotate_left
          · (intro w hSw; obtain ⟨z0, z1, z2⟩ := hSw; (go_simp <;> with_reducible rfl))
          try simp only [Act.put, List.setIfInBounds_toArray, List.set_cons_zero, List.set_cons_succ]
          refine wpAnyH_take (i := 11) (oi := { dst := some 64, op := Op.move (Operand.tmp 63), type := 4, pos := _, after := #[{ on := 10, ground := Ground.data }, { on := 7, ground := Ground.chain }, { on := 7, ground := Ground.guard }], guard := some (7, false) }) (v := ?_) rfl (by kernel_rfl) (by kernel_rfl) (by kernel_rfl) (fun _ _ _ h => h) (Or.inl ⟨by rfl, ?_⟩) (by assumption) ?_
          rotate_left
          · (intro w hSw; obtain ⟨z0, z1, z2⟩ := hSw; (go_simp <;> with_reducible rfl))
          try simp only [Act.put, List.setIfInBounds_toArray, List.set_cons_zero, List.set_cons_succ]
          refine wpAnyH_take (i := 12) (oi := { dst := some 65, op := Op.move (Operand.tmp 4), type := 54, pos := _, after := #[{ on := 11, ground := Ground.guard }], guard := some (11, true) }) (v := undef) rfl (by kernel_rfl) (by kernel_rfl) (by kernel_rfl) (fun _ _ _ h => h) (Or.inr ⟨by rfl, rfl⟩) (by assumption) ?_
          try simp only [Act.put, List.setIfInBounds_toArray, List.set_cons_zero, List.set_cons_succ]
          refine wpAnyH_take (i := 13) (oi := { dst := some 66, op := Op.move (Operand.tmp 9), type := 3, pos := _, after := #[{ on := 11, ground := Ground.guard }], guard := some (11, true) }) (v := undef) rfl (by kernel_rfl) (by kernel_rfl) (by kernel_rfl) (fun _ _ _ h => h) (Or.inr ⟨by rfl, rfl⟩) (by assumption) ?_
          try simp only [Act.put, List.setIfInBounds_toArray, List.set_cons_zero, List.set_cons_succ]
          refine wpAnyH_take (i := 14) (oi := { dst := some 67, op := Op.indexAddr 54 (Operand.tmp 65) (Operand.tmp 66), type := 0, pos := _, after := #[{ on := 12, ground := Ground.data }, { on := 13, ground := Ground.data }, { on := 11, ground := Ground.guard }], guard := some (11, true) }) (v := undef) rfl (by kernel_rfl) (by kernel_rfl) (by kernel_rfl) (fun _ _ _ h => h) (Or.inr ⟨by rfl, rfl⟩) (by assumption) ?_
          try simp only [Act.put, List.setIfInBounds_toArray, List.set_cons_zero, List.set_cons_succ]
          refine wpAnyH_take (i := 15) (oi := { dst := some 68, op := Op.fieldAddr 33 (Operand.tmp 67) 1, type := 0, pos := _, after := #[{ on := 14, ground := Ground.data }, { on := 11, ground := Ground.guard }], guard := some (11, true) }) (v := undef) rfl (by kernel_rfl) (by kernel_rfl) (by kernel_rfl) (fun _ _ _ h => h) (Or.inr ⟨by rfl, rfl⟩) (by assumption) ?_
          try simp only [Act.put, List.setIfInBounds_toArray, List.set_cons_zero, List.set_cons_succ]
          refine wpAnyH_take (i := 16) (oi := { dst := some 69, op := Op.load 9 (Operand.tmp 68), type := 9, pos := _, after := #[{ on := 15, ground := Ground.data }, { on := 11, ground := Ground.guard }], guard := some (11, true) }) (v := undef) rfl (by kernel_rfl) (by kernel_rfl) (by kernel_rfl) (fun _ _ _ h => h) (Or.inr ⟨by rfl, rfl⟩) (by assumption) ?_
          try simp only [Act.put, List.setIfInBounds_toArray, List.set_cons_zero, List.set_cons_succ]
          refine wpAnyH_take (i := 17) (oi := { dst := some 70, op := Op.move (Operand.tmp 4), type := 54, pos := _, after := #[{ on := 11, ground := Ground.guard }], guard := some (11, true) }) (v := undef) rfl (by kernel_rfl) (by kernel_rfl) (by kernel_rfl) (fun _ _ _ h => h) (Or.inr ⟨by rfl, rfl⟩) (by assumption) ?_
          try simp only [Act.put, List.setIfInBounds_toArray, List.set_cons_zero, List.set_cons_succ]
          refine wpAnyH_take (i := 18) (oi := { dst := some 71, op := Op.move (Operand.tmp 10), type := 3, pos := _, after := #[{ on := 11, ground := Ground.guard }], guard := some (11, true) }) (v := undef) rfl (by kernel_rfl) (by kernel_rfl) (by kernel_rfl) (fun _ _ _ h => h) (Or.inr ⟨by rfl, rfl⟩) (by assumption) ?_
          try simp only [Act.put, List.setIfInBounds_toArray, List.set_cons_zero, List.set_cons_succ]
          refine wpAnyH_take (i := 19) (oi := { dst := some 72, op := Op.indexAddr 54 (Operand.tmp 70) (Operand.tmp 71), type := 0, pos := _, after := #[{ on := 17, ground := Ground.data }, { on := 18, ground := Ground.data }, { on := 11, ground := Ground.guard }], guard := some (11, true) }) (v := undef) rfl (by kernel_rfl) (by kernel_rfl) (by kernel_rfl) (fun _ _ _ h => h) (Or.inr ⟨by rfl, rfl⟩) (by assumption) ?_
          try simp only [Act.put, List.setIfInBounds_toArray, List.set_cons_zero, List.set_cons_succ]
          refine wpAnyH_take (i := 20) (oi := { dst := some 73, op := Op.fieldAddr 33 (Operand.tmp 72) 1, type := 0, pos := _, after := #[{ on := 19, ground := Ground.data }, { on := 11, ground := Ground.guard }], guard := some (11, true) }) (v := undef) rfl (by kernel_rfl) (by kernel_rfl) (by kernel_rfl) (fun _ _ _ h => h) (Or.inr ⟨by rfl, rfl⟩) (by assumption) ?_
          try simp only [Act.put, List.setIfInBounds_toArray, List.set_cons_zero, List.set_cons_succ]
          refine wpAnyH_take (i := 21) (oi := { dst := some 74, op := Op.load 9 (Operand.tmp 73), type := 9, pos := _, after := #[{ on := 20, ground := Ground.data }, { on := 11, ground := Ground.guard }], guard := some (11, true) }) (v := undef) rfl (by kernel_rfl) (by kernel_rfl) (by kernel_rfl) (fun _ _ _ h => h) (Or.inr ⟨by rfl, rfl⟩) (by assumption) ?_
          try simp only [Act.put, List.setIfInBounds_toArray, List.set_cons_zero, List.set_cons_succ]
          refine wpAnyH_take (i := 22) (oi := { dst := some 75, op := Op.binOp BinOp.neq 9 (Operand.tmp 69) (Operand.tmp 74) 9, type := 4, pos := _, after := #[{ on := 16, ground := Ground.data }, { on := 21, ground := Ground.data }, { on := 11, ground := Ground.guard }], guard := some (11, true) }) (v := undef) rfl (by kernel_rfl) (by kernel_rfl) (by kernel_rfl) (fun _ _ _ h => h) (Or.inr ⟨by rfl, rfl⟩) (by assumption) ?_
          try simp only [Act.put, List.setIfInBounds_toArray, List.set_cons_zero, List.set_cons_succ]
          refine wpAnyH_take (i := 23) (oi := { dst := some 76, op := Op.pick (Operand.tmp 64) (Operand.tmp 75) (Operand.const (Value.bool false)), type := 4, pos := _, after := #[{ on := 11, ground := Ground.data }, { on := 22, ground := Ground.data }, { on := 7, ground := Ground.guard }], guard := some (7, false) }) (v := ?_) rfl (by kernel_rfl) (by kernel_rfl) (by kernel_rfl) (fun _ _ _ h => h) (Or.inl ⟨by rfl, ?_⟩) (by assumption) ?_
          rotate_left
          · (intro w hSw; obtain ⟨z0, z1, z2⟩ := hSw; (go_simp <;> with_reducible rfl))
          try simp only [Act.put, List.setIfInBounds_toArray, List.set_cons_zero, List.set_cons_succ]
          refine wpAnyH_take (i := 24) (oi := { dst := some 77, op := Op.pick (Operand.tmp 60) (Operand.const (Value.bool true)) (Operand.tmp 76), type := 4, pos := _, after := #[{ on := 7, ground := Ground.data }, { on := 23, ground := Ground.data }], guard := none }) (v := ?_) rfl (by kernel_rfl) (by kernel_rfl) (by kernel_rfl) (fun _ _ _ h => h) (Or.inl ⟨by rfl, ?_⟩) (by assumption) ?_
          rotate_left
          · (intro w hSw; obtain ⟨z0, z1, z2⟩ := hSw; (go_simp <;> with_reducible rfl))
          try simp only [Act.put, List.setIfInBounds_toArray, List.set_cons_zero, List.set_cons_succ]
          refine wpAnyH_done (by kernel_rfl) ?_ _
          generalize w8.drew = wq at hBk hG8 hHeld ⊢
          have y2 : wq.cell? ⟨g8, 2, none⟩ = some (.int .i64 1) := hBk.cell 2
          have cI4 : wq.cell? ⟨bL, oL + i * 5 + 4, none⟩ = some (.slice (some ⟨b3, o3, none⟩) pl.length pc) := HCI.out _ hG8 4 (.slice (some ⟨b3, o3, none⟩) pl.length pc) rfl
          clear hHeld
          go_wp2_with fail
          clear y2
          have HLX : Hid (RdR w5 9 lgC (.slice (some ⟨b3, o3, none⟩) pl.length pc) pl) := Lib.hid (HX.out _ (List.mem_of_getElem? hi))
          have HVX := Lib.hid (fun w' (q : G wq w' none) => oneOf HRL.out HX.out (hG8.trans q) hi)
          have HVY := Lib.hid (fun w' (q : G wq w' none) => oneOf HRL.out HX.out (hG8.trans q) hj)
          have hcL := HCAP.out
          have s0 : ¬ (cL = i) := by omega
          have s1 : ¬ (cL = j) := by omega
          have s2 : IntKind.i64.wrap ((i : Int) + 1) = (i : Int) + 1 := by rw [IntKind.wrap_i64]; omega
          have s3 : IntKind.i64.wrap ((j : Int) + 1) = (j : Int) + 1 := by rw [IntKind.wrap_i64]; omega
          have s4 : (0 : Int) ≤ (i : Int) + 1 := by omega
          have s5 : (i : Int) + 1 ≤ (cL : Int) := by omega
          have s6 : (0 : Int) ≤ (j : Int) + 1 := by omega
          have s7 : (j : Int) + 1 ≤ (cL : Int) := by omega
          have s8 : i + 1 - i = 1 := by omega
          have s9 : j + 1 - j = 1 := by omega
          go_loopw [11, 87] (CmRel wq g8 #[.string ca, .string cb, .int .i64 1, .int .i64 cm] pl (hfB (ca, cb, 1, cm) (ph, (some ⟨b3, o3, none⟩, pc), pl) (qh, (qa, qc), ql))) (fun _ i _ => pl.length - (intOf i).toNat)
          case atStart => exact ⟨0, by omega, rfl, rfl, hBk, G.refl _ _⟩
          case round =>
            clear cI4 hBk
            obtain ⟨t, ht, rfl, rfl, hBk9, hG9⟩ := hrel
            by_cases hlt2 : t < pl.length
            · obtain ⟨gl, hg⟩ : ∃ gl, pl[t]? = some gl := ⟨_, List.getElem?_eq_getElem hlt2⟩
              have HST : Hid ((pl.take (t + 1)).any (hfB (ca, cb, 1, cm) (ph, (some ⟨b3, o3, none⟩, pc), pl) (qh, (qa, qc), ql)) = ((pl.take t).any (hfB (ca, cb, 1, cm) (ph, (some ⟨b3, o3, none⟩, pc), pl) (qh, (qa, qc), ql)) || hfB (ca, cb, 1, cm) (ph, (some ⟨b3, o3, none⟩, pc), pl) (qh, (qa, qc), ql) gl)) := Lib.hid (by
                rw [List.take_add_one, hg]; simp)
              have HGS := Lib.hid (HOX.out.1 gl (List.mem_of_getElem? hg)).1
              have HWg := Lib.hid (lgRow HLX.out (hG8.trans hG9) hg)
              have HT := Lib.hid hlt2
              have hB13 : Bk (wr.alloc (.cells #[.string gl.1, .int .i64 gl.2.1.1, .string gl.2.1.2.1, .int .i64 gl.2.1.2.2.1, .int .i64 gl.2.1.2.2.2, .int .i64 gl.2.2.1, .string gl.2.2.2.1, .int .i64 gl.2.2.2.2.1, .int .i64 gl.2.2.2.2.2] 79)) wr.heap.size 79 #[.string gl.1, .int .i64 gl.2.1.1, .string gl.2.1.2.1, .int .i64 gl.2.1.2.2.1, .int .i64 gl.2.1.2.2.2, .int .i64 gl.2.2.1, .string gl.2.2.2.1, .int .i64 gl.2.2.2.2.1, .int .i64 gl.2.2.2.2.2] := Bk.new _ _ _
              have hG10 := hG9.alloc (.cells #[.string gl.1, .int .i64 gl.2.1.1, .string gl.2.1.2.1, .int .i64 gl.2.1.2.2.1, .int .i64 gl.2.1.2.2.2, .int .i64 gl.2.2.1, .string gl.2.2.2.1, .int .i64 gl.2.2.2.2.1, .int .i64 gl.2.2.2.2.2] 79)
              replace hBk9 := hBk9.alloc (.cells #[.string gl.1, .int .i64 gl.2.1.1, .string gl.2.1.2.1, .int .i64 gl.2.1.2.2.1, .int .i64 gl.2.1.2.2.2, .int .i64 gl.2.2.1, .string gl.2.2.2.1, .int .i64 gl.2.2.2.2.1, .int .i64 gl.2.2.2.2.2] 79)
              clear hg hG9
              go_upto_region 18 with (refine wpList_load_at rfl 79 _ rfl ⟨b3, o3 + t * 9, none⟩ rfl #[.string gl.1, .int .i64 gl.2.1.1, .string gl.2.1.2.1, .int .i64 gl.2.1.2.2.1, .int .i64 gl.2.1.2.2.2, .int .i64 gl.2.2.1, .string gl.2.2.2.1, .int .i64 gl.2.2.2.2.1, .int .i64 gl.2.2.2.2.2] _ HWg.out Tryd.underlying79 rfl (lg_info gl) ?_)
              generalize wr.alloc (.cells #[.string gl.1, .int .i64 gl.2.1.1, .string gl.2.1.2.1, .int .i64 gl.2.1.2.2.1, .int .i64 gl.2.1.2.2.2, .int .i64 gl.2.2.1, .string gl.2.2.2.1, .int .i64 gl.2.2.2.2.1, .int .i64 gl.2.2.2.2.2] 79) = w10 at hB13 hG10 hBk9 ⊢
              generalize wr.heap.size = g13 at hB13 ⊢
              have hq := (G.refl w10 none).drew
              replace hB13 := hB13.quiet hq
              replace hBk9 := hBk9.quiet hq
              replace hG10 := hG10.trans hq
              clear hq
              refine wp_region_held_drew (S := (fun w' : World => w'.cell? ⟨g13, 0, none⟩ = some (.string gl.1) ∧ w'.cell? ⟨g8, 3, none⟩ = some (.int .i64 cm))) (by kernel_rfl) ?_ (fun hHeld => ?_)
              · exact ⟨hB13.cell 0, hBk9.cell 3⟩
              refine wpAnyH_take (i := 0) (oi := { dst := some 92, op := Op.move (Operand.tmp 4), type := 54, pos := _, after := #[], guard := none }) (v := ?_) rfl (by kernel_rfl) (by kernel_rfl) (by kernel_rfl) (fun _ _ _ h => h) (Or.inl ⟨by rfl, ?_⟩) (by assumption) ?_
              rotate_left
              · (intro w hSw; obtain ⟨z0, z1⟩ := hSw; (go_simp <;> with_reducible rfl))
              try simp only [Act.put, List.setIfInBounds_toArray, List.set_cons_zero, List.set_cons_succ]
              refine wpAnyH_take (i := 1) (oi := { dst := some 93, op := Op.move (Operand.tmp 9), type := 3, pos := _, after := #[], guard := none }) (v := ?_) rfl (by kernel_rfl) (by kernel_rfl) (by kernel_rfl) (fun _ _ _ h => h) (Or.inl ⟨by rfl, ?_⟩) (by assumption) ?_
              rotate_left
              · (intro w hSw; obtain ⟨z0, z1⟩ := hSw; (go_simp <;> with_reducible rfl))
              try simp only [Act.put, List.setIfInBounds_toArray, List.set_cons_zero, List.set_cons_succ]
              refine wpAnyH_take (i := 2) (oi := { dst := some 94, op := Op.move (Operand.tmp 9), type := 3, pos := _, after := #[], guard := none }) (v := ?_) rfl (by kernel_rfl) (by kernel_rfl) (by kernel_rfl) (fun _ _ _ h => h) (Or.inl ⟨by rfl, ?_⟩) (by assumption) ?_
              rotate_left
              · (intro w hSw; obtain ⟨z0, z1⟩ := hSw; (go_simp <;> with_reducible rfl))
              try simp only [Act.put, List.setIfInBounds_toArray, List.set_cons_zero, List.set_cons_succ]
              refine wpAnyH_take (i := 3) (oi := { dst := some 95, op := Op.binOp BinOp.add 3 (Operand.tmp 94) (Operand.const (Value.int IntKind.i64 1)) 3, type := 3, pos := _, after := #[{ on := 2, ground := Ground.data }], guard := none }) (v := ?_) rfl (by kernel_rfl) (by kernel_rfl) (by kernel_rfl) (fun _ _ _ h => h) (Or.inl ⟨by rfl, ?_⟩) (by assumption) ?_
              rotate_left
              · (intro w hSw; obtain ⟨z0, z1⟩ := hSw; (go_simp <;> with_reducible rfl))
              try simp only [Act.put, List.setIfInBounds_toArray, List.set_cons_zero, List.set_cons_succ]
              refine wpAnyH_take (i := 4) (oi := { dst := some 96, op := Op.slice 54 (Operand.tmp 92) (some (Operand.tmp 93)) (some (Operand.tmp 95)) none, type := 54, pos := _, after := #[{ on := 0, ground := Ground.data }, { on := 1, ground := Ground.data }, { on := 3, ground := Ground.data }], guard := none }) (v := ?_) rfl (by kernel_rfl) (by kernel_rfl) (by kernel_rfl) (fun _ _ _ h => h) (Or.inl ⟨by rfl, ?_⟩) (by assumption) ?_
              rotate_left
              · (intro w hSw; obtain ⟨z0, z1⟩ := hSw; (go_simp <;> with_reducible rfl))
              try simp only [Act.put, List.setIfInBounds_toArray, List.set_cons_zero, List.set_cons_succ]
              refine wpAnyH_take (i := 5) (oi := { dst := some 97, op := Op.fieldAddr 79 (Operand.tmp 13) 0, type := 0, pos := _, after := #[], guard := none }) (v := ?_) rfl (by kernel_rfl) (by kernel_rfl) (by kernel_rfl) (fun _ _ _ h => h) (Or.inl ⟨by rfl, ?_⟩) (by assumption) ?_
              rotate_left
              · (intro w hSw; obtain ⟨z0, z1⟩ := hSw; (go_simp <;> with_reducible rfl))
              try simp only [Act.put, List.setIfInBounds_toArray, List.set_cons_zero, List.set_cons_succ]
              refine wpAnyH_take (i := 6) (oi := { dst := some 98, op := Op.load 9 (Operand.tmp 97), type := 9, pos := _, after := #[{ on := 5, ground := Ground.data }], guard := none }) (v := ?_) rfl (by kernel_rfl) (by kernel_rfl) (by kernel_rfl) (fun _ _ _ h => h) (Or.inl ⟨by rfl, ?_⟩) (by assumption) ?_
              rotate_left
              · (intro w hSw; obtain ⟨z0, z1⟩ := hSw; (go_simp <;> with_reducible rfl))
              try simp only [Act.put, List.setIfInBounds_toArray, List.set_cons_zero, List.set_cons_succ]
              refine wpAnyH_take (i := 7) (oi := { dst := some 99, op := Op.fieldAddr 75 (Operand.tmp 8) 3, type := 0, pos := _, after := #[], guard := none }) (v := ?_) rfl (by kernel_rfl) (by kernel_rfl) (by kernel_rfl) (fun _ _ _ h => h) (Or.inl ⟨by rfl, ?_⟩) (by assumption) ?_
              rotate_left
              · (intro w hSw; obtain ⟨z0, z1⟩ := hSw; (go_simp <;> with_reducible rfl))
              try simp only [Act.put, List.setIfInBounds_toArray, List.set_cons_zero, List.set_cons_succ]
              refine wpAnyH_take (i := 8) (oi := { dst := some 100, op := Op.load 3 (Operand.tmp 99), type := 3, pos := _, after := #[{ on := 7, ground := Ground.data }], guard := none }) (v := ?_) rfl (by kernel_rfl) (by kernel_rfl) (by kernel_rfl) (fun _ _ _ h => h) (Or.inl ⟨by rfl, ?_⟩) (by assumption) ?_
              rotate_left
              · (intro w hSw; obtain ⟨z0, z1⟩ := hSw; (go_simp <;> with_reducible rfl))
              try simp only [Act.put, List.setIfInBounds_toArray, List.set_cons_zero, List.set_cons_succ]
              refine wpAnyH_ready (rs := [9]) (by kernel_rfl) (by simp) ?_
              refine AllReadyH.cons (o := { dst := some 101, op := Op.call { callee := Callee.value (Operand.func 33), args := #[Operand.tmp 96, Operand.tmp 98, Operand.tmp 100], argTypes := #[54, 9, 3] }, type := 57, pos := _, after := #[{ on := 4, ground := Ground.data }, { on := 6, ground := Ground.data }, { on := 8, ground := Ground.data }], guard := none }) rfl (fun K hK => ?_) AllReadyH.nil
              go_simp
              refine (with_c (.slice (some ⟨bL, oL + i * 5, none⟩) 1 (cL - i)) [(ph, (some ⟨b3, o3, none⟩, pc), pl)] gl.1 cm _ (HVX.out _ hG10) (fun p hp => by obtain rfl := List.mem_singleton.1 hp; exact HOX.out) (by simp) HGS.out).mono ?_
              rintro e wv1 ⟨rfl, hh⟩
              replace hB13 := hB13.quiet hh
              replace hBk9 := hBk9.quiet hh
              replace hG10 := hG10.trans hh
              clear hh
              refine hK.out _ _ ?_ (fun hHeld => ?_)
              · exact ⟨hB13.cell 0, hBk9.cell 3⟩
              clear hK K
              try simp only [Act.put, List.setIfInBounds_toArray, List.set_cons_zero, List.set_cons_succ]
              refine wpAnyH_take (i := 10) (oi := { dst := some 91, op := Op.move (Operand.tmp 101), type := 57, pos := _, after := #[{ on := 9, ground := Ground.data }], guard := none }) (v := ?_) rfl (by kernel_rfl) (by kernel_rfl) (by kernel_rfl) (fun _ _ _ h => h) (Or.inl ⟨by rfl, ?_⟩) (by assumption) ?_
              rotate_left
              · (intro w hSw; obtain ⟨z0, z1⟩ := hSw; (go_simp <;> with_reducible rfl))
              try simp only [Act.put, List.setIfInBounds_toArray, List.set_cons_zero, List.set_cons_succ]
              refine wpAnyH_take (i := 11) (oi := { dst := some 102, op := Op.extract (Operand.tmp 91) 0, type := 9, pos := _, after := #[{ on := 10, ground := Ground.data }], guard := none }) (v := ?_) rfl (by kernel_rfl) (by kernel_rfl) (by kernel_rfl) (fun _ _ _ h => h) (Or.inl ⟨by rfl, ?_⟩) (by assumption) ?_
              rotate_left
              · (intro w hSw; obtain ⟨z0, z1⟩ := hSw; (go_simp <;> with_reducible rfl))
              try simp only [Act.put, List.setIfInBounds_toArray, List.set_cons_zero, List.set_cons_succ]
              refine wpAnyH_take (i := 12) (oi := { dst := some 103, op := Op.extract (Operand.tmp 91) 1, type := 4, pos := _, after := #[{ on := 10, ground := Ground.data }, { on := 14, ground := Ground.gcOnly Departure.lateStores }], guard := none }) (v := ?_) rfl (by kernel_rfl) (by kernel_rfl) (by kernel_rfl) (fun _ _ _ h => h) (Or.inl ⟨by rfl, ?_⟩) (by assumption) ?_
              rotate_left
              · (intro w hSw; obtain ⟨z0, z1⟩ := hSw; (go_simp <;> with_reducible rfl))
              try simp only [Act.put, List.setIfInBounds_toArray, List.set_cons_zero, List.set_cons_succ]
              refine wpAnyH_take (i := 13) (oi := { dst := some 104, op := Op.extract (Operand.tmp 91) 2, type := 40, pos := _, after := #[{ on := 10, ground := Ground.data }, { on := 15, ground := Ground.gcOnly Departure.lateStores }], guard := none }) (v := ?_) rfl (by kernel_rfl) (by kernel_rfl) (by kernel_rfl) (fun _ _ _ h => h) (Or.inl ⟨by rfl, ?_⟩) (by assumption) ?_
              rotate_left
              · (intro w hSw; obtain ⟨z0, z1⟩ := hSw; (go_simp <;> with_reducible rfl))
              try simp only [Act.put, List.setIfInBounds_toArray, List.set_cons_zero, List.set_cons_succ]
              refine wpAnyH_take (i := 14) (oi := { dst := some 14, op := Op.assign (Operand.tmp 102), type := 9, pos := _, after := #[{ on := 11, ground := Ground.data }, { on := 9, ground := Ground.chain }, { on := 0, ground := Ground.phase }, { on := 1, ground := Ground.phase }, { on := 2, ground := Ground.phase }, { on := 3, ground := Ground.phase }, { on := 4, ground := Ground.phase }, { on := 5, ground := Ground.phase }, { on := 6, ground := Ground.phase }, { on := 7, ground := Ground.phase }, { on := 8, ground := Ground.phase }, { on := 9, ground := Ground.phase }, { on := 10, ground := Ground.phase }, { on := 11, ground := Ground.phase }, { on := 12, ground := Ground.textOnly Departure.lateStores }, { on := 13, ground := Ground.textOnly Departure.lateStores }], guard := none }) (v := ?_) rfl (by kernel_rfl) (by kernel_rfl) (by kernel_rfl) (fun _ _ _ h => h) (Or.inl ⟨by rfl, ?_⟩) (by assumption) ?_
              rotate_left
              · (intro w hSw; obtain ⟨z0, z1⟩ := hSw; (go_simp <;> with_reducible rfl))
              try simp only [Act.put, List.setIfInBounds_toArray, List.set_cons_zero, List.set_cons_succ]
              refine wpAnyH_take (i := 15) (oi := { dst := some 15, op := Op.assign (Operand.tmp 103), type := 4, pos := _, after := #[{ on := 12, ground := Ground.data }, { on := 14, ground := Ground.chain }, { on := 0, ground := Ground.phase }, { on := 1, ground := Ground.phase }, { on := 2, ground := Ground.phase }, { on := 3, ground := Ground.phase }, { on := 4, ground := Ground.phase }, { on := 5, ground := Ground.phase }, { on := 6, ground := Ground.phase }, { on := 7, ground := Ground.phase }, { on := 8, ground := Ground.phase }, { on := 9, ground := Ground.phase }, { on := 10, ground := Ground.phase }, { on := 11, ground := Ground.phase }, { on := 12, ground := Ground.phase }, { on := 13, ground := Ground.textOnly Departure.lateStores }, { on := 14, ground := Ground.phase }], guard := none }) (v := ?_) rfl (by kernel_rfl) (by kernel_rfl) (by kernel_rfl) (fun _ _ _ h => h) (Or.inl ⟨by rfl, ?_⟩) (by assumption) ?_
              rotate_left
              · (intro w hSw; obtain ⟨z0, z1⟩ := hSw; (go_simp <;> with_reducible rfl))
              try simp only [Act.put, List.setIfInBounds_toArray, List.set_cons_zero, List.set_cons_succ]
              refine wpAnyH_take (i := 16) (oi := { dst := some 16, op := Op.assign (Operand.tmp 104), type := 40, pos := _, after := #[{ on := 13, ground := Ground.data }, { on := 15, ground := Ground.chain }, { on := 0, ground := Ground.phase }, { on := 1, ground := Ground.phase }, { on := 2, ground := Ground.phase }, { on := 3, ground := Ground.phase }, { on := 4, ground := Ground.phase }, { on := 5, ground := Ground.phase }, { on := 6, ground := Ground.phase }, { on := 7, ground := Ground.phase }, { on := 8, ground := Ground.phase }, { on := 9, ground := Ground.phase }, { on := 10, ground := Ground.phase }, { on := 11, ground := Ground.phase }, { on := 12, ground := Ground.phase }, { on := 13, ground := Ground.phase }, { on := 14, ground := Ground.phase }, { on := 15, ground := Ground.phase }], guard := none }) (v := ?_) rfl (by kernel_rfl) (by kernel_rfl) (by kernel_rfl) (fun _ _ _ h => h) (Or.inl ⟨by rfl, ?_⟩) (by assumption) ?_
              rotate_left
              · (intro w hSw; obtain ⟨z0, z1⟩ := hSw; (go_simp <;> with_reducible rfl))
              try simp only [Act.put, List.setIfInBounds_toArray, List.set_cons_zero, List.set_cons_succ]
              refine wpAnyH_done (by kernel_rfl) ?_ _
              go_upto_region 19 with fail
              generalize wv1 = wv at hB13 hBk9 hG10 hHeld ⊢
              clear hHeld
              have hq := (G.refl wv none).drew
              replace hB13 := hB13.quiet hq
              replace hBk9 := hBk9.quiet hq
              replace hG10 := hG10.trans hq
              clear hq
              refine wp_region_held_drew (S := (fun w' : World => w'.cell? ⟨g13, 0, none⟩ = some (.string gl.1) ∧ w'.cell? ⟨g8, 3, none⟩ = some (.int .i64 cm))) (by kernel_rfl) ?_ (fun hHeld => ?_)
              · exact ⟨hB13.cell 0, hBk9.cell 3⟩
              refine wpAnyH_take (i := 0) (oi := { dst := some 106, op := Op.move (Operand.tmp 4), type := 54, pos := _, after := #[], guard := none }) (v := ?_) rfl (by kernel_rfl) (by kernel_rfl) (by kernel_rfl) (fun _ _ _ h => h) (Or.inl ⟨by rfl, ?_⟩) (by assumption) ?_
              rotate_left
              · (intro w hSw; obtain ⟨z0, z1⟩ := hSw; (go_simp <;> with_reducible rfl))
              try simp only [Act.put, List.setIfInBounds_toArray, List.set_cons_zero, List.set_cons_succ]
              refine wpAnyH_take (i := 1) (oi := { dst := some 107, op := Op.move (Operand.tmp 10), type := 3, pos := _, after := #[], guard := none }) (v := ?_) rfl (by kernel_rfl) (by kernel_rfl) (by kernel_rfl) (fun _ _ _ h => h) (Or.inl ⟨by rfl, ?_⟩) (by assumption) ?_
              rotate_left
              · (intro w hSw; obtain ⟨z0, z1⟩ := hSw; (go_simp <;> with_reducible rfl))
              try simp only [Act.put, List.setIfInBounds_toArray, List.set_cons_zero, List.set_cons_succ]
              refine wpAnyH_take (i := 2) (oi := { dst := some 108, op := Op.move (Operand.tmp 10), type := 3, pos := _, after := #[], guard := none }) (v := ?_) rfl (by kernel_rfl) (by kernel_rfl) (by kernel_rfl) (fun _ _ _ h => h) (Or.inl ⟨by rfl, ?_⟩) (by assumption) ?_
              rotate_left
              · (intro w hSw; obtain ⟨z0, z1⟩ := hSw; (go_simp <;> with_reducible rfl))
              try simp only [Act.put, List.setIfInBounds_toArray, List.set_cons_zero, List.set_cons_succ]
              refine wpAnyH_take (i := 3) (oi := { dst := some 109, op := Op.binOp BinOp.add 3 (Operand.tmp 108) (Operand.const (Value.int IntKind.i64 1)) 3, type := 3, pos := _, after := #[{ on := 2, ground := Ground.data }], guard := none }) (v := ?_) rfl (by kernel_rfl) (by kernel_rfl) (by kernel_rfl) (fun _ _ _ h => h) (Or.inl ⟨by rfl, ?_⟩) (by assumption) ?_
              rotate_left
              · (intro w hSw; obtain ⟨z0, z1⟩ := hSw; (go_simp <;> with_reducible rfl))
              try simp only [Act.put, List.setIfInBounds_toArray, List.set_cons_zero, List.set_cons_succ]
              refine wpAnyH_take (i := 4) (oi := { dst := some 110, op := Op.slice 54 (Operand.tmp 106) (some (Operand.tmp 107)) (some (Operand.tmp 109)) none, type := 54, pos := _, after := #[{ on := 0, ground := Ground.data }, { on := 1, ground := Ground.data }, { on := 3, ground := Ground.data }], guard := none }) (v := ?_) rfl (by kernel_rfl) (by kernel_rfl) (by kernel_rfl) (fun _ _ _ h => h) (Or.inl ⟨by rfl, ?_⟩) (by assumption) ?_
              rotate_left
              · (intro w hSw; obtain ⟨z0, z1⟩ := hSw; (go_simp <;> with_reducible rfl))
              try simp only [Act.put, List.setIfInBounds_toArray, List.set_cons_zero, List.set_cons_succ]
              refine wpAnyH_take (i := 5) (oi := { dst := some 111, op := Op.fieldAddr 79 (Operand.tmp 13) 0, type := 0, pos := _, after := #[], guard := none }) (v := ?_) rfl (by kernel_rfl) (by kernel_rfl) (by kernel_rfl) (fun _ _ _ h => h) (Or.inl ⟨by rfl, ?_⟩) (by assumption) ?_
              rotate_left
              · (intro w hSw; obtain ⟨z0, z1⟩ := hSw; (go_simp <;> with_reducible rfl))
              try simp only [Act.put, List.setIfInBounds_toArray, List.set_cons_zero, List.set_cons_succ]
              refine wpAnyH_take (i := 6) (oi := { dst := some 112, op := Op.load 9 (Operand.tmp 111), type := 9, pos := _, after := #[{ on := 5, ground := Ground.data }], guard := none }) (v := ?_) rfl (by kernel_rfl) (by kernel_rfl) (by kernel_rfl) (fun _ _ _ h => h) (Or.inl ⟨by rfl, ?_⟩) (by assumption) ?_
              rotate_left
              · (intro w hSw; obtain ⟨z0, z1⟩ := hSw; (go_simp <;> with_reducible rfl))
              try simp only [Act.put, List.setIfInBounds_toArray, List.set_cons_zero, List.set_cons_succ]
              refine wpAnyH_take (i := 7) (oi := { dst := some 113, op := Op.fieldAddr 75 (Operand.tmp 8) 3, type := 0, pos := _, after := #[], guard := none }) (v := ?_) rfl (by kernel_rfl) (by kernel_rfl) (by kernel_rfl) (fun _ _ _ h => h) (Or.inl ⟨by rfl, ?_⟩) (by assumption) ?_
              rotate_left
              · (intro w hSw; obtain ⟨z0, z1⟩ := hSw; (go_simp <;> with_reducible rfl))
              try simp only [Act.put, List.setIfInBounds_toArray, List.set_cons_zero, List.set_cons_succ]
              refine wpAnyH_take (i := 8) (oi := { dst := some 114, op := Op.load 3 (Operand.tmp 113), type := 3, pos := _, after := #[{ on := 7, ground := Ground.data }], guard := none }) (v := ?_) rfl (by kernel_rfl) (by kernel_rfl) (by kernel_rfl) (fun _ _ _ h => h) (Or.inl ⟨by rfl, ?_⟩) (by assumption) ?_
              rotate_left
              · (intro w hSw; obtain ⟨z0, z1⟩ := hSw; (go_simp <;> with_reducible rfl))
              try simp only [Act.put, List.setIfInBounds_toArray, List.set_cons_zero, List.set_cons_succ]
              refine wpAnyH_ready (rs := [9]) (by kernel_rfl) (by simp) ?_
              refine AllReadyH.cons (o := { dst := some 115, op := Op.call { callee := Callee.value (Operand.func 33), args := #[Operand.tmp 110, Operand.tmp 112, Operand.tmp 114], argTypes := #[54, 9, 3] }, type := 57, pos := _, after := #[{ on := 4, ground := Ground.data }, { on := 6, ground := Ground.data }, { on := 8, ground := Ground.data }], guard := none }) rfl (fun K hK => ?_) AllReadyH.nil
              go_simp
              refine (with_c (.slice (some ⟨bL, oL + j * 5, none⟩) 1 (cL - j)) [(qh, (qa, qc), ql)] gl.1 cm _ (HVY.out _ hG10) (fun p hp => by obtain rfl := List.mem_singleton.1 hp; exact HOY.out) (by simp) HGS.out).mono ?_
              rintro e wv2 ⟨rfl, hh⟩
              replace hB13 := hB13.quiet hh
              replace hBk9 := hBk9.quiet hh
              replace hG10 := hG10.trans hh
              clear hh
              refine hK.out _ _ ?_ (fun hHeld => ?_)
              · exact ⟨hB13.cell 0, hBk9.cell 3⟩
              clear hK K
              try simp only [Act.put, List.setIfInBounds_toArray, List.set_cons_zero, List.set_cons_succ]
              refine wpAnyH_take (i := 10) (oi := { dst := some 105, op := Op.move (Operand.tmp 115), type := 57, pos := _, after := #[{ on := 9, ground := Ground.data }], guard := none }) (v := ?_) rfl (by kernel_rfl) (by kernel_rfl) (by kernel_rfl) (fun _ _ _ h => h) (Or.inl ⟨by rfl, ?_⟩) (by assumption) ?_
              rotate_left
              · (intro w hSw; obtain ⟨z0, z1⟩ := hSw; (go_simp <;> with_reducible rfl))
              try simp only [Act.put, List.setIfInBounds_toArray, List.set_cons_zero, List.set_cons_succ]
              refine wpAnyH_take (i := 11) (oi := { dst := some 116, op := Op.extract (Operand.tmp 105) 0, type := 9, pos := _, after := #[{ on := 10, ground := Ground.data }], guard := none }) (v := ?_) rfl (by kernel_rfl) (by kernel_rfl) (by kernel_rfl) (fun _ _ _ h => h) (Or.inl ⟨by rfl, ?_⟩) (by assumption) ?_
              rotate_left
              · (intro w hSw; obtain ⟨z0, z1⟩ := hSw; (go_simp <;> with_reducible rfl))
              try simp only [Act.put, List.setIfInBounds_toArray, List.set_cons_zero, List.set_cons_succ]
              refine wpAnyH_take (i := 12) (oi := { dst := some 117, op := Op.extract (Operand.tmp 105) 1, type := 4, pos := _, after := #[{ on := 10, ground := Ground.data }, { on := 14, ground := Ground.gcOnly Departure.lateStores }], guard := none }) (v := ?_) rfl (by kernel_rfl) (by kernel_rfl) (by kernel_rfl) (fun _ _ _ h => h) (Or.inl ⟨by rfl, ?_⟩) (by assumption) ?_
              rotate_left
              · (intro w hSw; obtain ⟨z0, z1⟩ := hSw; (go_simp <;> with_reducible rfl))
              try simp only [Act.put, List.setIfInBounds_toArray, List.set_cons_zero, List.set_cons_succ]
              refine wpAnyH_take (i := 13) (oi := { dst := some 118, op := Op.extract (Operand.tmp 105) 2, type := 40, pos := _, after := #[{ on := 10, ground := Ground.data }, { on := 15, ground := Ground.gcOnly Departure.lateStores }], guard := none }) (v := ?_) rfl (by kernel_rfl) (by kernel_rfl) (by kernel_rfl) (fun _ _ _ h => h) (Or.inl ⟨by rfl, ?_⟩) (by assumption) ?_
              rotate_left
              · (intro w hSw; obtain ⟨z0, z1⟩ := hSw; (go_simp <;> with_reducible rfl))
              try simp only [Act.put, List.setIfInBounds_toArray, List.set_cons_zero, List.set_cons_succ]
              refine wpAnyH_take (i := 14) (oi := { dst := some 17, op := Op.assign (Operand.tmp 116), type := 9, pos := _, after := #[{ on := 11, ground := Ground.data }, { on := 9, ground := Ground.chain }, { on := 0, ground := Ground.phase }, { on := 1, ground := Ground.phase }, { on := 2, ground := Ground.phase }, { on := 3, ground := Ground.phase }, { on := 4, ground := Ground.phase }, { on := 5, ground := Ground.phase }, { on := 6, ground := Ground.phase }, { on := 7, ground := Ground.phase }, { on := 8, ground := Ground.phase }, { on := 9, ground := Ground.phase }, { on := 10, ground := Ground.phase }, { on := 11, ground := Ground.phase }, { on := 12, ground := Ground.textOnly Departure.lateStores }, { on := 13, ground := Ground.textOnly Departure.lateStores }], guard := none }) (v := ?_) rfl (by kernel_rfl) (by kernel_rfl) (by kernel_rfl) (fun _ _ _ h => h) (Or.inl ⟨by rfl, ?_⟩) (by assumption) ?_
              rotate_left
              · (intro w hSw; obtain ⟨z0, z1⟩ := hSw; (go_simp <;> with_reducible rfl))
              try simp only [Act.put, List.setIfInBounds_toArray, List.set_cons_zero, List.set_cons_succ]
              refine wpAnyH_take (i := 15) (oi := { dst := some 18, op := Op.assign (Operand.tmp 117), type := 4, pos := _, after := #[{ on := 12, ground := Ground.data }, { on := 14, ground := Ground.chain }, { on := 0, ground := Ground.phase }, { on := 1, ground := Ground.phase }, { on := 2, ground := Ground.phase }, { on := 3, ground := Ground.phase }, { on := 4, ground := Ground.phase }, { on := 5, ground := Ground.phase }, { on := 6, ground := Ground.phase }, { on := 7, ground := Ground.phase }, { on := 8, ground := Ground.phase }, { on := 9, ground := Ground.phase }, { on := 10, ground := Ground.phase }, { on := 11, ground := Ground.phase }, { on := 12, ground := Ground.phase }, { on := 13, ground := Ground.textOnly Departure.lateStores }, { on := 14, ground := Ground.phase }], guard := none }) (v := ?_) rfl (by kernel_rfl) (by kernel_rfl) (by kernel_rfl) (fun _ _ _ h => h) (Or.inl ⟨by rfl, ?_⟩) (by assumption) ?_
              rotate_left
              · (intro w hSw; obtain ⟨z0, z1⟩ := hSw; (go_simp <;> with_reducible rfl))
              try simp only [Act.put, List.setIfInBounds_toArray, List.set_cons_zero, List.set_cons_succ]
              refine wpAnyH_take (i := 16) (oi := { dst := some 19, op := Op.assign (Operand.tmp 118), type := 40, pos := _, after := #[{ on := 13, ground := Ground.data }, { on := 15, ground := Ground.chain }, { on := 0, ground := Ground.phase }, { on := 1, ground := Ground.phase }, { on := 2, ground := Ground.phase }, { on := 3, ground := Ground.phase }, { on := 4, ground := Ground.phase }, { on := 5, ground := Ground.phase }, { on := 6, ground := Ground.phase }, { on := 7, ground := Ground.phase }, { on := 8, ground := Ground.phase }, { on := 9, ground := Ground.phase }, { on := 10, ground := Ground.phase }, { on := 11, ground := Ground.phase }, { on := 12, ground := Ground.phase }, { on := 13, ground := Ground.phase }, { on := 14, ground := Ground.phase }, { on := 15, ground := Ground.phase }], guard := none }) (v := ?_) rfl (by kernel_rfl) (by kernel_rfl) (by kernel_rfl) (fun _ _ _ h => h) (Or.inl ⟨by rfl, ?_⟩) (by assumption) ?_
              rotate_left
              · (intro w hSw; obtain ⟨z0, z1⟩ := hSw; (go_simp <;> with_reducible rfl))
              try simp only [Act.put, List.setIfInBounds_toArray, List.set_cons_zero, List.set_cons_succ]
              refine wpAnyH_done (by kernel_rfl) ?_ _
              go_upto_region 20 with fail
              generalize wv2 = wz at hB13 hBk9 hG10 hHeld ⊢
              clear hHeld
              have y0 : wz.cell? ⟨g8, 0, none⟩ = some (.string ca) := hBk9.cell 0
              have y1 : wz.cell? ⟨g8, 1, none⟩ = some (.string cb) := hBk9.cell 1
              have HFB : Hid (hfB (ca, cb, 1, cm) (ph, (some ⟨b3, o3, none⟩, pc), pl) (qh, (qa, qc), ql) gl = ((wkB gl.1 cm [(ph, (some ⟨b3, o3, none⟩, pc), pl)] && wkB gl.1 cm [(qh, (qa, qc), ql)]) && ((wkS gl.1 cm [(ph, (some ⟨b3, o3, none⟩, pc), pl)]).toList == ca.toList && (wkS gl.1 cm [(qh, (qa, qc), ql)]).toList == cb.toList))) := Lib.hid rfl
              generalize wkE gl.1 cm [(ph, (some ⟨b3, o3, none⟩, pc), pl)] = E1
              generalize wkE gl.1 cm [(qh, (qa, qc), ql)] = E2
              generalize wkB gl.1 cm [(ph, (some ⟨b3, o3, none⟩, pc), pl)] = O1 at HFB ⊢
              generalize wkB gl.1 cm [(qh, (qa, qc), ql)] = O2 at HFB ⊢
              generalize wkS gl.1 cm [(ph, (some ⟨b3, o3, none⟩, pc), pl)] = A1 at HFB ⊢
              generalize wkS gl.1 cm [(qh, (qa, qc), ql)] = A2 at HFB ⊢
              cases hb0 : (pl.take t).any (hfB (ca, cb, 1, cm) (ph, (some ⟨b3, o3, none⟩, pc), pl) (qh, (qa, qc), ql)) with
              | true =>
                have HF : Hid ((pl.take (t + 1)).any (hfB (ca, cb, 1, cm) (ph, (some ⟨b3, o3, none⟩, pc), pl) (qh, (qa, qc), ql)) = true) := Lib.hid (by rw [HST.out, hb0]; rfl)
                clear HST HFB hb0
                go_wp2_with fail
                go_roundw
                case rel => exact ⟨t + 1, by omega, by go_num, by rw [HF.out], hBk9, hG10⟩
                case measure => have := HT.out; simp [intOf]; omega
              | false =>
                have HST2 : Hid ((pl.take (t + 1)).any (hfB (ca, cb, 1, cm) (ph, (some ⟨b3, o3, none⟩, pc), pl) (qh, (qa, qc), ql)) = ((O1 && O2) && (A1.toList == ca.toList && A2.toList == cb.toList))) := Lib.hid (by rw [HST.out, hb0, HFB.out]; rfl)
                clear HST HFB hb0
                cases h0 : O1 with
                | false =>
                  have HF : Hid ((pl.take (t + 1)).any (hfB (ca, cb, 1, cm) (ph, (some ⟨b3, o3, none⟩, pc), pl) (qh, (qa, qc), ql)) = false) := Lib.hid (by rw [HST2.out]; simp [h0])
                  go_wp2_with fail
                  go_roundw
                  case rel => exact ⟨t + 1, by omega, by go_num, by rw [HF.out], hBk9, hG10⟩
                  case measure => have := HT.out; simp [intOf]; omega
                | true =>
                  cases h1 : O2 with
                  | false =>
                    have HF : Hid ((pl.take (t + 1)).any (hfB (ca, cb, 1, cm) (ph, (some ⟨b3, o3, none⟩, pc), pl) (qh, (qa, qc), ql)) = false) := Lib.hid (by rw [HST2.out]; simp [h0, h1])
                    go_wp2_with fail
                    go_roundw
                    case rel => exact ⟨t + 1, by omega, by go_num, by rw [HF.out], hBk9, hG10⟩
                    case measure => have := HT.out; simp [intOf]; omega
                  | true =>
                    cases h2 : (A1.toList == ca.toList) with
                    | false =>
                      have HF : Hid ((pl.take (t + 1)).any (hfB (ca, cb, 1, cm) (ph, (some ⟨b3, o3, none⟩, pc), pl) (qh, (qa, qc), ql)) = false) := Lib.hid (by rw [HST2.out]; simp [h0, h1, h2])
                      go_wp2_with fail
                      go_roundw
                      case rel => exact ⟨t + 1, by omega, by go_num, by rw [HF.out], hBk9, hG10⟩
                      case measure => have := HT.out; simp [intOf]; omega
                    | true =>
                      cases h3 : (A2.toList == cb.toList) with
                      | false =>
                        have HF : Hid ((pl.take (t + 1)).any (hfB (ca, cb, 1, cm) (ph, (some ⟨b3, o3, none⟩, pc), pl) (qh, (qa, qc), ql)) = false) := Lib.hid (by rw [HST2.out]; simp [h0, h1, h2, h3])
                        go_wp2_with fail
                        go_roundw
                        case rel => exact ⟨t + 1, by omega, by go_num, by rw [HF.out], hBk9, hG10⟩
                        case measure => have := HT.out; simp [intOf]; omega
                      | true =>
                        have HF : Hid ((pl.take (t + 1)).any (hfB (ca, cb, 1, cm) (ph, (some ⟨b3, o3, none⟩, pc), pl) (qh, (qa, qc), ql)) = true) := Lib.hid (by rw [HST2.out]; simp [h0, h1, h2, h3])
                        go_wp2_with fail
                        go_roundw
                        case rel => exact ⟨t + 1, by omega, by go_num, by rw [HF.out], hBk9, hG10⟩
                        case measure => have := HT.out; simp [intOf]; omega
            · obtain rfl : t = pl.length := by omega
              have hall2 : (pl.take pl.length).any (hfB (ca, cb, 1, cm) (ph, (some ⟨b3, o3, none⟩, pc), pl) (qh, (qa, qc), ql)) = true := by rw [List.take_length]; exact HANY.out
              rw [hall2]
              go_wp2_with fail
              go_roundw
              case rel => exact ⟨k + 1, by omega, by go_num, hG8.trans hG9⟩
              case measure => have := HK.out; simp [intOf]; omega
        · subst hk2
          have hdr2 : (ph.2.1.toList != qh.2.1.toList) = false := by rw [bne, hdr]; rfl
          refine wp_region_held_drew (S := (fun w' : World => w'.cell? ⟨g8, 2, none⟩ = some (.int .i64 2) ∧ w'.cell? ⟨bL, oL + i * 5 + 1, none⟩ = some (.string ph.2.1) ∧ w'.cell? ⟨bL, oL + j * 5 + 1, none⟩ = some (.string qh.2.1))) (by kernel_rfl) ?_ (fun hHeld => ?_)
          · exact ⟨hBk.cell 2, HCI.out _ hG8 1 (.string ph.2.1) rfl, HCJ.out _ hG8 1 (.string qh.2.1) rfl⟩
          refine wpAnyH_take (i := 0) (oi := { dst := some 53, op := Op.move (Operand.tmp 9), type := 3, pos := _, after := #[], guard := none }) (v := ?_) rfl (by kernel_rfl) (by kernel_rfl) (by kernel_rfl) (fun _ _ _ h => h) (Or.inl ⟨by rfl, ?_⟩) (by assumption) ?_
          rotate_left
          · (intro w hSw; obtain ⟨z0, z1, z2⟩ := hSw; (go_simp <;> with_reducible rfl))
          try simp only [Act.put, List.setIfInBounds_toArray, List.set_cons_zero, List.set_cons_succ]
          refine wpAnyH_take (i := 1) (oi := { dst := some 54, op := Op.binOp BinOp.lss 3 (Operand.tmp 53) (Operand.const (Value.int IntKind.i64 0)) 3, type := 4, pos := _, after := #[{ on := 0, ground := Ground.data }], guard := none }) (v := ?_) rfl (by kernel_rfl) (by kernel_rfl) (by kernel_rfl) (fun _ _ _ h => h) (Or.inl ⟨by rfl, ?_⟩) (by assumption) ?_
          rotate_left
          · (intro w hSw; obtain ⟨z0, z1, z2⟩ := hSw; (go_simp <;> with_reducible rfl))
          try simp only [Act.put, List.setIfInBounds_toArray, List.set_cons_zero, List.set_cons_succ]
          refine wpAnyH_take (i := 2) (oi := { dst := some 55, op := Op.move (Operand.tmp 54), type := 4, pos := _, after := #[{ on := 1, ground := Ground.data }], guard := none }) (v := ?_) rfl (by kernel_rfl) (by kernel_rfl) (by kernel_rfl) (fun _ _ _ h => h) (Or.inl ⟨by rfl, ?_⟩) (by assumption) ?_
          rotate_left
          · (intro w hSw; obtain ⟨z0, z1, z2⟩ := hSw; (go_simp <;> with_reducible rfl))
          try simp only [Act.put, List.setIfInBounds_toArray, List.set_cons_zero, List.set_cons_succ]
          refine wpAnyH_take (i := 3) (oi := { dst := some 56, op := Op.move (Operand.tmp 10), type := 3, pos := _, after := #[{ on := 2, ground := Ground.guard }], guard := some (2, false) }) (v := ?_) rfl (by kernel_rfl) (by kernel_rfl) (by kernel_rfl) (fun _ _ _ h => h) (Or.inl ⟨by rfl, ?_⟩) (by assumption) ?_
          rotate_left
          · (intro w hSw; obtain ⟨z0, z1, z2⟩ := hSw; (go_simp <;> with_reducible rfl))
          try simp only [Act.put, List.setIfInBounds_toArray, List.set_cons_zero, List.set_cons_succ]
          refine wpAnyH_take (i := 4) (oi := { dst := some 57, op := Op.move (Operand.tmp 9), type := 3, pos := _, after := #[{ on := 2, ground := Ground.guard }], guard := some (2, false) }) (v := ?_) rfl (by kernel_rfl) (by kernel_rfl) (by kernel_rfl) (fun _ _ _ h => h) (Or.inl ⟨by rfl, ?_⟩) (by assumption) ?_
          rotate_left
          · (intro w hSw; obtain ⟨z0, z1, z2⟩ := hSw; (go_simp <;> with_reducible rfl))
          try simp only [Act.put, List.setIfInBounds_toArray, List.set_cons_zero, List.set_cons_succ]
          refine wpAnyH_take (i := 5) (oi := { dst := some 58, op := Op.binOp BinOp.leq 3 (Operand.tmp 56) (Operand.tmp 57) 3, type := 4, pos := _, after := #[{ on := 3, ground := Ground.data }, { on := 4, ground := Ground.data }, { on := 2, ground := Ground.guard }], guard := some (2, false) }) (v := ?_) rfl (by kernel_rfl) (by kernel_rfl) (by kernel_rfl) (fun _ _ _ h => h) (Or.inl ⟨by rfl, ?_⟩) (by assumption) ?_
          rotate_left
          · (intro w hSw; obtain ⟨z0, z1, z2⟩ := hSw; (go_simp <;> with_reducible rfl))
          try simp only [Act.put, List.setIfInBounds_toArray, List.set_cons_zero, List.set_cons_succ]
          refine wpAnyH_take (i := 6) (oi := { dst := some 59, op := Op.pick (Operand.tmp 55) (Operand.const (Value.bool true)) (Operand.tmp 58), type := 4, pos := _, after := #[{ on := 2, ground := Ground.data }, { on := 5, ground := Ground.data }], guard := none }) (v := ?_) rfl (by kernel_rfl) (by kernel_rfl) (by kernel_rfl) (fun _ _ _ h => h) (Or.inl ⟨by rfl, ?_⟩) (by assumption) ?_
          rotate_left
          · (intro w hSw; obtain ⟨z0, z1, z2⟩ := hSw; (go_simp <;> with_reducible rfl))
          try simp only [Act.put, List.setIfInBounds_toArray, List.set_cons_zero, List.set_cons_succ]
          refine wpAnyH_take (i := 7) (oi := { dst := some 60, op := Op.move (Operand.tmp 59), type := 4, pos := _, after := #[{ on := 6, ground := Ground.data }, { on := 2, ground := Ground.chain }], guard := none }) (v := ?_) rfl (by kernel_rfl) (by kernel_rfl) (by kernel_rfl) (fun _ _ _ h => h) (Or.inl ⟨by rfl, ?_⟩) (by assumption) ?_
          rotate_left
          · (intro w hSw; obtain ⟨z0, z1, z2⟩ := hSw; (go_simp <;> with_reducible rfl))
          try simp only [Act.put, List.setIfInBounds_toArray, List.set_cons_zero, List.set_cons_succ]
          refine wpAnyH_take (i := 8) (oi := { dst := some 61, op := Op.fieldAddr 75 (Operand.tmp 8) 2, type := 0, pos := _, after := #[{ on := 7, ground := Ground.guard }], guard := some (7, false) }) (v := ?_) rfl (by kernel_rfl) (by kernel_rfl) (by kernel_rfl) (fun _ _ _ h => h) (Or.inl ⟨by rfl, ?_⟩) (by assumption) ?_
          rotate_left
          · (intro w hSw; obtain ⟨z0, z1, z2⟩ := hSw; (go_simp <;> with_reducible rfl))
          try simp only [Act.put, List.setIfInBounds_toArray, List.set_cons_zero, List.set_cons_succ]
          refine wpAnyH_take (i := 9) (oi := { dst := some 62, op := Op.load 3 (Operand.tmp 61), type := 3, pos := _, after := #[{ on := 8, ground := Ground.data }, { on := 7, ground := Ground.guard }], guard := some (7, false) }) (v := ?_) rfl (by kernel_rfl) (by kernel_rfl) (by kernel_rfl) (fun _ _ _ h => h) (Or.inl ⟨by rfl, ?_⟩) (by assumption) ?_
          rotate_left
          · (intro w hSw; obtain ⟨z0, z1, z2⟩ := hSw; (go_simp <;> with_reducible rfl))
          try simp only [Act.put, List.setIfInBounds_toArray, List.set_cons_zero, List.set_cons_succ]
          refine wpAnyH_take (i := 10) (oi := { dst := some 63, op := Op.binOp BinOp.eql 3 (Operand.tmp 62) (Operand.const (Value.int IntKind.i64 2)) 3, type := 4, pos := _, after := #[{ on := 9, ground := Ground.data }, { on := 7, ground := Ground.guard }], guard := some (7, false) }) (v := ?_) rfl (by kernel_rfl) (by kernel_rfl) (by kernel_rfl) (fun _ _ _ h => h) (Or.inl ⟨by rfl, ?_⟩) (by assumption) ?_
          rotate_left
          · (intro w hSw; obtain ⟨z0, z1, z2⟩ := hSw; (go_simp <;> with_reducible rfl))
          try simp only [Act.put, List.setIfInBounds_toArray, List.set_cons_zero, List.set_cons_succ]
          refine wpAnyH_take (i := 11) (oi := { dst := some 64, op := Op.move (Operand.tmp 63), type := 4, pos := _, after := #[{ on := 10, ground := Ground.data }, { on := 7, ground := Ground.chain }, { on := 7, ground := Ground.guard }], guard := some (7, false) }) (v := ?_) rfl (by kernel_rfl) (by kernel_rfl) (by kernel_rfl) (fun _ _ _ h => h) (Or.inl ⟨by rfl, ?_⟩) (by assumption) ?_
          rotate_left
          · (intro w hSw; obtain ⟨z0, z1, z2⟩ := hSw; (go_simp <;> with_reducible rfl))
          try simp only [Act.put, List.setIfInBounds_toArray, List.set_cons_zero, List.set_cons_succ]
          refine wpAnyH_take (i := 12) (oi := { dst := some 65, op := Op.move (Operand.tmp 4), type := 54, pos := _, after := #[{ on := 11, ground := Ground.guard }], guard := some (11, true) }) (v := ?_) rfl (by kernel_rfl) (by kernel_rfl) (by kernel_rfl) (fun _ _ _ h => h) (Or.inl ⟨by rfl, ?_⟩) (by assumption) ?_
          rotate_left
          · (intro w hSw; obtain ⟨z0, z1, z2⟩ := hSw; (go_simp <;> with_reducible rfl))
          try simp only [Act.put, List.setIfInBounds_toArray, List.set_cons_zero, List.set_cons_succ]
          refine wpAnyH_take (i := 13) (oi := { dst := some 66, op := Op.move (Operand.tmp 9), type := 3, pos := _, after := #[{ on := 11, ground := Ground.guard }], guard := some (11, true) }) (v := ?_) rfl (by kernel_rfl) (by kernel_rfl) (by kernel_rfl) (fun _ _ _ h => h) (Or.inl ⟨by rfl, ?_⟩) (by assumption) ?_
          rotate_left
          · (intro w hSw; obtain ⟨z0, z1, z2⟩ := hSw; (go_simp <;> with_reducible rfl))
          try simp only [Act.put, List.setIfInBounds_toArray, List.set_cons_zero, List.set_cons_succ]
          refine wpAnyH_take (i := 14) (oi := { dst := some 67, op := Op.indexAddr 54 (Operand.tmp 65) (Operand.tmp 66), type := 0, pos := _, after := #[{ on := 12, ground := Ground.data }, { on := 13, ground := Ground.data }, { on := 11, ground := Ground.guard }], guard := some (11, true) }) (v := ?_) rfl (by kernel_rfl) (by kernel_rfl) (by kernel_rfl) (fun _ _ _ h => h) (Or.inl ⟨by rfl, ?_⟩) (by assumption) ?_
          rotate_left
          · (intro w hSw; obtain ⟨z0, z1, z2⟩ := hSw; (go_simp <;> with_reducible rfl))
          try simp only [Act.put, List.setIfInBounds_toArray, List.set_cons_zero, List.set_cons_succ]
          refine wpAnyH_take (i := 15) (oi := { dst := some 68, op := Op.fieldAddr 33 (Operand.tmp 67) 1, type := 0, pos := _, after := #[{ on := 14, ground := Ground.data }, { on := 11, ground := Ground.guard }], guard := some (11, true) }) (v := ?_) rfl (by kernel_rfl) (by kernel_rfl) (by kernel_rfl) (fun _ _ _ h => h) (Or.inl ⟨by rfl, ?_⟩) (by assumption) ?_
          rotate_left
          · (intro w hSw; obtain ⟨z0, z1, z2⟩ := hSw; (go_simp <;> with_reducible rfl))
          try simp only [Act.put, List.setIfInBounds_toArray, List.set_cons_zero, List.set_cons_succ]
          refine wpAnyH_take (i := 16) (oi := { dst := some 69, op := Op.load 9 (Operand.tmp 68), type := 9, pos := _, after := #[{ on := 15, ground := Ground.data }, { on := 11, ground := Ground.guard }], guard := some (11, true) }) (v := ?_) rfl (by kernel_rfl) (by kernel_rfl) (by kernel_rfl) (fun _ _ _ h => h) (Or.inl ⟨by rfl, ?_⟩) (by assumption) ?_
          rotate_left
          · (intro w hSw; obtain ⟨z0, z1, z2⟩ := hSw; (go_simp <;> with_reducible rfl))
          try simp only [Act.put, List.setIfInBounds_toArray, List.set_cons_zero, List.set_cons_succ]
          refine wpAnyH_take (i := 17) (oi := { dst := some 70, op := Op.move (Operand.tmp 4), type := 54, pos := _, after := #[{ on := 11, ground := Ground.guard }], guard := some (11, true) }) (v := ?_) rfl (by kernel_rfl) (by kernel_rfl) (by kernel_rfl) (fun _ _ _ h => h) (Or.inl ⟨by rfl, ?_⟩) (by assumption) ?_
          rotate_left
          · (intro w hSw; obtain ⟨z0, z1, z2⟩ := hSw; (go_simp <;> with_reducible rfl))
          try simp only [Act.put, List.setIfInBounds_toArray, List.set_cons_zero, List.set_cons_succ]
          refine wpAnyH_take (i := 18) (oi := { dst := some 71, op := Op.move (Operand.tmp 10), type := 3, pos := _, after := #[{ on := 11, ground := Ground.guard }], guard := some (11, true) }) (v := ?_) rfl (by kernel_rfl) (by kernel_rfl) (by kernel_rfl) (fun _ _ _ h => h) (Or.inl ⟨by rfl, ?_⟩) (by assumption) ?_
          rotate_left
          · (intro w hSw; obtain ⟨z0, z1, z2⟩ := hSw; (go_simp <;> with_reducible rfl))
          try simp only [Act.put, List.setIfInBounds_toArray, List.set_cons_zero, List.set_cons_succ]
          refine wpAnyH_take (i := 19) (oi := { dst := some 72, op := Op.indexAddr 54 (Operand.tmp 70) (Operand.tmp 71), type := 0, pos := _, after := #[{ on := 17, ground := Ground.data }, { on := 18, ground := Ground.data }, { on := 11, ground := Ground.guard }], guard := some (11, true) }) (v := ?_) rfl (by kernel_rfl) (by kernel_rfl) (by kernel_rfl) (fun _ _ _ h => h) (Or.inl ⟨by rfl, ?_⟩) (by assumption) ?_
          rotate_left
          · (intro w hSw; obtain ⟨z0, z1, z2⟩ := hSw; (go_simp <;> with_reducible rfl))
          try simp only [Act.put, List.setIfInBounds_toArray, List.set_cons_zero, List.set_cons_succ]
          refine wpAnyH_take (i := 20) (oi := { dst := some 73, op := Op.fieldAddr 33 (Operand.tmp 72) 1, type := 0, pos := _, after := #[{ on := 19, ground := Ground.data }, { on := 11, ground := Ground.guard }], guard := some (11, true) }) (v := ?_) rfl (by kernel_rfl) (by kernel_rfl) (by kernel_rfl) (fun _ _ _ h => h) (Or.inl ⟨by rfl, ?_⟩) (by assumption) ?_
          rotate_left
          · (intro w hSw; obtain ⟨z0, z1, z2⟩ := hSw; (go_simp <;> with_reducible rfl))
          try simp only [Act.put, List.setIfInBounds_toArray, List.set_cons_zero, List.set_cons_succ]
          refine wpAnyH_take (i := 21) (oi := { dst := some 74, op := Op.load 9 (Operand.tmp 73), type := 9, pos := _, after := #[{ on := 20, ground := Ground.data }, { on := 11, ground := Ground.guard }], guard := some (11, true) }) (v := ?_) rfl (by kernel_rfl) (by kernel_rfl) (by kernel_rfl) (fun _ _ _ h => h) (Or.inl ⟨by rfl, ?_⟩) (by assumption) ?_
          rotate_left
          · (intro w hSw; obtain ⟨z0, z1, z2⟩ := hSw; (go_simp <;> with_reducible rfl))
          try simp only [Act.put, List.setIfInBounds_toArray, List.set_cons_zero, List.set_cons_succ]
          refine wpAnyH_take (i := 22) (oi := { dst := some 75, op := Op.binOp BinOp.neq 9 (Operand.tmp 69) (Operand.tmp 74) 9, type := 4, pos := _, after := #[{ on := 16, ground := Ground.data }, { on := 21, ground := Ground.data }, { on := 11, ground := Ground.guard }], guard := some (11, true) }) (v := ?_) rfl (by kernel_rfl) (by kernel_rfl) (by kernel_rfl) (fun _ _ _ h => h) (Or.inl ⟨by rfl, ?_⟩) (by assumption) ?_
          rotate_left
          · (intro w hSw; obtain ⟨z0, z1, z2⟩ := hSw; (go_simp <;> with_reducible rfl))
          try simp only [Act.put, List.setIfInBounds_toArray, List.set_cons_zero, List.set_cons_succ]
          refine wpAnyH_take (i := 23) (oi := { dst := some 76, op := Op.pick (Operand.tmp 64) (Operand.tmp 75) (Operand.const (Value.bool false)), type := 4, pos := _, after := #[{ on := 11, ground := Ground.data }, { on := 22, ground := Ground.data }, { on := 7, ground := Ground.guard }], guard := some (7, false) }) (v := ?_) rfl (by kernel_rfl) (by kernel_rfl) (by kernel_rfl) (fun _ _ _ h => h) (Or.inl ⟨by rfl, ?_⟩) (by assumption) ?_
          rotate_left
          · (intro w hSw; obtain ⟨z0, z1, z2⟩ := hSw; (go_simp <;> with_reducible rfl))
          try simp only [Act.put, List.setIfInBounds_toArray, List.set_cons_zero, List.set_cons_succ]
          refine wpAnyH_take (i := 24) (oi := { dst := some 77, op := Op.pick (Operand.tmp 60) (Operand.const (Value.bool true)) (Operand.tmp 76), type := 4, pos := _, after := #[{ on := 7, ground := Ground.data }, { on := 23, ground := Ground.data }], guard := none }) (v := ?_) rfl (by kernel_rfl) (by kernel_rfl) (by kernel_rfl) (fun _ _ _ h => h) (Or.inl ⟨by rfl, ?_⟩) (by assumption) ?_
          rotate_left
          · (intro w hSw; obtain ⟨z0, z1, z2⟩ := hSw; (go_simp <;> with_reducible rfl))
          try simp only [Act.put, List.setIfInBounds_toArray, List.set_cons_zero, List.set_cons_succ]
          refine wpAnyH_done (by kernel_rfl) ?_ _
          generalize w8.drew = wq at hBk hG8 hHeld ⊢
          have y2 : wq.cell? ⟨g8, 2, none⟩ = some (.int .i64 2) := hBk.cell 2
          clear hHeld
          go_wp2_with fail
          go_roundw
          case rel => exact ⟨k + 1, by omega, by go_num, hG8⟩
          case measure => have := HK.out; simp [intOf]; omega
      · obtain rfl : k = KA.length := by omega
        go_wp2_with fail
        refine (ready_c _).mono ?_; rintro e we ⟨rfl, hh2⟩
        go_wp2_with fail
        go_ret
        exact ⟨rfl, (hG.trans hGr).trans hh2⟩
  · have k1' : (haE L != 0) = true := by simpa using k1
    go_wp2_with fail
    refine (CCA.out _ hR).mono ?_; rintro e w5 ⟨rfl, hh⟩
    replace hG := hG.trans hh
    clear hh
    go_wp2_with fail
    refine (ready_c _).mono ?_; rintro e we ⟨rfl, hh2⟩
    go_wp2_with fail
    go_ret
    exact ⟨rfl, hG.trans hh2⟩
end Go.Proofs.YtdcofbciebkfkaaDoor

/- What the row's list of variables gives; a start that meets it. -/
namespace Go.Proofs.YtdcofbciebkfkaaDoor
open Go.ChangeShapes Go.WideShapes Go.ChangeAt Go.RowKit

theorem own : ownKnob Tryd.prog.godebug = none := by kernel_rfl
theorem c1 : Tryd.prog.cellsOf 3 = 1 := by kernel_rfl
def laidL : List (String × DataW Unit) := [("unicode/utf8.acceptRanges", Rows.laid_unicode_utf8_acceptRanges), ("unicode/utf8.first", Rows.laid_unicode_utf8_first)]
/-- A start that meets the list: what the door's run leaves, Go's own table laid by hand. -/
noncomputable def laidWorld (os : Os) : World :=
  { World.doorLaid Tryd.prog 200 os with heap := (World.doorLaid Tryd.prog 200 os).heap.modify 0 fun
      | .cells _ t fr => .cells (Lib.firstTab.map (Value.int .u8)).toArray t fr
      | o => o }
set_option maxRecDepth 100000 in
theorem laid_met (os : Os) : laidMetH Tryd.prog laidL ((laidWorld os).forCall (fun _ _ => 0) ⟨#[], #[.slice none 0 0], []⟩).memory :=
  laidMetH_of_parts3 (fuel := 8) (laidMet_of_run' 8 (by kernel_rfl) (by kernel_rfl)) (by kernel_rfl) (by kernel_rfl)

/-! ### The row's last step -/
section
variable {H : Type} {enc : TypeId × Value → H} {P : Program}
theorem post_quiet {f : Func} {s : ChangeSpec} {apart fresh handsOn again : Bool} {W W' : World} {args : Array Value} {v : Value} {ds gs : List (DataW H)} {before pa pv : List MemPlace}
    (hW : DataW.Whole enc P f.params.toList s.vars apart W args.toList ds gs before) (hg : G W W' none)
    (hres : ∀ (b : Nat) (sp : Nat → Bool) (hd : Bool), DataW.TrodAll enc P W' b sp hd f.resultTypes.toList (v.resultList f.resultTypes.size) (s.fn H (ds ++ gs)).results [])
    (hargs : ∀ sp : Nat → Bool, (∀ p ∈ before, sp p.block = true) → DataW.TrodAll enc P W' 0 sp true f.params.toList args.toList (s.fn H (ds ++ gs)).args pa)
    (hvars : ∀ sp : Nat → Bool, (∀ p ∈ before, sp p.block = true) → DataW.TrodVars enc P W' sp s.vars (s.fn H (ds ++ gs)).vars pv)
    (hps : before = pa ++ pv)
    (hok : ∀ (j : Nat) (t : TypeId) (r : Value), f.resultTypes[j]? = some t → (v.resultList f.resultTypes.size)[j]? = some r → Value.okWide P W' .any 0 t r) :
    s.post enc P f apart fresh handsOn again W args v W' := by
  have hb := hg.below
  have lt : ∀ p ∈ before, p.block < W.heap.size := fun p hp => hW.lt p hp
  have old : ∀ p ∈ before, (fun b => decide (b < W.heap.size)) p.block = true := fun p hp => decide_eq_true (lt p hp)
  have sub : ∀ p, p ∈ ([] ++ pa) ++ pv → p ∈ before := fun p hp => by rw [hps]; simpa using hp
  refine ⟨ds, gs, before, [], pa, pv, hW, hres _ _ _, hargs _ old, hvars _ old, World.keptBut_mono (fun p hp => ⟨hp, .inr (by rw [← List.mem_append, ← hps]; exact hp)⟩) (hb.frame (· ∈ before)), fun _ => ⟨hok, ?_⟩⟩
  obtain ⟨_, _, _, _, _, hz, hn⟩ := hW
  refine ⟨_, _, ([] ++ pa) ++ pv, ⟨[] ++ pa, pv, trodAll_append (hargs _ fun _ _ => rfl) (hres _ _ _), hvars _ fun _ _ => rfl, rfl, fun b off hp => ?_, fun ha => ?_⟩, fun p hp _ => sub p hp⟩
  · rw [hb.frozen (lt _ (sub _ hp))]
    exact hz b off (sub _ hp)
  · have h := hn ha
    rw [hps] at h
    simpa using h
end
theorem laidOut : laidOutB Tryd.prog = true := by kernel_rfl
theorem wf64 {n : Int} (h : (Lit.int .i64 n).wf = true) : -9223372036854775808 ≤ n ∧ n ≤ 9223372036854775807 := by
  have h1 : IntKind.i64.min = -9223372036854775808 := rfl
  have h2 : IntKind.i64.max = 9223372036854775807 := rfl
  simp only [Lit.wf, Bool.and_eq_true, decide_eq_true_eq] at h
  omega
set_option maxRecDepth 100000 in
theorem has_of_ok {W : World} {base : Nat} {a : Addr} {n c : Nat} (hok : Value.okWide Tryd.prog W .any base 22 (.slice (some a) n c)) : a.spot = none ∧ a.block < W.heap.size := by
  simp only [Value.okWide, Tryd.underlying22, Cell.okWide, Cell.ok] at hok
  obtain ⟨_, _, _, h2, row, cells, h3, _⟩ := hok
  refine ⟨h2, ?_⟩
  unfold World.shape? at h3
  cases hh : W.heap[a.block]? with
  | none => simp [hh] at h3
  | some o => exact (Array.getElem?_eq_some_iff.1 hh).1
set_option maxRecDepth 100000 in
/-- The list of numbers that came in, as the walk wants it. -/
theorem rd_of_trod {H : Type} {enc : TypeId × Value → H} {W : World} {base : Nat} {v : Value} {d : DataW H} {p : List MemPlace} (hok : Value.okWide Tryd.prog W .any base 22 v) (h : DataW.Trod enc Tryd.prog W 0 (fun _ => true) true 22 v d p) :
    ∃ (a : Option Addr) (n c : Nat) (zs : List Int), v = .slice a n c ∧ Rd W 1 (.slice a n c) n (zs.map (Value.int .i64)) ∧ ∀ z ∈ zs, -9223372036854775808 ≤ z ∧ z ≤ 9223372036854775807 := by
  obtain ⟨a0, len, cap, rfl⟩ := okWide_slice Tryd.underlying22 hok
  obtain ⟨fuel, hf⟩ := h
  rcases open_ints Tryd.underlying22 Tryd.underlying3 c1 hf with ⟨hcs, _⟩ | ⟨a, len', cap', zs, hcs, _, hl, hm, hz, _, hcell, hw⟩
  · have hcs' : [Value.slice a0 len cap] = [Value.slice none 0 0] := hcs
    injection hcs' with e _
    injection e with e1 e2 e3
    subst e1; subst e2; subst e3
    exact ⟨none, 0, 0, [], rfl, ⟨none, 0, rfl, Nat.le_refl _, Nat.zero_le _, rfl, fun _ => ⟨rfl, rfl⟩, fun b hb => by cases hb⟩, fun z hz => by cases hz⟩
  · have hcs' : [Value.slice a0 len cap] = [Value.slice (some a) len' cap'] := hcs
    injection hcs' with e _
    injection e with e1 e2 e3
    subst e1; subst e2; subst e3
    simp only [if_true] at hz
    obtain ⟨s1, s2⟩ := has_of_ok hok
    refine ⟨some a, len, cap, zs.take len, rfl, ⟨some a, cap, rfl, hl, hm, by simp; omega, (fun e => by cases e), fun b hb => ?_⟩, fun z hz' => wf64 (hw z (List.mem_of_mem_take hz'))⟩
    obtain rfl := Option.some.inj hb
    refine ⟨s1, s2, fun j u hj => ?_⟩
    rw [List.getElem?_map] at hj
    obtain ⟨z, hz1, rfl⟩ := Option.map_eq_some_iff.1 hj
    have hjl := (List.getElem?_eq_some_iff.1 hz1).1
    simp at hjl
    have hc := hcell j (by omega)
    have hz2 : zs[j]? = some z := by rw [← hz1, List.getElem?_take, if_pos (by omega)]
    rw [List.getD, hz2] at hc
    have ha : a.add j = ⟨a.block, a.off + j, none⟩ := by
      obtain ⟨ab, ao, asp⟩ := a
      dsimp only at s1
      subst s1
      exact add_at ab ao j
    rw [ha] at hc
    exact hc
end Go.Proofs.YtdcofbciebkfkaaDoor
