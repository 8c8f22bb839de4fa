/- Bkd, Odc, Ode, Rdy, Kpt, Lcl, Lan. -/
import Derived.Test.YtbddcbbjmgepnaaZl3
import Derived.Laws.StructEq
import Derived.Test.YtbddcbbjmgepnaaZl1
import Derived.Test.YtbddcbbjmgepnaaZl2
import Derived.Deep.CutRange
import Derived.Deep.RegionHeld3
import Derived.Test.YtbddcbbjmgepnaaRows
import Derived.LaidMore
import Derived.ChangeSame
import Derived.ProofKit
import Derived.OpenShut
import Derived.PinnedBridge
import Derived.Deep.DeepHandedRow
import Derived.Deep.DeepWitnessRowRef
/- The law's own 'booked': the odds of one booking. -/
namespace Go.Proofs.Ytbddcbbjmgepnaa
open Go.RowKit

def coE (l : List Bo) : Int := if boE l = 0 then (if 9 < l.length then 2 else 0) else boE l
set_option maxRecDepth 100000 in
set_option maxHeartbeats 1000000 in
theorem checkOdds_c (v : Value) (l : List Bo) (w : World) (hr : RdR w 6 boC v l) (hl : BoOk l) (hn : l.length ≤ 1000) :
    Calls Try.prog 51 #[v] w fun e w' => e = .returned (.int .i64 (coE l)) ∧ G w w' none := by
  have HR := Lib.hid hr
  obtain ⟨a, cap, rfl, hcap, hm⟩ := RdR.form hr
  clear hr
  go_enter Try.func51, Try.ntmps51
  go_wp2_with fail
  refine (checkForm_c _ l _ HR.out hl hn).mono ?_; rintro e w1 ⟨rfl, hG1⟩
  by_cases h0 : boE l = 0
  · have HE : Hid (coE l = if 9 < l.length then 2 else 0) := Lib.hid (by rw [coE, if_pos h0])
    rw [h0]
    clear h0
    by_cases h9 : 9 < l.length
    · have HF : Hid (coE l = 2) := Lib.hid (by rw [HE.out, if_pos h9])
      go_wp2_with fail
      go_ret
      exact ⟨by rw [HF.out]; rfl, hG1⟩
    · have HF : Hid (coE l = 0) := Lib.hid (by rw [HE.out, if_neg h9])
      go_wp2_with fail
      go_ret
      exact ⟨by rw [HF.out]; rfl, hG1⟩
  · have HF : Hid (coE l = boE l) := Lib.hid (by rw [coE, if_neg h0])
    have h0' : (boE l != 0) = true := by rw [bne_iff_ne]; exact h0
    clear h0
    generalize boE l = E at h0' HF ⊢
    go_wp2_with fail
    go_ret
    exact ⟨by rw [HF.out]; rfl, hG1⟩
def bo1 : Bo := (⟨#[97]⟩, ⟨#[99]⟩, 0, 1, 0, 50)
set_option maxRecDepth 100000 in
set_option maxHeartbeats 4000000 in
theorem casesOf1_c (w : World) (b : Nat) (h : Bk w b 110 (boC bo1)) :
    Calls Try.prog 52 #[.slice (some ⟨b, 0, none⟩) 1 1] w fun e w' => ∃ g, e = .returned (.tuple #[.slice (some ⟨g, 0, none⟩) 2 2, .int .i64 100]) ∧ Bk w' g 3 #[.int .i64 50, .int .i64 50] ∧ G w w' none := by
  have HA := Lib.hid h.at_
  have hb := h.lt
  have h1 := h.alloc (.cells #[.int .i64 1] 3)
  have hG1 := (G.refl w none).alloc (.cells #[.int .i64 1] 3)
  have hN1 := Bk.new w 3 #[.int .i64 1]
  have HA1 := Lib.hid h1.at_
  have hms : ∀ w : World, (Instr.makeSlice 22 (.int .i64 2) (.int .i64 2)).run Try.prog w = .ok (.slice (some ⟨w.heap.size, 0, none⟩) 2 2) (w.alloc (.cells #[.int .i64 0, .int .i64 0] 3)) := fun _ => by kernel_rfl
  clear h
  go_enter Try.func52, Try.ntmps52
  go_wp2_with fail
  refine wp_loop_rounds 2 ?_
  rw [rounds_succ]
  go_wp2_with (refine wpList_load_at rfl 110 _ rfl ⟨b, 0, none⟩ rfl #[.string ⟨#[97]⟩, .string ⟨#[99]⟩, .int .i64 0, .int .i64 1, .int .i64 0, .int .i64 50] _ HA1.out Try.underlying110 rfl (bo_info bo1) ?_)
  refine wp_loop_rounds 2 ?_
  rw [rounds_succ]
  go_wp2_with fail
  have hP : Bk (((w.alloc (.cells #[.int .i64 1] 3)).alloc (.cells #[.string ⟨#[97]⟩, .string ⟨#[99]⟩, .int .i64 0, .int .i64 1, .int .i64 0, .int .i64 50] 110)).alloc (.cells #[.int .i64 0, .int .i64 0] 3)) (w.heap.size + 1) 110 (boC bo1) := (Bk.newAt (w := w.alloc (.cells #[.int .i64 1] 3)) (b := w.heap.size + 1) (by simp) 110 (boC bo1)).alloc _
  have hN : Bk (((w.alloc (.cells #[.int .i64 1] 3)).alloc (.cells #[.string ⟨#[97]⟩, .string ⟨#[99]⟩, .int .i64 0, .int .i64 1, .int .i64 0, .int .i64 50] 110)).alloc (.cells #[.int .i64 0, .int .i64 0] 3)) (w.heap.size + 1 + 1) 3 #[.int .i64 0, .int .i64 0] := Bk.newAt (w := ((w.alloc (.cells #[.int .i64 1] 3)).alloc (.cells #[.string ⟨#[97]⟩, .string ⟨#[99]⟩, .int .i64 0, .int .i64 1, .int .i64 0, .int .i64 50] 110))) (b := w.heap.size + 1 + 1) (by simp) 3 #[.int .i64 0, .int .i64 0]
  have hO : Bk (((w.alloc (.cells #[.int .i64 1] 3)).alloc (.cells #[.string ⟨#[97]⟩, .string ⟨#[99]⟩, .int .i64 0, .int .i64 1, .int .i64 0, .int .i64 50] 110)).alloc (.cells #[.int .i64 0, .int .i64 0] 3)) w.heap.size 3 #[.int .i64 1] := ((Bk.new w 3 #[.int .i64 1]).alloc _).alloc _
  have hG : G w (((w.alloc (.cells #[.int .i64 1] 3)).alloc (.cells #[.string ⟨#[97]⟩, .string ⟨#[99]⟩, .int .i64 0, .int .i64 1, .int .i64 0, .int .i64 50] 110)).alloc (.cells #[.int .i64 0, .int .i64 0] 3)) none := (((G.refl w none).alloc _).alloc _).alloc _
  clear h1 hG1 hN1 HA HA1
  generalize (((w.alloc (.cells #[.int .i64 1] 3)).alloc (.cells #[.string ⟨#[97]⟩, .string ⟨#[99]⟩, .int .i64 0, .int .i64 1, .int .i64 0, .int .i64 50] 110)).alloc (.cells #[.int .i64 0, .int .i64 0] 3)) = w4 at hP hN hO hG ⊢
  have p5 : w4.cell? ⟨w.heap.size + 1, 5, none⟩ = some (.int .i64 50) := hP.cell 5
  have n0 : w4.cell? ⟨w.heap.size + 1 + 1, 0, none⟩ = some (.int .i64 0) := hN.cell 0
  have f0 : w4.frozen? ⟨w.heap.size + 1 + 1, 0, none⟩ = false := hN.free 0
  go_still_tail 11, (by kernel_rfl)
  change wpList _ _ _ _ _ w4.drew
  have hPd := hP.quiet ((G.refl w4 none).drew)
  have hOd := hO.quiet ((G.refl w4 none).drew)
  have hNd := hN.quiet ((G.refl w4 none).drew)
  have hGd := hG.drew
  clear hP hN hO hG p5 n0 f0
  generalize w4.drew = w5 at hPd hOd hNd hGd ⊢
  have n0 : w5.cell? ⟨w.heap.size + 1 + 1, 0, none⟩ = some (.int .i64 0) := hNd.cell 0
  have f0 : w5.frozen? ⟨w.heap.size + 1 + 1, 0, none⟩ = false := hNd.free 0
  have hN : Bk (w5.setCell ⟨w.heap.size + 1 + 1, 0, none⟩ (.int .i64 50)) (w.heap.size + 1 + 1) 3 #[.int .i64 50, .int .i64 0] := hNd.set 0 _
  have hP := hPd.far (p := ⟨w.heap.size + 1 + 1, 0, none⟩) (show w.heap.size + 1 ≠ w.heap.size + 1 + 1 by omega) (.int .i64 50)
  have hG := hGd.setCell (p := ⟨w.heap.size + 1 + 1, 0, none⟩) (.inl (show w.heap.size ≤ w.heap.size + 1 + 1 by omega)) (.int .i64 50)
  clear hPd hNd hOd hGd
  go_wp2_with fail
  generalize w5.setCell ⟨w.heap.size + 1 + 1, 0, none⟩ (.int .i64 50) = w6 at hP hN hG ⊢
  have p5 : w6.cell? ⟨w.heap.size + 1, 5, none⟩ = some (.int .i64 50) := hP.cell 5
  have n1 : w6.cell? ⟨w.heap.size + 1 + 1, 1, none⟩ = some (.int .i64 0) := hN.cell 1
  have hw1 : IntKind.i64.wrap 1 = 1 := by decide
  have f1 : w6.frozen? ⟨w.heap.size + 1 + 1, 1, none⟩ = false := hN.free 1
  go_still_tail 11, (by kernel_rfl)
  change wpList _ _ _ _ _ w6.drew
  have hNd := hN.quiet ((G.refl w6 none).drew)
  have hGd := hG.drew
  clear hP hN hG p5 n1 f1
  generalize w6.drew = w7 at hNd hGd ⊢
  have n1 : w7.cell? ⟨w.heap.size + 1 + 1, 1, none⟩ = some (.int .i64 0) := hNd.cell 1
  have f1 : w7.frozen? ⟨w.heap.size + 1 + 1, 1, none⟩ = false := hNd.free 1
  have hN : Bk (w7.setCell ⟨w.heap.size + 1 + 1, 1, none⟩ (.int .i64 50)) (w.heap.size + 1 + 1) 3 #[.int .i64 50, .int .i64 50] := hNd.set 1 _
  have hG := hGd.setCell (p := ⟨w.heap.size + 1 + 1, 1, none⟩) (.inl (show w.heap.size ≤ w.heap.size + 1 + 1 by omega)) (.int .i64 50)
  clear hNd hGd
  go_wp2_with fail
  rw [rounds_succ]
  go_wp2_with fail
  rw [rounds_succ]
  go_wp2_with fail
  go_ret2
  exact ⟨_, rfl, hN, hG⟩
theorem bo1_ok : boB bo1 := ⟨small_of (by decide), small_of (by decide), by unfold bnd bo1; dsimp only; omega, by unfold bnd bo1; dsimp only; omega, by unfold bnd bo1; dsimp only; omega, by unfold bnd bo1; dsimp only; omega⟩
theorem coE_one : coE [bo1] = 0 := by
  have h1 : boE [bo1] = 0 := by
    show boErr ⟨#[]⟩ [bo1] = 0
    unfold boErr bo1
    dsimp only
    rw [if_neg (by rw [show keyB ⟨#[97]⟩ = true by decide]; decide), if_neg (by rw [show keyB ⟨#[99]⟩ = true by decide]; decide), if_neg (by rw [leB_cmp]; decide), if_neg (by decide)]
    rfl
  rw [coE, if_pos h1, if_neg (by decide)]
/-! A row of fractions that the call owns. -/
abbrev Fr := Int × Int
def frV (x : Fr) : Array Value := frC x.1 x.2
theorem frV_sz (x : Fr) : (frV x).size = 2 := rfl
abbrev OwnFr (w : World) (base : Nat) (v : Value) (l : List Fr) : Prop := w.ownsRow base 101 2 v l.length (rowL frV l)
theorem fr_row : (Try.prog.info? 101).map (fun i => (i.zero, i.size, i.bytes)) = some (some (.agg (frC 0 0)), 2, 16) := by kernel_rfl
theorem frV_one (r : Fr) : ∀ u ∈ (frV r).toList, u.oneCell' = true := by
  intro u hu
  simp [frV, frC] at hu
  rcases hu with rfl | rfl <;> rfl
theorem wp_append_fr {w : World} {o : Oper} {a : Act} {K : Act → World → Prop} {Q : Exit → Act → World → Prop} (s x : Operand)
    (ho : o.op = .call { callee := .builtin .append, args := #[s, x], argTypes := #[66, 66] }) (base : Nat) (v : Value) (l : List Fr) (hs : a.eval s = v) (hown : OwnFr w base v l)
    (g : Nat) (r : Fr) (hx : a.eval x = .slice (some ⟨g, 0, none⟩) 1 1) (hb : Bk w g 101 (frV r)) (hl : l.length ≤ 1000) (hbase : base ≤ w.heap.size)
    (hK : ∀ v' w', OwnFr w' base v' (l ++ [r]) → w.grownBy w' v.ownBlock → K (a.put o.dst v') w') : o.wp Try.prog a w K Q := by
  obtain ⟨i0, hi, hz0, hz1, hz2⟩ := info_parts fr_row
  refine wp_append_own w s x 66 ho base 101 i0 _ 2 16 Try.underlying66 hi hz0 hz1 hz2 rfl (by decide) v l.length (rowL frV l) hs hown ⟨g, 0, none⟩ 1 1 (frV r).toList hx rfl hb.at_ (frV_one r) (by unfold maxLen; omega) (by omega) hbase ?_
  intro v' w' h1 h2 _
  refine hK v' w' ?_ h2
  unfold OwnFr
  rw [List.length_append, rowL_snoc]
  exact h1
theorem OwnFr.alloc {w : World} {base : Nat} {v : Value} {l : List Fr} (h : OwnFr w base v l) (o : Obj) : OwnFr (w.alloc o) base v l := World.ownsRow.alloc h o
theorem OwnFr.quiet {w w' : World} {base : Nat} {v : Value} {l : List Fr} (h : OwnFr w base v l) (hg : G w w' none) : OwnFr w' base v l :=
  World.ownsRow.kept h hg (Classical.em _)
set_option maxRecDepth 100000 in
set_option maxHeartbeats 4000000 in
theorem spread1_c (w : World) (b : Nat) (h : Bk w b 110 (boC bo1)) :
    Calls Try.prog 26 #[.slice (some ⟨b, 0, none⟩) 1 1] w fun e w' => ∃ v, e = .returned (.tuple #[v, .int .i64 0]) ∧ OwnFr w' w.heap.size v [(1, 2), (1, 2)] ∧ G w w' none := by
  go_enter Try.func26, Try.ntmps26
  go_wp2_with fail
  refine (checkOdds_c _ [bo1] _ (RdR.one h) (BoOk.one bo1_ok) (one_len bo1)).mono ?_; rintro e w1 ⟨rfl, hG1⟩
  rw [coE_one]
  have h1 := h.quiet hG1
  go_wp2_with fail
  refine (casesOf1_c _ b h1).mono ?_; rintro e w2 ⟨g, rfl, hN2, hG2⟩
  have hG02 := hG1.trans hG2
  clear hG1 hG2 h h1
  have c0 : w2.cell? ⟨g, 0, none⟩ = some (.int .i64 50) := hN2.cell 0
  go_wp2_with fail
  refine wp_loop_rounds 3 ?_
  rw [rounds_succ]
  go_wp2_with fail
  refine (lowest_c 50 100 _ (by omega) (by omega) (by omega)).mono ?_; rintro e w3 ⟨rfl, hG3⟩
  rw [show frC ((50 / Nat.gcd 100 50 : Nat) : Int) ((100 / Nat.gcd 100 50 : Nat) : Int) = #[.int .i64 1, .int .i64 2] by rfl]
  have hN3 := (hN2.quiet hG3).alloc (.cells #[.int .i64 1, .int .i64 2] 101)
  have hG03 := (hG02.trans hG3).alloc (.cells #[.int .i64 1, .int .i64 2] 101)
  have hz3 := hG03.size
  clear hN2 hG02 hG3 c0
  go_wp2_with (at_builtin; refine wpList_plain rfl fun K' hK' => wp_append_fr _ _ rfl w.heap.size (.slice none 0 0) [] rfl (World.ownsRow_nil _ _ _ _) w3.heap.size (1, 2) rfl (Bk.new w3 _ _) (by simp) hz3 ?_; intro v1 w4 hown1 hgrow1; refine hK' _ _ ?_)
  have hN4 := hN3.quiet hgrow1
  have hG04 := hG03.trans hgrow1
  clear hN3 hG03 hz3 hgrow1
  have c1 : w4.cell? ⟨g, 1, none⟩ = some (.int .i64 50) := hN4.cell 1
  rw [rounds_succ]
  go_wp2_with fail
  refine (lowest_c 50 100 _ (by omega) (by omega) (by omega)).mono ?_; rintro e w5 ⟨rfl, hG5⟩
  rw [show frC ((50 / Nat.gcd 100 50 : Nat) : Int) ((100 / Nat.gcd 100 50 : Nat) : Int) = #[.int .i64 1, .int .i64 2] by rfl]
  have hown2 := (hown1.quiet hG5).alloc (.cells #[.int .i64 1, .int .i64 2] 101)
  have hG05 := (hG04.trans hG5).alloc (.cells #[.int .i64 1, .int .i64 2] 101)
  have hz5 := hG05.size
  clear hN4 hG04 hG5 c1 hown1
  go_wp2_with (at_builtin; refine wpList_plain rfl fun K' hK' => wp_append_fr _ _ rfl w.heap.size v1 [(1, 2)] rfl hown2 w5.heap.size (1, 2) rfl (Bk.new w5 _ _) (by simp) hz5 ?_; intro v2 w6 hown3 hgrow2; refine hK' _ _ ?_)
  have hG06 := hG05.other hgrow2 (fun j e => .inl (World.ownsRow.lt hown2 j e).1)
  rw [rounds_succ]
  go_wp2_with fail
  go_ret2
  exact ⟨_, rfl, hown3, hG06⟩
theorem fr_neq (x y : Fr) (w : World) : (binOp .neq 101 (.agg (frV x)) (.agg (frV y))).run Try.prog w = .ok (.bool (!(decide (x = y)))) w := by
  obtain ⟨a, b⟩ := x
  obtain ⟨c, d⟩ := y
  have ht : Try.prog.underlying 101 = some (.struct (Try.prog.fieldsOf 101)) := by kernel_rfl
  have hp : Try.prog.stoodInHeld 101 = false := by kernel_rfl
  rw [run_neq_struct, run_equalIn_agg w 9999 101 _ _ ht hp]
  simp [frV, frC, Try.underlying101, Try.underlying3, go_sem]
  by_cases h1 : a = c <;> by_cases h2 : b = d <;> simp [h1, h2]
def EqfRel (l m : List Fr) (w : World) (i : Value) (wr : World) : Prop := ∃ k n : Nat, k ≤ l.length ∧ i = .int .i64 k ∧ l.take k = m.take k ∧ wr = w.drewN n
theorem take_succ_eq {l m : List Fr} {k : Nat} {x : Fr} (h : l.take k = m.take k) (hx : l[k]? = some x) (hy : m[k]? = some x) : l.take (k + 1) = m.take (k + 1) := by
  rw [List.take_add_one, List.take_add_one, h, hx, hy]
end Go.Proofs.Ytbddcbbjmgepnaa

/- Odds: casesOf, for any bookings that are right. -/
namespace Go.Proofs.Ytbddcbbjmgepnaa
open Go.RowKit

def pcs (l : List Bo) : List Int := l.map fun x => x.2.2.2.2.2
def PcOk (l : List Bo) : Prop := ∀ p ∈ pcs l, 0 ≤ p ∧ p ≤ 100
theorem pow_le (k : Nat) (h : k ≤ 9) : (100 : Int) ^ k ≤ 1000000000000000000 := by
  have : k = 0 ∨ k = 1 ∨ k = 2 ∨ k = 3 ∨ k = 4 ∨ k = 5 ∨ k = 6 ∨ k = 7 ∨ k = 8 ∨ k = 9 := by omega
  rcases this with rfl | rfl | rfl | rfl | rfl | rfl | rfl | rfl | rfl | rfl <;> decide
theorem pow_pos100 (k : Nat) : (0 : Int) < 100 ^ k := Int.pow_pos (by omega)
theorem made_ints (n : Nat) : madeCells (Value.cells (.int .i64 0)) n = ic (List.replicate n 0) := by
  apply Array.ext
  · simp [madeCells, ic]
  · intro k h1 h2
    simp [madeCells, ic, Value.cells, Nat.mod_one]
theorem make_ints (n : Nat) (hn : n ≤ 1000) (w : World) : (Instr.makeSlice 22 (.int .i64 (n : Int)) (.int .i64 (n : Int))).run Try.prog w = .ok (.slice (some ⟨w.heap.size, 0, none⟩) n n) (w.alloc (.cells (ic (List.replicate n 0)) 3)) := by
  obtain ⟨i0, hi, hz0, hz1, hz2⟩ := info_parts (show (Try.prog.info? 3).map (fun i => (i.zero, i.size, i.bytes)) = some (some (.int .i64 0), 1, 8) by kernel_rfl)
  have h := run_make (P := Try.prog) w 22 3 i0 (.int .i64 0) Try.underlying22 hi hz0 .i64 .i64 n n (by omega) (by omega) (by rw [hz2]; omega) (by omega)
  rw [h, hz1, Int.toNat_natCast, Nat.mul_one, made_ints]
theorem take_le {c : List Int} (h : NN c) (j : Nat) : (c.take j).sum ≤ c.sum := by
  induction c generalizing j with
  | nil => simp
  | cons x r ih =>
    have h1 := h x (List.mem_cons_self ..)
    have hr : NN r := fun y hy => h y (List.mem_cons_of_mem _ hy)
    cases j with
    | zero =>
      have := hr.sum
      simp only [List.take_zero, List.sum_nil, List.sum_cons]
      omega
    | succ j =>
      have := ih hr j
      simp only [List.take_succ_cons, List.sum_cons]
      omega
theorem nx_bnds {c : List Int} {p P : Int} {j : Nat} (cn : NN c) (p0 : 0 ≤ p) (p1 : p ≤ 100) (hj : j < c.length) (hs : c.sum = P) :
    0 ≤ c.getD j 0 ∧ (0 ≤ c.getD j 0 * (100 - p) ∧ c.getD j 0 * (100 - p) ≤ P * 100) ∧ (0 ≤ c.getD j 0 * p ∧ c.getD j 0 * p ≤ P * 100) ∧
    (0 ≤ (nx c p j).getD j 0 ∧ (nx c p j).getD j 0 + c.getD j 0 * (100 - p) ≤ P * 100) ∧ (0 ≤ (nx c p j).getD (j + 1) 0 ∧ (nx c p j).getD (j + 1) 0 + c.getD j 0 * p ≤ P * 100) := by
  have h1 := cn.getD j
  have hn := nx_nn cn p0 p1 j
  have h2 := hn.le_sum j
  have h3 := hn.le_sum (j + 1)
  have h4 := nx_sum c p j (by omega)
  have h5 := take_sum c j hj
  have h6 := take_le cn (j + 1)
  have h7 := hn.getD j
  have h8 := hn.getD (j + 1)
  have m1 := Int.mul_nonneg h1 (show 0 ≤ 100 - p by omega)
  have m2 := Int.mul_nonneg h1 p0
  have m3 : c.getD j 0 * (100 - p) + c.getD j 0 * p = 100 * c.getD j 0 := by rw [← Int.mul_add]; rw [show (100 - p + p : Int) = 100 by omega, Int.mul_comm]
  have h9 := (show NN (c.take j) from fun x hx => cn x (List.mem_of_mem_take hx)).sum
  omega
def CoRelO (w : World) (l : List Bo) (s4 s5 s14 : Value) (wr : World) : Prop :=
  ∃ (k g : Nat), k ≤ l.length ∧ s14 = .int .i64 k ∧ s4 = .slice (some ⟨g, 0, none⟩) (k + 1) (k + 1) ∧ s5 = .int .i64 (100 ^ k) ∧ Bk wr g 3 (ic (cas ((pcs l).take k))) ∧ w.heap.size ≤ g ∧ G w wr none
def CoRelI (w : World) (c : List Int) (p : Int) (n g g2 gb : Nat) (x : Bo) (s24 : Value) (wr : World) : Prop :=
  ∃ j : Nat, j ≤ n ∧ s24 = .int .i64 j ∧ Bk wr g 3 (ic c) ∧ Bk wr g2 3 (ic (nx c p j)) ∧ Bk wr gb 110 (boC x) ∧ G w wr none
set_option maxRecDepth 100000 in
set_option maxHeartbeats 8000000 in
theorem casesOf_c (v : Value) (l : List Bo) (w : World) (hr : RdR w 6 boC v l) (hn : l.length ≤ 9) (hp : PcOk l) :
    Calls Try.prog 52 #[v] w fun e w' => ∃ g, e = .returned (.tuple #[.slice (some ⟨g, 0, none⟩) (l.length + 1) (l.length + 1), .int .i64 (100 ^ l.length)]) ∧ Bk w' g 3 (ic (cas (pcs l))) ∧ w.heap.size ≤ g ∧ G w w' none := by
  have HR := Lib.hid hr
  have HPC := Lib.hid hp
  obtain ⟨ad, cap, rfl, hcap, hm⟩ := RdR.form hr
  clear hr hp
  go_enter Try.func52, Try.ntmps52
  go_wp2_with fail
  go_loopw [4, 5, 14] (CoRelO w l) (fun _ _ i _ => l.length - (intOf i).toNat)
  case atStart => exact ⟨0, w.heap.size, by omega, rfl, rfl, rfl, Bk.new w _ _, Nat.le_refl _, (G.refl _ _).alloc _⟩
  case round =>
    obtain ⟨k, g, hkl, rfl, rfl, rfl, hB, hgw, hG⟩ := hrel
    by_cases hlt : k < l.length
    · obtain ⟨x, hx⟩ : ∃ x, l[k]? = some x := ⟨_, List.getElem?_eq_getElem hlt⟩
      have hpx : (pcs l)[k]? = some x.2.2.2.2.2 := by unfold pcs; rw [List.getElem?_map, hx]; rfl
      obtain ⟨p0, p1⟩ := HPC.out _ (List.mem_of_getElem? hpx)
      have hps : (pcs l).take (k + 1) = (pcs l).take k ++ [x.2.2.2.2.2] := by
        have hk' : k < (pcs l).length := (List.getElem?_eq_some_iff.1 hpx).1
        rw [List.take_succ_eq_append_getElem hk', (List.getElem?_eq_some_iff.1 hpx).2]
      obtain ⟨cl, cn, cs⟩ := cas_ok ((pcs l).take k) (fun q hq => HPC.out q (List.mem_of_mem_take hq))
      have htl : ((pcs l).take k).length = k := by rw [List.length_take]; unfold pcs; rw [List.length_map]; omega
      rw [htl] at cl cs
      have HC : Hid (cas ((pcs l).take (k + 1)) = nx (cas ((pcs l).take k)) x.2.2.2.2.2 (k + 1)) := Lib.hid (by rw [hps, cas_snoc, cl])
      obtain ⟨bb, bo, rfl, hbb, _⟩ := RdR.elem boC_sz HR.out hG hx
      have HW := Lib.hid (boRow HR.out hG hx)
      have hms : ∀ w : World, (Instr.makeSlice 22 (.int .i64 ((k : Int) + 1 + 1)) (.int .i64 ((k : Int) + 1 + 1))).run Try.prog w = .ok (.slice (some ⟨w.heap.size, 0, none⟩) (k + 1 + 1) (k + 1 + 1)) (w.alloc (.cells (ic (List.replicate (k + 1 + 1) 0)) 3)) := fun w => make_ints (k + 1 + 1) (by omega) w
      have hgl := hB.lt
      have hBx := Bk.new wr 110 (boC x)
      have hB1 := hB.alloc (.cells (boC x) 110)
      have hG1 := hG.alloc (.cells (boC x) 110)
      have hP9 := pow_le k (by omega)
      have hP10 := pow_le (k + 1) (by omega)
      have hPs : (100 : Int) ^ (k + 1) = 100 ^ k * 100 := Int.pow_succ ..
      have hPp := pow_pos100 k
      obtain ⟨P, hPd⟩ : ∃ P : Int, (100 : Int) ^ k = P := ⟨_, rfl⟩
      have HPd := Lib.hid hPd
      have HPs := Lib.hid hPs
      rw [hPs] at hP10
      rw [hPd] at cs hP9 hP10 hPp ⊢
      clear hx hpx hps hPd hPs hB hG htl
      obtain ⟨c, hc⟩ : ∃ c, cas ((pcs l).take k) = c := ⟨_, rfl⟩
      rw [hc] at cl cn cs HC hB1
      clear hc
      go_wp2_with (refine wpList_load_at rfl 110 _ rfl ⟨bb, bo + k * 6, none⟩ rfl #[.string x.1, .string x.2.1, .int .i64 x.2.2.1, .int .i64 x.2.2.2.1, .int .i64 x.2.2.2.2.1, .int .i64 x.2.2.2.2.2] _ HW.out Try.underlying110 rfl (bo_info x) ?_)
      have hX4 : Bk ((wr.alloc (.cells #[.string x.1, .string x.2.1, .int .i64 x.2.2.1, .int .i64 x.2.2.2.1, .int .i64 x.2.2.2.2.1, .int .i64 x.2.2.2.2.2] 110)).alloc (.cells (ic (List.replicate (k + 1 + 1) 0)) 3)) wr.heap.size 110 (boC x) := (Bk.new wr 110 (boC x)).alloc _
      have hN4 : Bk ((wr.alloc (.cells #[.string x.1, .string x.2.1, .int .i64 x.2.2.1, .int .i64 x.2.2.2.1, .int .i64 x.2.2.2.2.1, .int .i64 x.2.2.2.2.2] 110)).alloc (.cells (ic (List.replicate (k + 1 + 1) 0)) 3)) (wr.heap.size + 1) 3 (ic (nx c x.2.2.2.2.2 0)) := by
        have h := Bk.newAt (w := (wr.alloc (.cells #[.string x.1, .string x.2.1, .int .i64 x.2.2.1, .int .i64 x.2.2.2.1, .int .i64 x.2.2.2.2.1, .int .i64 x.2.2.2.2.2] 110))) (b := wr.heap.size + 1) (by simp) 3 (ic (List.replicate (k + 1 + 1) 0))
        have e : nx c x.2.2.2.2.2 0 = List.replicate (k + 1 + 1) 0 := by unfold nx; rw [cl]
        rw [e]
        exact h
      have hB4 : Bk ((wr.alloc (.cells #[.string x.1, .string x.2.1, .int .i64 x.2.2.1, .int .i64 x.2.2.2.1, .int .i64 x.2.2.2.2.1, .int .i64 x.2.2.2.2.2] 110)).alloc (.cells (ic (List.replicate (k + 1 + 1) 0)) 3)) g 3 (ic c) := hB1.alloc _
      have hG4 : G w ((wr.alloc (.cells #[.string x.1, .string x.2.1, .int .i64 x.2.2.1, .int .i64 x.2.2.2.1, .int .i64 x.2.2.2.2.1, .int .i64 x.2.2.2.2.2] 110)).alloc (.cells (ic (List.replicate (k + 1 + 1) 0)) 3)) none := hG1.alloc _
      clear hBx hB1 hG1 hms HW
      generalize ((wr.alloc (.cells #[.string x.1, .string x.2.1, .int .i64 x.2.2.1, .int .i64 x.2.2.2.1, .int .i64 x.2.2.2.2.1, .int .i64 x.2.2.2.2.2] 110)).alloc (.cells (ic (List.replicate (k + 1 + 1) 0)) 3)) = w4 at hX4 hN4 hB4 hG4 ⊢
      generalize wr.heap.size = gb at hX4 hN4 hgl ⊢
      go_loopw [24] (CoRelI w c x.2.2.2.2.2 (k + 1) g (gb + 1) gb x) (fun i _ => k + 1 - (intOf i).toNat)
      case atStart => exact ⟨0, by omega, rfl, hB4, hN4, hX4, hG4⟩
      case round =>
        clear hX4 hN4 hB4 hG4
        obtain ⟨j, hjk, rfl, hB, hN, hX, hG⟩ := hrel
        by_cases hj : j < k + 1
        · obtain ⟨b0, ⟨b1, b2⟩, ⟨b3, b4⟩, ⟨b5, b6⟩, b7, b8⟩ := nx_bnds cn p0 p1 (show j < c.length by omega) cs
          have hcj : World.cell? _ ⟨g, j, none⟩ = some (.int .i64 (c.getD j 0)) := (hB.cell j).trans (ic_at c j (by omega))
          have ha0 : World.cell? _ ⟨gb + 1, j, none⟩ = some (.int .i64 ((nx c x.2.2.2.2.2 j).getD j 0)) := (hN.cell j).trans (ic_at _ j (by rw [nx_len]; omega))
          have hp5 : World.cell? _ ⟨gb, 5, none⟩ = some (.int .i64 x.2.2.2.2.2) := hX.cell 5
          have fr0 := hN.free j
          have HNX : Hid (nx c x.2.2.2.2.2 (j + 1) = ((nx c x.2.2.2.2.2 j).set j ((nx c x.2.2.2.2.2 j).getD j 0 + c.getD j 0 * (100 - x.2.2.2.2.2))).set (j + 1) ((nx c x.2.2.2.2.2 j).getD (j + 1) 0 + c.getD j 0 * x.2.2.2.2.2)) := Lib.hid rfl
          have HL := Lib.hid (nx_len c x.2.2.2.2.2 j)
          have HIC : Hid (∀ (m : List Int), m.length = k + 1 + 1 → (ic m)[j + 1]? = some (.int .i64 (m.getD (j + 1) 0))) := Lib.hid fun m hm => ic_at m (j + 1) (by omega)
          have HGD : Hid (∀ v : Int, ((nx c x.2.2.2.2.2 j).set j v).getD (j + 1) 0 = (nx c x.2.2.2.2.2 j).getD (j + 1) 0) := Lib.hid fun v => gdset_ne _ _ _ _ (by omega)
          obtain ⟨A0, hA0⟩ : ∃ A0, (nx c x.2.2.2.2.2 j).getD j 0 = A0 := ⟨_, rfl⟩
          obtain ⟨A1, hA1⟩ : ∃ A1, (nx c x.2.2.2.2.2 j).getD (j + 1) 0 = A1 := ⟨_, rfl⟩
          obtain ⟨C, hC⟩ : ∃ C, c.getD j 0 = C := ⟨_, rfl⟩
          rw [hA0, hC] at HNX
          rw [hA1] at HNX HGD
          rw [hA0] at ha0 b5 b6
          rw [hA1] at b7 b8
          rw [hC] at hcj b0 b1 b2 b3 b4 b6 b8
          have hw1 : IntKind.i64.wrap (100 - x.2.2.2.2.2) = 100 - x.2.2.2.2.2 := by rw [IntKind.wrap_i64]; omega
          obtain ⟨M1, hM1⟩ : ∃ M1, C * (100 - x.2.2.2.2.2) = M1 := ⟨_, rfl⟩
          obtain ⟨M2, hM2⟩ : ∃ M2, C * x.2.2.2.2.2 = M2 := ⟨_, rfl⟩
          have hw2 : IntKind.i64.wrap (C * (100 - x.2.2.2.2.2)) = M1 := by rw [hM1, IntKind.wrap_i64]; omega
          have hw4 : IntKind.i64.wrap (C * x.2.2.2.2.2) = M2 := by rw [hM2, IntKind.wrap_i64]; omega
          rw [hM1] at b6 HNX
          rw [hM2] at b8 HNX
          obtain ⟨V1, hV1⟩ : ∃ V1, A0 + M1 = V1 := ⟨_, rfl⟩
          obtain ⟨V2, hV2⟩ : ∃ V2, A1 + M2 = V2 := ⟨_, rfl⟩
          have hw3 : IntKind.i64.wrap (A0 + M1) = V1 := by rw [hV1, IntKind.wrap_i64]; omega
          have hw5 : IntKind.i64.wrap (A1 + M2) = V2 := by rw [hV2, IntKind.wrap_i64]; omega
          rw [hV1, hV2] at HNX
          have hj0 : (0 : Int) ≤ (j : Int) := by omega
          have hj1 : (j : Int) < (k : Int) + 1 := by omega
          have hj2 : (j : Int) < (k : Int) + 1 + 1 := by omega
          have hj3 : (j : Int) + 1 < (k : Int) + 1 + 1 := by omega
          have hj4 : (0 : Int) ≤ (j : Int) + 1 := by omega
          have hwj : IntKind.i64.wrap ((j : Int) + 1) = (j : Int) + 1 := by rw [IntKind.wrap_i64]; omega
          have hjt : ((j : Int) + 1).toNat = j + 1 := by omega
          have hgg : g ≠ gb + 1 := by omega
          have hwg : w.heap.size ≤ gb + 1 := by omega
          clear hA0 hA1 hC hM1 hM2 hV1 hV2 b0 b1 b2 b3 b4 b5 b6 b7 b8
          go_wp2_with fail
          go_still_tail 11, (by kernel_rfl)
          change wpList _ _ _ _ _ wr.drew
          have hBd := hB.quiet ((G.refl wr none).drew)
          have hNd := hN.quiet ((G.refl wr none).drew)
          have hXd := hX.quiet ((G.refl wr none).drew)
          have hGd := hG.drew
          have ha0d : wr.drew.cell? ⟨gb + 1, j, none⟩ = some (.int .i64 A0) := ha0
          clear hB hN hX hG hcj ha0 hp5 fr0
          generalize wr.drew = w5 at hBd hNd hXd hGd ha0d ⊢
          have fr5 := hNd.free j
          have hN6 : Bk (w5.setCell ⟨gb + 1, j, none⟩ (.int .i64 V1)) (gb + 1) 3 (ic ((nx c x.2.2.2.2.2 j).set j V1)) := by
            have h := hNd.set j (.int .i64 V1)
            rw [ic_set] at h
            exact h
          have hB6 := hBd.far (p := ⟨gb + 1, j, none⟩) hgg (.int .i64 V1)
          have hX6 := hXd.far (p := ⟨gb + 1, j, none⟩) (show gb ≠ gb + 1 by omega) (.int .i64 V1)
          have hG6 := hGd.setCell (p := ⟨gb + 1, j, none⟩) (.inl hwg) (.int .i64 V1)
          clear hBd hNd hXd hGd
          go_wp2_with fail
          generalize w5.setCell ⟨gb + 1, j, none⟩ (.int .i64 V1) = w6 at hN6 hB6 hX6 hG6 ⊢
          have ha1 : w6.cell? ⟨gb + 1, j + 1, none⟩ = some (.int .i64 A1) := by
            rw [hN6.cell, HIC.out _ (by rw [List.length_set, HL.out, cl]), HGD.out]
          have hp5 : w6.cell? ⟨gb, 5, none⟩ = some (.int .i64 x.2.2.2.2.2) := hX6.cell 5
          have fr6 := hN6.free (j + 1)
          clear ha0d fr5
          go_still_tail 11, (by kernel_rfl)
          change wpList _ _ _ _ _ w6.drew
          have hBd := hB6.quiet ((G.refl w6 none).drew)
          have hNd := hN6.quiet ((G.refl w6 none).drew)
          have hXd := hX6.quiet ((G.refl w6 none).drew)
          have hGd := hG6.drew
          have ha1d : w6.drew.cell? ⟨gb + 1, j + 1, none⟩ = some (.int .i64 A1) := ha1
          clear hB6 hN6 hX6 hG6 ha1 hp5 fr6
          generalize w6.drew = w7 at hBd hNd hXd hGd ha1d ⊢
          have fr7 := hNd.free (j + 1)
          have hN8 : Bk (w7.setCell ⟨gb + 1, j + 1, none⟩ (.int .i64 V2)) (gb + 1) 3 (ic (nx c x.2.2.2.2.2 (j + 1))) := by
            have h := hNd.set (j + 1) (.int .i64 V2)
            rw [ic_set, ← HNX.out] at h
            exact h
          have hB8 := hBd.far (p := ⟨gb + 1, j + 1, none⟩) hgg (.int .i64 V2)
          have hX8 := hXd.far (p := ⟨gb + 1, j + 1, none⟩) (show gb ≠ gb + 1 by omega) (.int .i64 V2)
          have hG8 := hGd.setCell (p := ⟨gb + 1, j + 1, none⟩) (.inl hwg) (.int .i64 V2)
          clear hBd hNd hXd hGd
          go_wp2_with fail
          go_roundw
          case rel => exact ⟨j + 1, by omega, by go_num, hB8, hN8, hX8, hG8⟩
          case measure => simp [intOf]; omega
        · obtain rfl : j = k + 1 := by omega
          have hnj : ¬ (((k + 1 : Nat) : Int) < ((k + 1 : Nat) : Int)) := by omega
          have hnj2 : ¬ ((k : Int) + 1 < (k : Int) + 1) := by omega
          go_wp2_with fail
          go_roundw
          case rel => exact ⟨k + 1, gb + 1, by omega, by go_num, rfl, by rw [HPs.out, HPd.out], by rw [HC.out]; exact hN, by omega, hG⟩
          case measure => simp [intOf]; omega
    · obtain rfl : k = l.length := by omega
      have hB2 : Bk wr g 3 (ic (cas (pcs l))) := by
        have := hB
        rw [List.take_of_length_le (by unfold pcs; rw [List.length_map]; omega)] at this
        exact this
      go_wp2_with fail
      go_ret2
      exact ⟨g, rfl, hB2, hgw, hG⟩
end Go.Proofs.Ytbddcbbjmgepnaa

/- Odds: Spread, over, checkUnits, Over, for any bookings. -/
namespace Go.Proofs.Ytbddcbbjmgepnaa
open Go.RowKit

/-- A fraction in lowest terms. -/
def lowF (n d : Int) : Fr := (((n.toNat / Nat.gcd d.toNat n.toNat : Nat) : Int), ((d.toNat / Nat.gcd d.toNat n.toNat : Nat) : Int))
theorem lowest_i (n d : Int) (w : World) (n0 : 0 ≤ n) (hn : n ≤ 1000000000000000000) (d0 : 0 < d) (hd : d ≤ 1000000000000000000) :
    Calls Try.prog 53 #[.int .i64 n, .int .i64 d] w fun e w' => e = .returned (.agg (frV (lowF n d))) ∧ G w w' none := by
  obtain ⟨a, rfl⟩ := Int.eq_ofNat_of_zero_le n0
  obtain ⟨b, rfl⟩ := Int.eq_ofNat_of_zero_le (Int.le_of_lt d0)
  exact lowest_c a b w (by omega) (by omega) (by omega)
theorem boErr_pct {l : List Bo} : ∀ {b : ByteArray}, boErr b l = 0 → PcOk l := by
  induction l with
  | nil => intro b _ p hp; cases hp
  | cons y r ih =>
    intro b h
    unfold boErr at h
    split at h
    · exact absurd h (by decide)
    · split at h
      · exact absurd h (by decide)
      · split at h
        · exact absurd h (by decide)
        · split at h
          · exact absurd h (by decide)
          · rename_i h4
            intro p hp
            rcases List.mem_cons.1 (show p ∈ y.2.2.2.2.2 :: pcs r from hp) with rfl | hp
            · simp only [boT, inB, Bool.not_eq_false, Bool.and_eq_true, decide_eq_true_eq] at h4
              omega
            · exact ih h p hp
theorem coE_ok {l : List Bo} (h : coE l = 0) : PcOk l ∧ l.length ≤ 9 := by
  unfold coE at h
  split at h
  · rename_i h1
    split at h
    · exact absurd h (by decide)
    · refine ⟨?_, by omega⟩
      unfold boE at h1
      split at h1
      · exact absurd h1 (by decide)
      · exact boErr_pct h1
  · rename_i h1; exact absurd h h1
def spL (l : List Bo) : List Fr := (cas (pcs l)).map fun n => lowF n (100 ^ l.length)
theorem map_take_snoc {α β : Type} (f : α → β) {c : List α} {k : Nat} {x : α} (h : c[k]? = some x) : (c.take (k + 1)).map f = (c.take k).map f ++ [f x] := by
  have hk : k < c.length := (List.getElem?_eq_some_iff.1 h).1
  rw [List.take_succ_eq_append_getElem hk, (List.getElem?_eq_some_iff.1 h).2, List.map_append]
  rfl
def SpreadPost (l : List Bo) (w : World) (e : Ending) (w' : World) : Prop := ∃ u m, e = .returned (.tuple #[u, .int .i64 (coE l)]) ∧ RdR w' 2 frV u m ∧ m = (if coE l = 0 then spL l else []) ∧ G w w' none
def SpRel (w : World) (c : List Int) (H : Int) (g : Nat) (s7 s22 : Value) (wr : World) : Prop :=
  ∃ k : Nat, k ≤ c.length ∧ s22 = .int .i64 k ∧ OwnFr wr (g + 1) s7 ((c.take k).map fun n => lowF n H) ∧ Bk wr g 3 (ic c) ∧ w.heap.size ≤ g ∧ G w wr none
set_option maxRecDepth 100000 in
set_option maxHeartbeats 4000000 in
theorem spread_c (v : Value) (l : List Bo) (w : World) (hr : RdR w 6 boC v l) (hl : BoOk l) (hn : l.length ≤ 1000) :
    Calls Try.prog 26 #[v] w (SpreadPost l w) := by
  have HR := Lib.hid hr
  obtain ⟨ad, cap, rfl, hcap, hm⟩ := RdR.form hr
  clear hr
  go_enter Try.func26, Try.ntmps26
  go_wp2_with fail
  refine (checkOdds_c _ l _ HR.out hl hn).mono ?_; rintro e w1 ⟨rfl, hG1⟩
  by_cases h0 : coE l = 0
  · obtain ⟨hp, h9⟩ := coE_ok h0
    have HM : Hid ((if coE l = 0 then spL l else []) = (cas (pcs l)).map fun n => lowF n (100 ^ l.length)) := Lib.hid (by rw [if_pos h0]; rfl)
    have HZ := Lib.hid h0
    obtain ⟨cl, cn, cs⟩ := cas_ok (pcs l) hp
    have hpl : (pcs l).length = l.length := by unfold pcs; rw [List.length_map]
    rw [hpl] at cl cs
    have hH1 := pow_le l.length h9
    have hH0 := pow_pos100 l.length
    rw [h0]
    clear h0 hpl
    go_wp2_with fail
    refine (casesOf_c _ l _ (HR.out.quiet hG1) h9 hp).mono ?_; rintro e w2 ⟨g, rfl, hB2, hgw, hG2⟩
    have hG02 := hG1.trans hG2
    have hgw2 : w.heap.size ≤ g := Nat.le_trans hG1.size hgw
    clear hG1 hG2 hgw hp
    obtain ⟨c, hc⟩ : ∃ c, cas (pcs l) = c := ⟨_, rfl⟩
    obtain ⟨H, hH⟩ : ∃ H : Int, (100 : Int) ^ l.length = H := ⟨_, rfl⟩
    rw [hc, hH] at HM
    rw [hc] at cl cn cs hB2
    rw [hH] at cs hH1 hH0 ⊢
    clear hc hH
    go_wp2_with fail
    go_loopw [7, 22] (SpRel w c H g) (fun _ i _ => c.length - (intOf i).toNat)
    case atStart => exact ⟨0, by omega, rfl, World.ownsRow_nil _ _ _ _, hB2, hgw2, hG02⟩
    case round =>
      clear hB2 hgw2 hG02
      obtain ⟨k, hkc, rfl, hown, hB, hgw, hG⟩ := hrel
      by_cases hlt : k < l.length + 1
      · have hck : c[k]? = some (c.getD k 0) := by simp [List.getD, show k < c.length by omega]
        have hcell : wr.cell? ⟨g, k, none⟩ = some (.int .i64 (c.getD k 0)) := (hB.cell k).trans (ic_at c k (by omega))
        have HT : Hid ((c.take (k + 1)).map (fun n => lowF n H) = (c.take k).map (fun n => lowF n H) ++ [lowF (c.getD k 0) H]) := Lib.hid (map_take_snoc _ hck)
        have e0 := cn.getD k
        have e1 := cn.le_sum k
        have hkt : ((c.take k).map fun n => lowF n H).length ≤ 1000 := by rw [List.length_map, List.length_take]; omega
        have hki : (k : Int) < (l.length : Int) + 1 := by omega
        clear hck
        obtain ⟨x, hx⟩ : ∃ x, c.getD k 0 = x := ⟨_, rfl⟩
        rw [hx] at hcell HT e0 e1
        clear hx
        go_wp2_with fail
        refine (lowest_i x H _ e0 (by omega) hH0 hH1).mono ?_; rintro e w3 ⟨rfl, hG3⟩
        obtain ⟨F, hF⟩ : ∃ F, lowF x H = F := ⟨_, rfl⟩
        rw [hF] at HT ⊢
        clear hF
        rw [show frV F = #[.int .i64 F.1, .int .i64 F.2] from rfl]
        have hB3 := (hB.quiet hG3).alloc (.cells #[.int .i64 F.1, .int .i64 F.2] 101)
        have hown3 := (hown.quiet hG3).alloc (.cells #[.int .i64 F.1, .int .i64 F.2] 101)
        have hG03 := (hG.trans hG3).alloc (.cells #[.int .i64 F.1, .int .i64 F.2] 101)
        have hz3 := hB3.lt
        have hob := fun r e => (World.ownsRow.lt hown3 r e).1
        have hne : some g ≠ u7.ownBlock := fun e => by have := hob g e.symm; omega
        clear hB hown hG hG3 hcell
        go_wp2_with (at_builtin; refine wpList_plain rfl fun K' hK' => wp_append_fr _ _ rfl (g + 1) u7 _ rfl hown3 w3.heap.size F rfl (Bk.new w3 _ _) hkt hz3 ?_; intro v1 w4 hown4 hgrow; refine hK' _ _ ?_)
        go_roundw
        case rel => exact ⟨k + 1, by omega, by go_num, by rw [HT.out]; exact hown4, hB3.grown hgrow hne, hgw, hG03.other hgrow (fun r e => .inl (by have := hob r e; omega))⟩
        case measure => simp [intOf]; omega
      · obtain rfl : k = c.length := by omega
        have hnk : ¬ ((c.length : Int) < (l.length : Int) + 1) := by omega
        have hq : (c.take c.length).map (fun n => lowF n H) = c.map fun n => lowF n H := by rw [List.take_length]
        rw [hq] at hown
        clear hq
        go_wp2_with fail
        go_ret2
        exact ⟨_, _, by rw [HZ.out]; rfl, Rd.of_owns hown, HM.out.symm, hG⟩
  · have HZ : Hid ((if coE l = 0 then spL l else []) = []) := Lib.hid (by rw [if_neg h0])
    have h0' : (coE l != 0) = true := by rw [bne_iff_ne]; exact h0
    obtain ⟨E, hE⟩ : ∃ E, coE l = E := ⟨_, rfl⟩
    have HE := Lib.hid hE
    rw [hE] at h0' ⊢
    clear h0 hE
    go_wp2_with fail
    go_ret2
    exact ⟨_, [], by rw [HE.out]; rfl, RdR.nil _ _ _, HZ.out.symm, hG1⟩
end Go.Proofs.Ytbddcbbjmgepnaa

/- ready: the packages do something. -/
namespace Go.Proofs.Ytbddcbbjmgepnaa
open Go.RowKit

def hS1 : Nat → Int := fun i => if i = 1 then 9 else 0
theorem hS1_B : HB hS1 := fun j => by unfold hS1; split <;> omega
theorem at1 : atE ⟨#[115]⟩ hS1 8 = 0 := by decide +kernel
theorem op1 : isOpenR ⟨#[115]⟩ hS1 8 = true := by decide +kernel
theorem t1441 : tE 0 1441 = 0 ∧ tN 0 1441 = 2 := by decide +kernel
theorem isOpen1_c (w : World) : Calls Try.prog 10 #[.agg #[.string ⟨#[115]⟩, .int .i64 0, .int .i64 9, .int .i64 0, .int .i64 0, .int .i64 0, .int .i64 0, .int .i64 0, .int .i64 0, .int .i64 0, .int .i64 0, .int .i64 0, .int .i64 0, .int .i64 0, .int .i64 0], .int .i64 8] w fun e w' => e = .returned (.tuple #[.bool true, .int .i64 0]) ∧ G w w' none := by
  have := isOpen_c ⟨#[115]⟩ hS1 8 w (by decide) hS1_B
  rw [at1, op1] at this
  exact this
theorem days1_c (w : World) : Calls Try.prog 25 #[.agg #[.int .i64 0, .int .i64 1441]] w fun e w' => e = .returned (.tuple #[.int .i64 2, .int .i64 0]) ∧ G w w' none := by
  have := days_c 0 1441 w (by unfold bnd; omega) (by unfold bnd; omega)
  rw [t1441.1, t1441.2] at this
  exact this
theorem spread0_c (w : World) : Calls Try.prog 26 #[.slice none 0 0] w fun e w' => ∃ a c, e = .returned (.tuple #[.slice a 1 c, .int .i64 0]) ∧ G w w' none := by
  refine (spread_c (.slice none 0 0) [] w (RdR.nil _ _ _) (fun _ h => by cases h) (by simp)).mono ?_
  rintro e w' ⟨u, m, rfl, hr, hm, hG⟩
  have h0 : coE [] = 0 := rfl
  have hm1 : m = [(1, 1)] := by rw [hm, if_pos h0]; decide +kernel
  subst hm1
  obtain ⟨a, c, rfl, -, -⟩ := RdR.form hr
  exact ⟨a, c, by rw [h0]; rfl, hG⟩
set_option maxRecDepth 100000 in
set_option maxHeartbeats 4000000 in
theorem ready_c (w : World) : Calls Try.prog 8 #[] w fun e w' => e = .returned (.bool true) ∧ G w w' none := by
  go_enter Try.func8, Try.ntmps8
  go_wp2_with fail
  refine (days1_c _).mono ?_; rintro e w1 ⟨rfl, hG1⟩
  go_wp2_with fail
  refine (isOpen1_c _).mono ?_; rintro e w2 ⟨rfl, hG2⟩
  have hG02 := hG1.trans hG2
  clear hG1 hG2
  go_wp2_with fail
  refine (spread0_c _).mono ?_; rintro e w3 ⟨a, c, rfl, hG3⟩
  have hG03 := hG02.trans hG3
  clear hG02 hG3
  go_wp2_with fail
  refine (start1_c _).mono ?_; rintro e w4 ⟨a2, c2, rfl, hG4⟩
  have hG04 := hG03.trans hG4
  clear hG03 hG4
  go_wp2_with fail
  go_ret
  exact ⟨rfl, hG04.alloc _⟩
end Go.Proofs.Ytbddcbbjmgepnaa

/- Facts that stand while only some blocks are written. No program of its own. -/
namespace Go.Proofs.Ytbddcbbjmgepnaa
open Go.RowKit

theorem Rd.gs {S : Nat → Prop} {w w' : World} {z : Nat} {v : Value} {n : Nat} {cs : List Value} (h : Rd w z v n cs) (hg : GS S w w') (hs : ∀ k, v.ownBlock = some k → ¬ S k) : Rd w' z v n cs :=
  h.of_eq fun b hb hlt => ⟨Nat.lt_of_lt_of_le hlt hg.size, hg.block b hlt (hs b hb)⟩
/-- A fact that stands while only blocks of S are written. -/
def KS (S : Nat → Prop) (w : World) (P : World → Prop) : Prop := ∀ w', GS S w w' → P w'
theorem GS.refl (S : Nat → Prop) (w : World) : GS S w w := GS.of_G (G.refl _ _)
theorem KS.now {S : Nat → Prop} {w : World} {P : World → Prop} (h : KS S w P) : P w := h w (GS.refl _ _)
theorem KS.step {S : Nat → Prop} {w w' : World} {P : World → Prop} (h : KS S w P) (hG : GS S w w') : KS S w' P := fun _ hg => h _ (hG.trans hg)
theorem KS.and {S : Nat → Prop} {w : World} {P Q : World → Prop} (h : KS S w P) (k : KS S w Q) : KS S w (fun w => P w ∧ Q w) := fun w' hg => ⟨h w' hg, k w' hg⟩
theorem KS.bk {S : Nat → Prop} {w : World} {g : Nat} {T : TypeId} {cs : Array Value} (h : Bk w g T cs) (hg : ¬ S g) : KS S w (fun w => Bk w g T cs) := fun _ hG => h.gs hG hg
theorem KS.rd {S : Nat → Prop} {w : World} {z n : Nat} {v : Value} {cs : List Value} (h : Rd w z v n cs) (hb : ∀ k, v.ownBlock = some k → ¬ S k) : KS S w (fun w => Rd w z v n cs) := fun _ hG => h.gs hG hb
/-- The stream's block, and what was made since. -/
def Snew (s N : Nat) (k : Nat) : Prop := k = s ∨ N ≤ k
theorem GS.stream {s N : Nat} {w w' : World} (h : G w w' (some s)) : GS (Snew s N) w w' := GS.of_Gs h (.inl rfl)
theorem GS.row {s N : Nat} {w : World} {g : Nat} (hg : N ≤ g) (cs : Array Value) : GS (Snew s N) w (w.setRow g cs) := GS.of_Gs ((G.refl w (some g)).setRow (.inr rfl) cs) (.inr hg)
theorem GS.cell {s N : Nat} {w : World} {p : Addr} (hg : N ≤ p.block) (u : Value) : GS (Snew s N) w (w.setCell p u) := GS.of_Gs ((G.refl w (some p.block)).setCell (.inr rfl) u) (.inr hg)
/-- The stream alone was there, of what was written. -/
theorem GS.toG {s N : Nat} {A a b : World} (hA : G A a (some s)) (h : GS (Snew s N) a b) (hN : A.heap.size ≤ N) : G A b (some s) :=
  ⟨h.os.trans hA.os, h.tape.trans hA.tape, h.output.trans hA.output, Nat.le_trans hA.size h.size, fun k hk hne => (h.block k (Nat.lt_of_lt_of_le hk hA.size) (fun e => by
    rcases e with e | e
    · exact hne (by rw [e])
    · omega)).trans (hA.block k hk hne)⟩
theorem SB.gs {s N K : Nat} {w w' : World} (h : SB w s K) (hg : G w w' none) : SB w' s K := h.quiet hg
end Go.Proofs.Ytbddcbbjmgepnaa

/- The law LaterCostsMore. Its drawn region is written by genlcl.py. -/
namespace Go.Proofs.Ytbddcbbjmgepnaa
open Go.RowKit

abbrev lmC (a : Option Addr) (c : Nat) : Array Value := #[.string ⟨#[104, 49]⟩, .string ⟨#[97, 110, 110]⟩, .int .i64 100, .int .i64 1000, .slice a 1 c]
theorem lm_info (a : Option Addr) (c : Nat) : (Try.prog.info? 46).map (·.size) = some (lmC a c).size := hi_info lmH (.slice a 1 c)
theorem lm_oneC (a : Option Addr) (c : Nat) : (lmC a c).all (·.oneCell') = true := hi_one lmH a 1 c
/-- A fact that stands while nothing but the stream's block is written. -/
def Kp (s : Nat) (w : World) (P : World → Prop) : Prop := ∀ w', G w w' (some s) → P w'
theorem Kp.now {s : Nat} {w : World} {P : World → Prop} (h : Kp s w P) : P w := h w (G.refl _ _)
theorem Kp.step {s : Nat} {w w' : World} {P : World → Prop} (h : Kp s w P) (hG : G w w' (some s)) : Kp s w' P := fun _ hg => h _ (hG.trans hg)
theorem Kp.quiet {s : Nat} {w w' : World} {P : World → Prop} (h : Kp s w P) (hG : G w w' none) : Kp s w' P := h.step (hG.but _)
theorem Kp.and {s : Nat} {w : World} {P Q : World → Prop} (h : Kp s w P) (k : Kp s w Q) : Kp s w (fun w => P w ∧ Q w) := fun w' hg => ⟨h w' hg, k w' hg⟩
theorem Kp.bk {s : Nat} {w : World} {g : Nat} {T : TypeId} {cs : Array Value} (h : Bk w g T cs) (hg : s < g) : Kp s w (fun w => Bk w g T cs) := fun _ hG => h.grown hG (fun e => by have := Option.some.inj e; omega)
theorem Kp.rd {s : Nat} {w : World} {z n : Nat} {v : Value} {cs : List Value} (h : Rd w z v n cs) (hb : ∀ k, v.ownBlock = some k → s < k) : Kp s w (fun w => Rd w z v n cs) := fun _ hG => h.grown hG (fun k e hk => by cases e; have := hb _ hk; omega)
set_option maxRecDepth 100000 in
set_option maxHeartbeats 8000000 in
theorem laterCostsMore_c (a : Option Addr) (n c : Nat) (zs : List Int) (W : World) (hr : Rd W 1 (.slice a n c) n (zs.map (Value.int .i64))) (hz : ∀ z ∈ zs, -9223372036854775808 ≤ z ∧ z ≤ 9223372036854775807) :
    Calls Try.prog 4 #[.slice a n c] W fun e W' => e = .returned (.bool true) ∧ G W W' none := by
  have hSB : SB (W.alloc (.cells #[.slice a n c, .int .i64 0] 25)) W.heap.size 0 := by
    have hB := Bk.new W 25 #[.slice a n c, .int .i64 0]
    refine ⟨0, a, n, c, zs, Nat.le_refl _, hr.quiet ((G.refl _ _).alloc _), fun b e => ?_, hz, hB.cell 0, hB.cell 1, hB.free 1, hB.lt⟩
    obtain ⟨a', c', e', r1, r2, r3, r4, r5⟩ := hr
    cases e'
    exact (r5 b e).2.1
  have hG0 : G W (W.alloc (.cells #[.slice a n c, .int .i64 0] 25)) (some W.heap.size) := (G.refl _ _).alloc _
  clear hr hz
  go_enter Try.func4, Try.ntmps4
  go_wp2_with fail
  refine (rightDeal_c _ W.heap.size 0 hSB (by omega)).mono ?_; rintro e w1 ⟨x, rfl, hx, hSB1, hG1⟩
  have CB := Lib.hid (lmBill_c x hx)
  have CT := Lib.hid (lmTotal_c x hx)
  have HLE := Lib.hid (lmE_less hx)
  have hG01 := hG0.trans hG1
  have hs1 := hSB1.lt
  clear hSB hG0 hG1
  obtain ⟨a0, a1, a2, a3, a4, a5, a6⟩ := x
  rw [show deC ⟨a0, a1, a2, a3, a4, a5, a6⟩ = #[.int .i64 a0, .int .i64 a1, .int .i64 a2, .int .i64 a3, .int .i64 a4, .int .i64 a5, .int .i64 a6] from rfl] at *
  have hSB2 := hSB1.alloc (.cells #[.int .i64 a0, .int .i64 a1, .int .i64 a2, .int .i64 a3, .int .i64 a4, .int .i64 a5, .int .i64 a6] 42)
  have hN2 := Kp.bk (Bk.new w1 42 #[.int .i64 a0, .int .i64 a1, .int .i64 a2, .int .i64 a3, .int .i64 a4, .int .i64 a5, .int .i64 a6]) hs1
  have hG02 := hG01.alloc (.cells #[.int .i64 a0, .int .i64 a1, .int .i64 a2, .int .i64 a3, .int .i64 a4, .int .i64 a5, .int .i64 a6] 42)
  clear hSB1 hG01 hx
  go_upto_region 3 with fail
  generalize w1.alloc (.cells #[.int .i64 a0, .int .i64 a1, .int .i64 a2, .int .i64 a3, .int .i64 a4, .int .i64 a5, .int .i64 a6] 42) = w2 at hSB2 hN2 hG02 ⊢
  generalize w1.heap.size = g1 at hN2 hs1 ⊢
  go_wp2_with fail
  refine (lmStart_c _).mono ?_; rintro e w3 ⟨p1, c1, rfl, hR3, hb3, hG3⟩
  have hs2 := hSB2.lt
  have hSB3 := hSB2.quiet hG3
  have hs3 := hSB3.lt
  have hO3 := fun k e => Nat.lt_of_lt_of_le hs2 (hb3 k e)
  have hG03 := hG02.trans0 hG3
  have hK3 := (hN2.quiet hG3).and (Kp.rd hR3 hO3)
  have hSB4 := hSB3.alloc (.cells (lmC p1 c1) 46)
  have hK4 := (hK3.quiet ((G.refl w3 none).alloc (.cells (lmC p1 c1) 46))).and (Kp.bk (Bk.new w3 46 (lmC p1 c1)) hs3)
  have hG04 := hG03.alloc (.cells (lmC p1 c1) 46)
  have HO1 := Lib.hid hO3
  clear hSB2 hSB3 hN2 hK3 hG02 hG03 hG3 hR3 hb3 hO3 hs2
  go_upto_region 4 with fail
  generalize w3.alloc (.cells (lmC p1 c1) 46) = w4 at hSB4 hK4 hG04 ⊢
  generalize w3.heap.size = g2 at hK4 hs3 ⊢
  go_wp2_with fail
  refine (range_c 101 5000 _ _ _ hSB4 (by omega) (by omega) (by omega) (by omega)).mono ?_; rintro e w5 ⟨t, rfl, t0, t1, hSB5, hG5⟩
  have hK5 := hK4.step hG5
  have hG05 := hG04.trans hG5
  clear hSB4 hK4 hG04 hG5
  go_wp2_with fail
  refine (range_c 0 2000 _ _ _ hSB5 (by omega) (by omega) (by omega) (by omega)).mono ?_; rintro e w6 ⟨m, rfl, m0, m1, hSB6, hG6⟩
  have hK6 := hK5.step hG6
  have hG06 := hG05.trans hG6
  clear hSB5 hK5 hG05 hG6
  go_wp2_with fail
  refine (range_c 1 8 _ _ _ hSB6 (by omega) (by omega) (by omega) (by omega)).mono ?_; rintro e w7 ⟨f, rfl, f0, f1, hSB7, hG7⟩
  have hK7 := hK6.step hG7
  have hG07 := hG06.trans hG7
  clear hSB6 hK6 hG06 hG7
  go_wp2_with (refine wpList_load_row rfl 46 _ rfl g2 rfl 46 (lmC p1 c1) (0, 0) _ hK7.now.2 Try.underlying46 rfl (lm_info _ _) ?_)
  refine (lmClose_c p1 c1 t m f _ (by omega) (by omega) (by omega) (by omega) (by omega) (by omega) hK7.now.1.2).mono ?_; rintro e w8 ⟨p2, c2, rfl, hR8, hb8, hG8⟩
  have hs7 := hSB7.lt
  have hSB8 := hSB7.quiet hG8
  have hs8 := hSB8.lt
  have hG08 := hG07.trans0 hG8
  have hK8 := (hK7.quiet hG8).and (Kp.rd hR8 (fun k e => Nat.lt_of_lt_of_le hs7 (hb8 k e)))
  have HO2 := Lib.hid (fun k e => Nat.lt_of_lt_of_le hs7 (hb8 k e))
  have hSB9 := hSB8.alloc (.cells (lmC p2 c2) 46)
  have hK9 := (hK8.quiet ((G.refl w8 none).alloc (.cells (lmC p2 c2) 46))).and (Kp.bk (Bk.new w8 46 (lmC p2 c2)) hs8)
  have hG09 := hG08.alloc (.cells (lmC p2 c2) 46)
  clear hSB7 hSB8 hK7 hK8 hG07 hG08 hG8 hR8 hb8 hs7
  go_upto_region 6 with fail
  generalize w8.alloc (.cells (lmC p2 c2) 46) = w9 at hSB9 hK9 hG09 ⊢
  generalize w8.heap.size = g3 at hK9 hs8 ⊢
  have hO : KS (Snew W.heap.size w9.heap.size) w9 (fun w => (((Bk w g1 42 #[.int .i64 a0, .int .i64 a1, .int .i64 a2, .int .i64 a3, .int .i64 a4, .int .i64 a5, .int .i64 a6] ∧ RdR w 9 lgC (.slice p1 1 c1) (lmL noIn)) ∧ Bk w g2 46 (lmC p1 c1)) ∧ RdR w 9 lgC (.slice p2 1 c2) (lmL (t, lmS, m, f))) ∧ Bk w g3 46 (lmC p2 c2)) := by
    obtain ⟨⟨⟨⟨q1, q2⟩, q3⟩, q4⟩, q5⟩ := hK9.now
    refine ((((KS.bk q1 ?_).and (KS.rd q2 ?_)).and (KS.bk q3 ?_)).and (KS.rd q4 ?_)).and (KS.bk q5 ?_)
    · rintro (e | e)
      · omega
      · have := q1.lt; omega
    · rintro k hk (e | e)
      · have := HO1.out k hk; omega
      · have := Rd.blk q2 k hk; omega
    · rintro (e | e)
      · omega
      · have := q3.lt; omega
    · rintro k hk (e | e)
      · have := HO2.out k hk; omega
      · have := Rd.blk q4 k hk; omega
    · rintro (e | e)
      · omega
      · have := q5.lt; omega
  have hlt9 := hSB9.lt
  clear hK9 HO1 HO2
  have HO := Lib.hid hO
  clear hO
  go_cut [12, 13] from 22 (fun s12 s13 w => ∃ (d1 d2 d3 : Int) (p3 : Option Addr) (c3 g4 : Nat), (0 ≤ d1 ∧ d1 ≤ 3000 ∧ 0 ≤ d2 ∧ d2 ≤ 500 ∧ 0 ≤ d3 ∧ d3 ≤ 1) ∧ s12 = .pointer (some ⟨g4, 0, none⟩) ∧ s13 = .int .i64 0 ∧ ((((Bk w g1 42 #[.int .i64 a0, .int .i64 a1, .int .i64 a2, .int .i64 a3, .int .i64 a4, .int .i64 a5, .int .i64 a6] ∧ RdR w 9 lgC (.slice p1 1 c1) (lmL noIn)) ∧ Bk w g2 46 (lmC p1 c1)) ∧ RdR w 9 lgC (.slice p2 1 c2) (lmL (t, lmS, m, f))) ∧ Bk w g3 46 (lmC p2 c2)) ∧ Bk w g4 46 (lmC p3 c3) ∧ RdR w 9 lgC (.slice p3 1 c3) (lmL (t + d1, lmS, m + d2, f - d3)) ∧ G W w (some W.heap.size))
  case first =>
    have hSB0 := hSB9.quiet ((G.refl w9 none).drew)
    have hG0 := hG09.drew
    have hS0 : GS (Snew W.heap.size w9.heap.size) w9 w9.drew := GS.of_G ((G.refl w9 none).drew)
    clear hSB9 hG09
    -- @REGION1
    refine wp_region_held_drew (S := (fun w' => w'.cell? ⟨g2, 0, none⟩ = some (.string ⟨#[104, 49]⟩) ∧ w'.cell? ⟨g2, 1, none⟩ = some (.string ⟨#[97, 110, 110]⟩) ∧ w'.cell? ⟨g2, 2, none⟩ = some (.int .i64 100) ∧ w'.cell? ⟨g2, 3, none⟩ = some (.int .i64 1000) ∧ w'.cell? ⟨g2, 4, none⟩ = some (.slice p1 1 c1))) (by kernel_rfl) ?_ (fun hHeld => ?_)
    · exact ⟨((HO.out _ hS0).1.1.2).cell 0, ((HO.out _ hS0).1.1.2).cell 1, ((HO.out _ hS0).1.1.2).cell 2, ((HO.out _ hS0).1.1.2).cell 3, ((HO.out _ hS0).1.1.2).cell 4⟩
    refine wpAnyH_take (i := 0) (oi := { dst := some 49, op := Op.load 46 (Operand.tmp 5), type := 46, pos := _, after := #[], guard := none }) (v := ?_) rfl (by kernel_rfl) (by kernel_rfl) (by kernel_rfl) (fun _ _ _ h => h) (Or.inl ⟨by rfl, ?_⟩) (by assumption) ?_
    rotate_left
    · (intro w hSw; obtain ⟨s0, s1, s2, s3, s4⟩ := hSw; (go_simp <;> with_reducible rfl))
    try simp only [Act.put, List.setIfInBounds_toArray, List.set_cons_zero, List.set_cons_succ]
    refine wpAnyH_take (i := 1) (oi := { dst := some 50, op := Op.move (Operand.tmp 7), type := 3, pos := _, after := #[], guard := none }) (v := ?_) rfl (by kernel_rfl) (by kernel_rfl) (by kernel_rfl) (fun _ _ _ h => h) (Or.inl ⟨by rfl, ?_⟩) (by assumption) ?_
    rotate_left
    · (intro w hSw; obtain ⟨s0, s1, s2, s3, s4⟩ := hSw; (go_simp <;> with_reducible rfl))
    try simp only [Act.put, List.setIfInBounds_toArray, List.set_cons_zero, List.set_cons_succ]
    refine wpAnyH_take (i := 2) (oi := { dst := some 51, op := Op.move (Operand.tmp 3), type := 23, pos := _, after := #[], guard := none }) (v := ?_) rfl (by kernel_rfl) (by kernel_rfl) (by kernel_rfl) (fun _ _ _ h => h) (Or.inl ⟨by rfl, ?_⟩) (by assumption) ?_
    rotate_left
    · (intro w hSw; obtain ⟨s0, s1, s2, s3, s4⟩ := hSw; (go_simp <;> with_reducible rfl))
    try simp only [Act.put, List.setIfInBounds_toArray, List.set_cons_zero, List.set_cons_succ]
    refine wpAnyH_take (i := 5) (oi := { dst := some 54, op := Op.move (Operand.tmp 8), type := 3, pos := _, after := #[], guard := none }) (v := ?_) rfl (by kernel_rfl) (by kernel_rfl) (by kernel_rfl) (fun _ _ _ h => h) (Or.inl ⟨by rfl, ?_⟩) (by assumption) ?_
    rotate_left
    · (intro w hSw; obtain ⟨s0, s1, s2, s3, s4⟩ := hSw; (go_simp <;> with_reducible rfl))
    try simp only [Act.put, List.setIfInBounds_toArray, List.set_cons_zero, List.set_cons_succ]
    refine wpAnyH_take (i := 6) (oi := { dst := some 55, op := Op.move (Operand.tmp 3), type := 23, pos := _, after := #[], guard := none }) (v := ?_) rfl (by kernel_rfl) (by kernel_rfl) (by kernel_rfl) (fun _ _ _ h => h) (Or.inl ⟨by rfl, ?_⟩) (by assumption) ?_
    rotate_left
    · (intro w hSw; obtain ⟨s0, s1, s2, s3, s4⟩ := hSw; (go_simp <;> with_reducible rfl))
    try simp only [Act.put, List.setIfInBounds_toArray, List.set_cons_zero, List.set_cons_succ]
    refine wpAnyH_take (i := 9) (oi := { dst := some 58, op := Op.move (Operand.tmp 9), type := 3, pos := _, after := #[], guard := none }) (v := ?_) rfl (by kernel_rfl) (by kernel_rfl) (by kernel_rfl) (fun _ _ _ h => h) (Or.inl ⟨by rfl, ?_⟩) (by assumption) ?_
    rotate_left
    · (intro w hSw; obtain ⟨s0, s1, s2, s3, s4⟩ := hSw; (go_simp <;> with_reducible rfl))
    try simp only [Act.put, List.setIfInBounds_toArray, List.set_cons_zero, List.set_cons_succ]
    refine wpAnyH_take (i := 10) (oi := { dst := some 59, op := Op.move (Operand.tmp 3), type := 23, pos := _, after := #[], guard := none }) (v := ?_) rfl (by kernel_rfl) (by kernel_rfl) (by kernel_rfl) (fun _ _ _ h => h) (Or.inl ⟨by rfl, ?_⟩) (by assumption) ?_
    rotate_left
    · (intro w hSw; obtain ⟨s0, s1, s2, s3, s4⟩ := hSw; (go_simp <;> with_reducible rfl))
    try simp only [Act.put, List.setIfInBounds_toArray, List.set_cons_zero, List.set_cons_succ]
    refine wpAnyH_ready (rs := [3, 18]) (by kernel_rfl) (by simp) ?_
    refine (AllReadyH.cons (o := { dst := some 52, op := Op.call { callee := Callee.value (Operand.func 6), args := #[Operand.tmp 51, Operand.const (Value.int IntKind.i64 0), Operand.const (Value.int IntKind.i64 3000)], argTypes := #[23, 3, 3] }, type := 3, pos := _, after := #[{ on := 2, ground := Ground.data }], guard := none }) rfl (fun K hK => ?_) (AllReadyH.cons (o := { dst := some 12, op := Op.alloc 46, type := 0, pos := _, after := #[], guard := none }) rfl (fun K hK => ?_) AllReadyH.nil))
    · go_simp
      refine (range_c 0 3000 _ _ _ hSB0 (by omega) (by omega) (by omega) (by omega)).mono ?_
      rintro e w1_d1 ⟨d1, rfl, d10, d11, hSB1, hh⟩
      have hG1 := hG0.trans hh
      have hS1 := hS0.trans (GS.stream hh)
      clear hh hSB0 hG0 hS0
      have hw1 : IntKind.i64.wrap (t + d1) = t + d1 := by rw [IntKind.wrap_i64]; omega
      refine hK.out _ _ ?_ (fun hHeld => ?_)
      · exact ⟨((HO.out _ hS1).1.1.2).cell 0, ((HO.out _ hS1).1.1.2).cell 1, ((HO.out _ hS1).1.1.2).cell 2, ((HO.out _ hS1).1.1.2).cell 3, ((HO.out _ hS1).1.1.2).cell 4⟩
      clear hK K
      try simp only [Act.put, List.setIfInBounds_toArray, List.set_cons_zero, List.set_cons_succ]
      refine wpAnyH_take (i := 4) (oi := { dst := some 53, op := Op.binOp BinOp.add 3 (Operand.tmp 50) (Operand.tmp 52) 3, type := 3, pos := _, after := #[{ on := 1, ground := Ground.data }, { on := 3, ground := Ground.data }], guard := none }) (v := ?_) rfl (by kernel_rfl) (by kernel_rfl) (by kernel_rfl) (fun _ _ _ h => h) (Or.inl ⟨by rfl, ?_⟩) (by assumption) ?_
      rotate_left
      · (intro w hSw; obtain ⟨s0, s1, s2, s3, s4⟩ := hSw; (go_simp <;> with_reducible rfl))
      try simp only [Act.put, List.setIfInBounds_toArray, List.set_cons_zero, List.set_cons_succ]
      refine wpAnyH_ready (rs := [7, 18]) (by kernel_rfl) (by simp) ?_
      refine (AllReadyH.cons (o := { dst := some 56, op := Op.call { callee := Callee.value (Operand.func 6), args := #[Operand.tmp 55, Operand.const (Value.int IntKind.i64 0), Operand.const (Value.int IntKind.i64 500)], argTypes := #[23, 3, 3] }, type := 3, pos := _, after := #[{ on := 6, ground := Ground.data }, { on := 3, ground := Ground.chain }], guard := none }) rfl (fun K hK => ?_) (AllReadyH.cons (o := { dst := some 12, op := Op.alloc 46, type := 0, pos := _, after := #[], guard := none }) rfl (fun K hK => ?_) AllReadyH.nil))
      · go_simp
        refine (range_c 0 500 _ _ _ hSB1 (by omega) (by omega) (by omega) (by omega)).mono ?_
        rintro e w2_d2 ⟨d2, rfl, d20, d21, hSB2, hh⟩
        have hG2 := hG1.trans hh
        have hS2 := hS1.trans (GS.stream hh)
        clear hh hSB1 hG1 hS1
        have hw2 : IntKind.i64.wrap (m + d2) = m + d2 := by rw [IntKind.wrap_i64]; omega
        refine hK.out _ _ ?_ (fun hHeld => ?_)
        · exact ⟨((HO.out _ hS2).1.1.2).cell 0, ((HO.out _ hS2).1.1.2).cell 1, ((HO.out _ hS2).1.1.2).cell 2, ((HO.out _ hS2).1.1.2).cell 3, ((HO.out _ hS2).1.1.2).cell 4⟩
        clear hK K
        try simp only [Act.put, List.setIfInBounds_toArray, List.set_cons_zero, List.set_cons_succ]
        refine wpAnyH_take (i := 8) (oi := { dst := some 57, op := Op.binOp BinOp.add 3 (Operand.tmp 54) (Operand.tmp 56) 3, type := 3, pos := _, after := #[{ on := 5, ground := Ground.data }, { on := 7, ground := Ground.data }], guard := none }) (v := ?_) rfl (by kernel_rfl) (by kernel_rfl) (by kernel_rfl) (fun _ _ _ h => h) (Or.inl ⟨by rfl, ?_⟩) (by assumption) ?_
        rotate_left
        · (intro w hSw; obtain ⟨s0, s1, s2, s3, s4⟩ := hSw; (go_simp <;> with_reducible rfl))
        try simp only [Act.put, List.setIfInBounds_toArray, List.set_cons_zero, List.set_cons_succ]
        refine wpAnyH_ready (rs := [11, 18]) (by kernel_rfl) (by simp) ?_
        refine (AllReadyH.cons (o := { dst := some 60, op := Op.call { callee := Callee.value (Operand.func 6), args := #[Operand.tmp 59, Operand.const (Value.int IntKind.i64 0), Operand.const (Value.int IntKind.i64 1)], argTypes := #[23, 3, 3] }, type := 3, pos := _, after := #[{ on := 10, ground := Ground.data }, { on := 7, ground := Ground.chain }], guard := none }) rfl (fun K hK => ?_) (AllReadyH.cons (o := { dst := some 12, op := Op.alloc 46, type := 0, pos := _, after := #[], guard := none }) rfl (fun K hK => ?_) AllReadyH.nil))
        · go_simp
          refine (range_c 0 1 _ _ _ hSB2 (by omega) (by omega) (by omega) (by omega)).mono ?_
          rintro e w3_d3 ⟨d3, rfl, d30, d31, hSB3, hh⟩
          have hG3 := hG2.trans hh
          have hS3 := hS2.trans (GS.stream hh)
          clear hh hSB2 hG2 hS2
          have hw3 : IntKind.i64.wrap (f - d3) = f - d3 := by rw [IntKind.wrap_i64]; omega
          refine hK.out _ _ ?_ (fun hHeld => ?_)
          · exact ⟨((HO.out _ hS3).1.1.2).cell 0, ((HO.out _ hS3).1.1.2).cell 1, ((HO.out _ hS3).1.1.2).cell 2, ((HO.out _ hS3).1.1.2).cell 3, ((HO.out _ hS3).1.1.2).cell 4⟩
          clear hK K
          try simp only [Act.put, List.setIfInBounds_toArray, List.set_cons_zero, List.set_cons_succ]
          refine wpAnyH_take (i := 12) (oi := { dst := some 61, op := Op.binOp BinOp.sub 3 (Operand.tmp 58) (Operand.tmp 60) 3, type := 3, pos := _, after := #[{ on := 9, ground := Ground.data }, { on := 11, ground := Ground.data }], guard := none }) (v := ?_) rfl (by kernel_rfl) (by kernel_rfl) (by kernel_rfl) (fun _ _ _ h => h) (Or.inl ⟨by rfl, ?_⟩) (by assumption) ?_
          rotate_left
          · (intro w hSw; obtain ⟨s0, s1, s2, s3, s4⟩ := hSw; (go_simp <;> with_reducible rfl))
          try simp only [Act.put, List.setIfInBounds_toArray, List.set_cons_zero, List.set_cons_succ]
          refine wpAnyH_take (i := 13) (oi := { dst := some 62, op := Op.build 50 #[(0, Operand.tmp 53), (1, Operand.const (Value.string { data := #[115, 49] })), (2, Operand.tmp 57), (3, Operand.tmp 61)], type := 50, pos := _, after := #[{ on := 4, ground := Ground.data }, { on := 8, ground := Ground.data }, { on := 12, ground := Ground.data }], guard := none }) (v := ?_) rfl (by kernel_rfl) (by kernel_rfl) (by kernel_rfl) (fun _ _ _ h => h) (Or.inl ⟨by rfl, ?_⟩) (by assumption) ?_
          rotate_left
          · (intro w hSw; obtain ⟨s0, s1, s2, s3, s4⟩ := hSw; (go_simp <;> with_reducible rfl))
          try simp only [Act.put, List.setIfInBounds_toArray, List.set_cons_zero, List.set_cons_succ]
          refine wpAnyH_ready (rs := [14, 18]) (by kernel_rfl) (by simp) ?_
          refine (AllReadyH.cons (o := { dst := some 63, op := Op.call { callee := Callee.value (Operand.func 13), args := #[Operand.tmp 49, Operand.tmp 62], argTypes := #[46, 50] }, type := 47, pos := _, after := #[{ on := 0, ground := Ground.data }, { on := 13, ground := Ground.data }, { on := 11, ground := Ground.chain }], guard := none }) rfl (fun K hK => ?_) (AllReadyH.cons (o := { dst := some 12, op := Op.alloc 46, type := 0, pos := _, after := #[], guard := none }) rfl (fun K hK => ?_) AllReadyH.nil))
          · go_simp
            refine (lmClose_c p1 c1 (t + d1) (m + d2) (f - d3) _ (by omega) (by omega) (by omega) (by omega) (by omega) (by omega) (HO.out _ hS3).1.1.1.2).mono ?_
            rintro e w4_c ⟨p3, c3, rfl, hR4, hbx, hh⟩
            have hG4 := hG3.trans0 hh
            have hS4 := hS3.trans (GS.of_G hh)
            clear hh hbx hSB3 hG3 hS3
            refine hK.out _ _ ?_ (fun hHeld => ?_)
            · exact ⟨((HO.out _ hS4).1.1.2).cell 0, ((HO.out _ hS4).1.1.2).cell 1, ((HO.out _ hS4).1.1.2).cell 2, ((HO.out _ hS4).1.1.2).cell 3, ((HO.out _ hS4).1.1.2).cell 4⟩
            clear hK K
            try simp only [Act.put, List.setIfInBounds_toArray, List.set_cons_zero, List.set_cons_succ]
            refine wpAnyH_take (i := 15) (oi := { dst := some 48, op := Op.move (Operand.tmp 63), type := 47, pos := _, after := #[{ on := 14, ground := Ground.data }], guard := none }) (v := ?_) rfl (by kernel_rfl) (by kernel_rfl) (by kernel_rfl) (fun _ _ _ h => h) (Or.inl ⟨by rfl, ?_⟩) (by assumption) ?_
            rotate_left
            · (intro w hSw; obtain ⟨s0, s1, s2, s3, s4⟩ := hSw; (go_simp <;> with_reducible rfl))
            try simp only [Act.put, List.setIfInBounds_toArray, List.set_cons_zero, List.set_cons_succ]
            refine wpAnyH_take (i := 16) (oi := { dst := some 64, op := Op.extract (Operand.tmp 48) 0, type := 46, pos := _, after := #[{ on := 15, ground := Ground.data }], guard := none }) (v := ?_) rfl (by kernel_rfl) (by kernel_rfl) (by kernel_rfl) (fun _ _ _ h => h) (Or.inl ⟨by rfl, ?_⟩) (by assumption) ?_
            rotate_left
            · (intro w hSw; obtain ⟨s0, s1, s2, s3, s4⟩ := hSw; (go_simp <;> with_reducible rfl))
            try simp only [Act.put, List.setIfInBounds_toArray, List.set_cons_zero, List.set_cons_succ]
            refine wpAnyH_take (i := 17) (oi := { dst := some 65, op := Op.extract (Operand.tmp 48) 1, type := 33, pos := _, after := #[{ on := 15, ground := Ground.data }, { on := 19, ground := Ground.gcOnly Departure.lateStores }], guard := none }) (v := ?_) rfl (by kernel_rfl) (by kernel_rfl) (by kernel_rfl) (fun _ _ _ h => h) (Or.inl ⟨by rfl, ?_⟩) (by assumption) ?_
            rotate_left
            · (intro w hSw; obtain ⟨s0, s1, s2, s3, s4⟩ := hSw; (go_simp <;> with_reducible rfl))
            try simp only [Act.put, List.setIfInBounds_toArray, List.set_cons_zero, List.set_cons_succ]
            refine wpAnyH_ready (rs := [18]) (by kernel_rfl) (by simp) ?_
            refine (AllReadyH.cons (o := { dst := some 12, op := Op.alloc 46, type := 0, pos := _, after := #[], guard := none }) rfl (fun K hK => ?_) AllReadyH.nil)
            go_simp
            have hh := (G.refl w4_c none).alloc (.cells #[.string ⟨#[]⟩, .string ⟨#[]⟩, .int .i64 0, .int .i64 0, .slice none 0 0] 46)
            have hG5 := hG4.trans0 hh
            have hz : w9.heap.size ≤ w4_c.heap.size := hS4.size
            have hS5 := hS4.trans (GS.of_G hh)
            have hZ5 := Bk.new w4_c 46 #[.string ⟨#[]⟩, .string ⟨#[]⟩, .int .i64 0, .int .i64 0, .slice none 0 0]
            have hne5 : ∀ k, (Value.slice p3 1 c3).ownBlock = some k → k ≠ w4_c.heap.size := fun k e => Nat.ne_of_lt (Rd.blk hR4 k e)
            have hR5 := Rd.quiet hR4 hh
            clear hR4
            clear hh hG4 hS4
            refine hK.out _ _ ?_ (fun hHeld => ?_)
            · exact ⟨((HO.out _ hS5).1.1.2).cell 0, ((HO.out _ hS5).1.1.2).cell 1, ((HO.out _ hS5).1.1.2).cell 2, ((HO.out _ hS5).1.1.2).cell 3, ((HO.out _ hS5).1.1.2).cell 4⟩
            clear hK K
            try simp only [Act.put, List.setIfInBounds_toArray, List.set_cons_zero, List.set_cons_succ]
            refine wpAnyH_ready (rs := [19]) (by kernel_rfl) (by simp) ?_
            refine (AllReadyH.cons (o := { dst := none, op := Op.store 46 (Operand.tmp 12) (Operand.tmp 64), type := 0, pos := _, after := #[{ on := 18, ground := Ground.data }, { on := 16, ground := Ground.data }, { on := 14, ground := Ground.chain }, { on := 0, ground := Ground.phase }, { on := 1, ground := Ground.phase }, { on := 2, ground := Ground.phase }, { on := 3, ground := Ground.phase }, { on := 4, ground := Ground.phase }, { on := 5, ground := Ground.phase }, { on := 6, ground := Ground.phase }, { on := 7, ground := Ground.phase }, { on := 8, ground := Ground.phase }, { on := 9, ground := Ground.phase }, { on := 10, ground := Ground.phase }, { on := 11, ground := Ground.phase }, { on := 12, ground := Ground.phase }, { on := 13, ground := Ground.phase }, { on := 14, ground := Ground.phase }, { on := 15, ground := Ground.phase }, { on := 16, ground := Ground.phase }, { on := 17, ground := Ground.textOnly Departure.lateStores }, { on := 18, ground := Ground.phase }], guard := none }) rfl (fun K hK => ?_) AllReadyH.nil)
            refine st_wp rfl (wp_store_row 46 _ _ rfl (w4_c.heap.size) (lmC p3 c3) rfl rfl 46 _ hZ5 (lm_info _ _) rfl (lm_oneC _ _) ?_)
            have hG6 := hG5.setRow (g := w4_c.heap.size) (.inl (by omega)) (lmC p3 c3)
            have hS6 := hS5.trans (GS.row (g := w4_c.heap.size) hz (lmC p3 c3))
            have hR6 := Rd.grown hR5 ((G.refl _ (some (w4_c.heap.size))).setRow (.inr rfl) (lmC p3 c3)) (fun k e hk => by cases e; exact hne5 _ hk rfl)
            have hZ6 := hZ5.setRow (lmC p3 c3)
            refine hK.out _ _ ?_ (fun hHeld => ?_)
            · exact ⟨((HO.out _ hS6).1.1.2).cell 0, ((HO.out _ hS6).1.1.2).cell 1, ((HO.out _ hS6).1.1.2).cell 2, ((HO.out _ hS6).1.1.2).cell 3, ((HO.out _ hS6).1.1.2).cell 4⟩
            clear hK K
            try simp only [Act.put, List.setIfInBounds_toArray, List.set_cons_zero, List.set_cons_succ]
            refine wpAnyH_take (i := 20) (oi := { dst := some 13, op := Op.assign (Operand.tmp 65), type := 33, pos := _, after := #[{ on := 17, ground := Ground.data }, { on := 19, ground := Ground.chain }, { on := 0, ground := Ground.phase }, { on := 1, ground := Ground.phase }, { on := 2, ground := Ground.phase }, { on := 3, ground := Ground.phase }, { on := 4, ground := Ground.phase }, { on := 5, ground := Ground.phase }, { on := 6, ground := Ground.phase }, { on := 7, ground := Ground.phase }, { on := 8, ground := Ground.phase }, { on := 9, ground := Ground.phase }, { on := 10, ground := Ground.phase }, { on := 11, ground := Ground.phase }, { on := 12, ground := Ground.phase }, { on := 13, ground := Ground.phase }, { on := 14, ground := Ground.phase }, { on := 15, ground := Ground.phase }, { on := 16, ground := Ground.phase }, { on := 17, ground := Ground.phase }, { on := 18, ground := Ground.phase }, { on := 19, ground := Ground.phase }], guard := none }) (v := ?_) rfl (by kernel_rfl) (by kernel_rfl) (by kernel_rfl) (fun _ _ _ h => h) (Or.inl ⟨by rfl, ?_⟩) (by assumption) ?_
            rotate_left
            · (intro w hSw; obtain ⟨s0, s1, s2, s3, s4⟩ := hSw; (go_simp <;> with_reducible rfl))
            try simp only [Act.put, List.setIfInBounds_toArray, List.set_cons_zero, List.set_cons_succ]
            refine wpAnyH_done (by kernel_rfl) ?_ _
            go_wp2_with fail
            go_meet
            case rel => exact ⟨d1, d2, d3, p3, c3, _, by omega, rfl, rfl, HO.out _ hS6, hZ6, hR6, hG6⟩
          · go_simp
            have hh := (G.refl w3_d3 none).alloc (.cells #[.string ⟨#[]⟩, .string ⟨#[]⟩, .int .i64 0, .int .i64 0, .slice none 0 0] 46)
            have hG4 := hG3.trans0 hh
            have hz : w9.heap.size ≤ w3_d3.heap.size := hS3.size
            have hS4 := hS3.trans (GS.of_G hh)
            have hZ4 := Bk.new w3_d3 46 #[.string ⟨#[]⟩, .string ⟨#[]⟩, .int .i64 0, .int .i64 0, .slice none 0 0]
            have hSB4 := hSB3.quiet hh
            clear hSB3
            clear hh hG3 hS3
            refine hK.out _ _ ?_ (fun hHeld => ?_)
            · exact ⟨((HO.out _ hS4).1.1.2).cell 0, ((HO.out _ hS4).1.1.2).cell 1, ((HO.out _ hS4).1.1.2).cell 2, ((HO.out _ hS4).1.1.2).cell 3, ((HO.out _ hS4).1.1.2).cell 4⟩
            clear hK K
            try simp only [Act.put, List.setIfInBounds_toArray, List.set_cons_zero, List.set_cons_succ]
            refine wpAnyH_ready (rs := [14]) (by kernel_rfl) (by simp) ?_
            refine (AllReadyH.cons (o := { dst := some 63, op := Op.call { callee := Callee.value (Operand.func 13), args := #[Operand.tmp 49, Operand.tmp 62], argTypes := #[46, 50] }, type := 47, pos := _, after := #[{ on := 0, ground := Ground.data }, { on := 13, ground := Ground.data }, { on := 11, ground := Ground.chain }], guard := none }) rfl (fun K hK => ?_) AllReadyH.nil)
            go_simp
            refine (lmClose_c p1 c1 (t + d1) (m + d2) (f - d3) _ (by omega) (by omega) (by omega) (by omega) (by omega) (by omega) (HO.out _ hS4).1.1.1.2).mono ?_
            rintro e w5_c ⟨p3, c3, rfl, hR5, hbx, hh⟩
            have hG5 := hG4.trans0 hh
            have hS5 := hS4.trans (GS.of_G hh)
            have hne5 : ∀ k, (Value.slice p3 1 c3).ownBlock = some k → k ≠ w3_d3.heap.size := fun k e => by have := hbx k e; have := hZ4.lt; omega
            have hZ5 := hZ4.quiet hh
            clear hh hbx hSB4 hG4 hS4 hZ4
            refine hK.out _ _ ?_ (fun hHeld => ?_)
            · exact ⟨((HO.out _ hS5).1.1.2).cell 0, ((HO.out _ hS5).1.1.2).cell 1, ((HO.out _ hS5).1.1.2).cell 2, ((HO.out _ hS5).1.1.2).cell 3, ((HO.out _ hS5).1.1.2).cell 4⟩
            clear hK K
            try simp only [Act.put, List.setIfInBounds_toArray, List.set_cons_zero, List.set_cons_succ]
            refine wpAnyH_take (i := 15) (oi := { dst := some 48, op := Op.move (Operand.tmp 63), type := 47, pos := _, after := #[{ on := 14, ground := Ground.data }], guard := none }) (v := ?_) rfl (by kernel_rfl) (by kernel_rfl) (by kernel_rfl) (fun _ _ _ h => h) (Or.inl ⟨by rfl, ?_⟩) (by assumption) ?_
            rotate_left
            · (intro w hSw; obtain ⟨s0, s1, s2, s3, s4⟩ := hSw; (go_simp <;> with_reducible rfl))
            try simp only [Act.put, List.setIfInBounds_toArray, List.set_cons_zero, List.set_cons_succ]
            refine wpAnyH_take (i := 16) (oi := { dst := some 64, op := Op.extract (Operand.tmp 48) 0, type := 46, pos := _, after := #[{ on := 15, ground := Ground.data }], guard := none }) (v := ?_) rfl (by kernel_rfl) (by kernel_rfl) (by kernel_rfl) (fun _ _ _ h => h) (Or.inl ⟨by rfl, ?_⟩) (by assumption) ?_
            rotate_left
            · (intro w hSw; obtain ⟨s0, s1, s2, s3, s4⟩ := hSw; (go_simp <;> with_reducible rfl))
            try simp only [Act.put, List.setIfInBounds_toArray, List.set_cons_zero, List.set_cons_succ]
            refine wpAnyH_take (i := 17) (oi := { dst := some 65, op := Op.extract (Operand.tmp 48) 1, type := 33, pos := _, after := #[{ on := 15, ground := Ground.data }, { on := 19, ground := Ground.gcOnly Departure.lateStores }], guard := none }) (v := ?_) rfl (by kernel_rfl) (by kernel_rfl) (by kernel_rfl) (fun _ _ _ h => h) (Or.inl ⟨by rfl, ?_⟩) (by assumption) ?_
            rotate_left
            · (intro w hSw; obtain ⟨s0, s1, s2, s3, s4⟩ := hSw; (go_simp <;> with_reducible rfl))
            try simp only [Act.put, List.setIfInBounds_toArray, List.set_cons_zero, List.set_cons_succ]
            refine wpAnyH_ready (rs := [19]) (by kernel_rfl) (by simp) ?_
            refine (AllReadyH.cons (o := { dst := none, op := Op.store 46 (Operand.tmp 12) (Operand.tmp 64), type := 0, pos := _, after := #[{ on := 18, ground := Ground.data }, { on := 16, ground := Ground.data }, { on := 14, ground := Ground.chain }, { on := 0, ground := Ground.phase }, { on := 1, ground := Ground.phase }, { on := 2, ground := Ground.phase }, { on := 3, ground := Ground.phase }, { on := 4, ground := Ground.phase }, { on := 5, ground := Ground.phase }, { on := 6, ground := Ground.phase }, { on := 7, ground := Ground.phase }, { on := 8, ground := Ground.phase }, { on := 9, ground := Ground.phase }, { on := 10, ground := Ground.phase }, { on := 11, ground := Ground.phase }, { on := 12, ground := Ground.phase }, { on := 13, ground := Ground.phase }, { on := 14, ground := Ground.phase }, { on := 15, ground := Ground.phase }, { on := 16, ground := Ground.phase }, { on := 17, ground := Ground.textOnly Departure.lateStores }, { on := 18, ground := Ground.phase }], guard := none }) rfl (fun K hK => ?_) AllReadyH.nil)
            refine st_wp rfl (wp_store_row 46 _ _ rfl (w3_d3.heap.size) (lmC p3 c3) rfl rfl 46 _ hZ5 (lm_info _ _) rfl (lm_oneC _ _) ?_)
            have hG6 := hG5.setRow (g := w3_d3.heap.size) (.inl (by omega)) (lmC p3 c3)
            have hS6 := hS5.trans (GS.row (g := w3_d3.heap.size) hz (lmC p3 c3))
            have hR6 := Rd.grown hR5 ((G.refl _ (some (w3_d3.heap.size))).setRow (.inr rfl) (lmC p3 c3)) (fun k e hk => by cases e; exact hne5 _ hk rfl)
            have hZ6 := hZ5.setRow (lmC p3 c3)
            refine hK.out _ _ ?_ (fun hHeld => ?_)
            · exact ⟨((HO.out _ hS6).1.1.2).cell 0, ((HO.out _ hS6).1.1.2).cell 1, ((HO.out _ hS6).1.1.2).cell 2, ((HO.out _ hS6).1.1.2).cell 3, ((HO.out _ hS6).1.1.2).cell 4⟩
            clear hK K
            try simp only [Act.put, List.setIfInBounds_toArray, List.set_cons_zero, List.set_cons_succ]
            refine wpAnyH_take (i := 20) (oi := { dst := some 13, op := Op.assign (Operand.tmp 65), type := 33, pos := _, after := #[{ on := 17, ground := Ground.data }, { on := 19, ground := Ground.chain }, { on := 0, ground := Ground.phase }, { on := 1, ground := Ground.phase }, { on := 2, ground := Ground.phase }, { on := 3, ground := Ground.phase }, { on := 4, ground := Ground.phase }, { on := 5, ground := Ground.phase }, { on := 6, ground := Ground.phase }, { on := 7, ground := Ground.phase }, { on := 8, ground := Ground.phase }, { on := 9, ground := Ground.phase }, { on := 10, ground := Ground.phase }, { on := 11, ground := Ground.phase }, { on := 12, ground := Ground.phase }, { on := 13, ground := Ground.phase }, { on := 14, ground := Ground.phase }, { on := 15, ground := Ground.phase }, { on := 16, ground := Ground.phase }, { on := 17, ground := Ground.phase }, { on := 18, ground := Ground.phase }, { on := 19, ground := Ground.phase }], guard := none }) (v := ?_) rfl (by kernel_rfl) (by kernel_rfl) (by kernel_rfl) (fun _ _ _ h => h) (Or.inl ⟨by rfl, ?_⟩) (by assumption) ?_
            rotate_left
            · (intro w hSw; obtain ⟨s0, s1, s2, s3, s4⟩ := hSw; (go_simp <;> with_reducible rfl))
            try simp only [Act.put, List.setIfInBounds_toArray, List.set_cons_zero, List.set_cons_succ]
            refine wpAnyH_done (by kernel_rfl) ?_ _
            go_wp2_with fail
            go_meet
            case rel => exact ⟨d1, d2, d3, p3, c3, _, by omega, rfl, rfl, HO.out _ hS6, hZ6, hR6, hG6⟩
        · go_simp
          have hh := (G.refl w2_d2 none).alloc (.cells #[.string ⟨#[]⟩, .string ⟨#[]⟩, .int .i64 0, .int .i64 0, .slice none 0 0] 46)
          have hG3 := hG2.trans0 hh
          have hz : w9.heap.size ≤ w2_d2.heap.size := hS2.size
          have hS3 := hS2.trans (GS.of_G hh)
          have hZ3 := Bk.new w2_d2 46 #[.string ⟨#[]⟩, .string ⟨#[]⟩, .int .i64 0, .int .i64 0, .slice none 0 0]
          have hSB3 := hSB2.quiet hh
          clear hSB2
          clear hh hG2 hS2
          refine hK.out _ _ ?_ (fun hHeld => ?_)
          · exact ⟨((HO.out _ hS3).1.1.2).cell 0, ((HO.out _ hS3).1.1.2).cell 1, ((HO.out _ hS3).1.1.2).cell 2, ((HO.out _ hS3).1.1.2).cell 3, ((HO.out _ hS3).1.1.2).cell 4⟩
          clear hK K
          try simp only [Act.put, List.setIfInBounds_toArray, List.set_cons_zero, List.set_cons_succ]
          refine wpAnyH_ready (rs := [11]) (by kernel_rfl) (by simp) ?_
          refine (AllReadyH.cons (o := { dst := some 60, op := Op.call { callee := Callee.value (Operand.func 6), args := #[Operand.tmp 59, Operand.const (Value.int IntKind.i64 0), Operand.const (Value.int IntKind.i64 1)], argTypes := #[23, 3, 3] }, type := 3, pos := _, after := #[{ on := 10, ground := Ground.data }, { on := 7, ground := Ground.chain }], guard := none }) rfl (fun K hK => ?_) AllReadyH.nil)
          go_simp
          refine (range_c 0 1 _ _ _ hSB3 (by omega) (by omega) (by omega) (by omega)).mono ?_
          rintro e w4_d3 ⟨d3, rfl, d30, d31, hSB4, hh⟩
          have hG4 := hG3.trans hh
          have hS4 := hS3.trans (GS.stream hh)
          have hZ4 := hZ3.grown hh (fun e => by have := Option.some.inj e; omega)
          clear hh hSB3 hG3 hS3 hZ3
          have hw3 : IntKind.i64.wrap (f - d3) = f - d3 := by rw [IntKind.wrap_i64]; omega
          refine hK.out _ _ ?_ (fun hHeld => ?_)
          · exact ⟨((HO.out _ hS4).1.1.2).cell 0, ((HO.out _ hS4).1.1.2).cell 1, ((HO.out _ hS4).1.1.2).cell 2, ((HO.out _ hS4).1.1.2).cell 3, ((HO.out _ hS4).1.1.2).cell 4⟩
          clear hK K
          try simp only [Act.put, List.setIfInBounds_toArray, List.set_cons_zero, List.set_cons_succ]
          refine wpAnyH_take (i := 12) (oi := { dst := some 61, op := Op.binOp BinOp.sub 3 (Operand.tmp 58) (Operand.tmp 60) 3, type := 3, pos := _, after := #[{ on := 9, ground := Ground.data }, { on := 11, ground := Ground.data }], guard := none }) (v := ?_) rfl (by kernel_rfl) (by kernel_rfl) (by kernel_rfl) (fun _ _ _ h => h) (Or.inl ⟨by rfl, ?_⟩) (by assumption) ?_
          rotate_left
          · (intro w hSw; obtain ⟨s0, s1, s2, s3, s4⟩ := hSw; (go_simp <;> with_reducible rfl))
          try simp only [Act.put, List.setIfInBounds_toArray, List.set_cons_zero, List.set_cons_succ]
          refine wpAnyH_take (i := 13) (oi := { dst := some 62, op := Op.build 50 #[(0, Operand.tmp 53), (1, Operand.const (Value.string { data := #[115, 49] })), (2, Operand.tmp 57), (3, Operand.tmp 61)], type := 50, pos := _, after := #[{ on := 4, ground := Ground.data }, { on := 8, ground := Ground.data }, { on := 12, ground := Ground.data }], guard := none }) (v := ?_) rfl (by kernel_rfl) (by kernel_rfl) (by kernel_rfl) (fun _ _ _ h => h) (Or.inl ⟨by rfl, ?_⟩) (by assumption) ?_
          rotate_left
          · (intro w hSw; obtain ⟨s0, s1, s2, s3, s4⟩ := hSw; (go_simp <;> with_reducible rfl))
          try simp only [Act.put, List.setIfInBounds_toArray, List.set_cons_zero, List.set_cons_succ]
          refine wpAnyH_ready (rs := [14]) (by kernel_rfl) (by simp) ?_
          refine (AllReadyH.cons (o := { dst := some 63, op := Op.call { callee := Callee.value (Operand.func 13), args := #[Operand.tmp 49, Operand.tmp 62], argTypes := #[46, 50] }, type := 47, pos := _, after := #[{ on := 0, ground := Ground.data }, { on := 13, ground := Ground.data }, { on := 11, ground := Ground.chain }], guard := none }) rfl (fun K hK => ?_) AllReadyH.nil)
          go_simp
          refine (lmClose_c p1 c1 (t + d1) (m + d2) (f - d3) _ (by omega) (by omega) (by omega) (by omega) (by omega) (by omega) (HO.out _ hS4).1.1.1.2).mono ?_
          rintro e w5_c ⟨p3, c3, rfl, hR5, hbx, hh⟩
          have hG5 := hG4.trans0 hh
          have hS5 := hS4.trans (GS.of_G hh)
          have hne5 : ∀ k, (Value.slice p3 1 c3).ownBlock = some k → k ≠ w2_d2.heap.size := fun k e => by have := hbx k e; have := hZ4.lt; omega
          have hZ5 := hZ4.quiet hh
          clear hh hbx hSB4 hG4 hS4 hZ4
          refine hK.out _ _ ?_ (fun hHeld => ?_)
          · exact ⟨((HO.out _ hS5).1.1.2).cell 0, ((HO.out _ hS5).1.1.2).cell 1, ((HO.out _ hS5).1.1.2).cell 2, ((HO.out _ hS5).1.1.2).cell 3, ((HO.out _ hS5).1.1.2).cell 4⟩
          clear hK K
          try simp only [Act.put, List.setIfInBounds_toArray, List.set_cons_zero, List.set_cons_succ]
          refine wpAnyH_take (i := 15) (oi := { dst := some 48, op := Op.move (Operand.tmp 63), type := 47, pos := _, after := #[{ on := 14, ground := Ground.data }], guard := none }) (v := ?_) rfl (by kernel_rfl) (by kernel_rfl) (by kernel_rfl) (fun _ _ _ h => h) (Or.inl ⟨by rfl, ?_⟩) (by assumption) ?_
          rotate_left
          · (intro w hSw; obtain ⟨s0, s1, s2, s3, s4⟩ := hSw; (go_simp <;> with_reducible rfl))
          try simp only [Act.put, List.setIfInBounds_toArray, List.set_cons_zero, List.set_cons_succ]
          refine wpAnyH_take (i := 16) (oi := { dst := some 64, op := Op.extract (Operand.tmp 48) 0, type := 46, pos := _, after := #[{ on := 15, ground := Ground.data }], guard := none }) (v := ?_) rfl (by kernel_rfl) (by kernel_rfl) (by kernel_rfl) (fun _ _ _ h => h) (Or.inl ⟨by rfl, ?_⟩) (by assumption) ?_
          rotate_left
          · (intro w hSw; obtain ⟨s0, s1, s2, s3, s4⟩ := hSw; (go_simp <;> with_reducible rfl))
          try simp only [Act.put, List.setIfInBounds_toArray, List.set_cons_zero, List.set_cons_succ]
          refine wpAnyH_take (i := 17) (oi := { dst := some 65, op := Op.extract (Operand.tmp 48) 1, type := 33, pos := _, after := #[{ on := 15, ground := Ground.data }, { on := 19, ground := Ground.gcOnly Departure.lateStores }], guard := none }) (v := ?_) rfl (by kernel_rfl) (by kernel_rfl) (by kernel_rfl) (fun _ _ _ h => h) (Or.inl ⟨by rfl, ?_⟩) (by assumption) ?_
          rotate_left
          · (intro w hSw; obtain ⟨s0, s1, s2, s3, s4⟩ := hSw; (go_simp <;> with_reducible rfl))
          try simp only [Act.put, List.setIfInBounds_toArray, List.set_cons_zero, List.set_cons_succ]
          refine wpAnyH_ready (rs := [19]) (by kernel_rfl) (by simp) ?_
          refine (AllReadyH.cons (o := { dst := none, op := Op.store 46 (Operand.tmp 12) (Operand.tmp 64), type := 0, pos := _, after := #[{ on := 18, ground := Ground.data }, { on := 16, ground := Ground.data }, { on := 14, ground := Ground.chain }, { on := 0, ground := Ground.phase }, { on := 1, ground := Ground.phase }, { on := 2, ground := Ground.phase }, { on := 3, ground := Ground.phase }, { on := 4, ground := Ground.phase }, { on := 5, ground := Ground.phase }, { on := 6, ground := Ground.phase }, { on := 7, ground := Ground.phase }, { on := 8, ground := Ground.phase }, { on := 9, ground := Ground.phase }, { on := 10, ground := Ground.phase }, { on := 11, ground := Ground.phase }, { on := 12, ground := Ground.phase }, { on := 13, ground := Ground.phase }, { on := 14, ground := Ground.phase }, { on := 15, ground := Ground.phase }, { on := 16, ground := Ground.phase }, { on := 17, ground := Ground.textOnly Departure.lateStores }, { on := 18, ground := Ground.phase }], guard := none }) rfl (fun K hK => ?_) AllReadyH.nil)
          refine st_wp rfl (wp_store_row 46 _ _ rfl (w2_d2.heap.size) (lmC p3 c3) rfl rfl 46 _ hZ5 (lm_info _ _) rfl (lm_oneC _ _) ?_)
          have hG6 := hG5.setRow (g := w2_d2.heap.size) (.inl (by omega)) (lmC p3 c3)
          have hS6 := hS5.trans (GS.row (g := w2_d2.heap.size) hz (lmC p3 c3))
          have hR6 := Rd.grown hR5 ((G.refl _ (some (w2_d2.heap.size))).setRow (.inr rfl) (lmC p3 c3)) (fun k e hk => by cases e; exact hne5 _ hk rfl)
          have hZ6 := hZ5.setRow (lmC p3 c3)
          refine hK.out _ _ ?_ (fun hHeld => ?_)
          · exact ⟨((HO.out _ hS6).1.1.2).cell 0, ((HO.out _ hS6).1.1.2).cell 1, ((HO.out _ hS6).1.1.2).cell 2, ((HO.out _ hS6).1.1.2).cell 3, ((HO.out _ hS6).1.1.2).cell 4⟩
          clear hK K
          try simp only [Act.put, List.setIfInBounds_toArray, List.set_cons_zero, List.set_cons_succ]
          refine wpAnyH_take (i := 20) (oi := { dst := some 13, op := Op.assign (Operand.tmp 65), type := 33, pos := _, after := #[{ on := 17, ground := Ground.data }, { on := 19, ground := Ground.chain }, { on := 0, ground := Ground.phase }, { on := 1, ground := Ground.phase }, { on := 2, ground := Ground.phase }, { on := 3, ground := Ground.phase }, { on := 4, ground := Ground.phase }, { on := 5, ground := Ground.phase }, { on := 6, ground := Ground.phase }, { on := 7, ground := Ground.phase }, { on := 8, ground := Ground.phase }, { on := 9, ground := Ground.phase }, { on := 10, ground := Ground.phase }, { on := 11, ground := Ground.phase }, { on := 12, ground := Ground.phase }, { on := 13, ground := Ground.phase }, { on := 14, ground := Ground.phase }, { on := 15, ground := Ground.phase }, { on := 16, ground := Ground.phase }, { on := 17, ground := Ground.phase }, { on := 18, ground := Ground.phase }, { on := 19, ground := Ground.phase }], guard := none }) (v := ?_) rfl (by kernel_rfl) (by kernel_rfl) (by kernel_rfl) (fun _ _ _ h => h) (Or.inl ⟨by rfl, ?_⟩) (by assumption) ?_
          rotate_left
          · (intro w hSw; obtain ⟨s0, s1, s2, s3, s4⟩ := hSw; (go_simp <;> with_reducible rfl))
          try simp only [Act.put, List.setIfInBounds_toArray, List.set_cons_zero, List.set_cons_succ]
          refine wpAnyH_done (by kernel_rfl) ?_ _
          go_wp2_with fail
          go_meet
          case rel => exact ⟨d1, d2, d3, p3, c3, _, by omega, rfl, rfl, HO.out _ hS6, hZ6, hR6, hG6⟩
      · go_simp
        have hh := (G.refl w1_d1 none).alloc (.cells #[.string ⟨#[]⟩, .string ⟨#[]⟩, .int .i64 0, .int .i64 0, .slice none 0 0] 46)
        have hG2 := hG1.trans0 hh
        have hz : w9.heap.size ≤ w1_d1.heap.size := hS1.size
        have hS2 := hS1.trans (GS.of_G hh)
        have hZ2 := Bk.new w1_d1 46 #[.string ⟨#[]⟩, .string ⟨#[]⟩, .int .i64 0, .int .i64 0, .slice none 0 0]
        have hSB2 := hSB1.quiet hh
        clear hSB1
        clear hh hG1 hS1
        refine hK.out _ _ ?_ (fun hHeld => ?_)
        · exact ⟨((HO.out _ hS2).1.1.2).cell 0, ((HO.out _ hS2).1.1.2).cell 1, ((HO.out _ hS2).1.1.2).cell 2, ((HO.out _ hS2).1.1.2).cell 3, ((HO.out _ hS2).1.1.2).cell 4⟩
        clear hK K
        try simp only [Act.put, List.setIfInBounds_toArray, List.set_cons_zero, List.set_cons_succ]
        refine wpAnyH_ready (rs := [7]) (by kernel_rfl) (by simp) ?_
        refine (AllReadyH.cons (o := { dst := some 56, op := Op.call { callee := Callee.value (Operand.func 6), args := #[Operand.tmp 55, Operand.const (Value.int IntKind.i64 0), Operand.const (Value.int IntKind.i64 500)], argTypes := #[23, 3, 3] }, type := 3, pos := _, after := #[{ on := 6, ground := Ground.data }, { on := 3, ground := Ground.chain }], guard := none }) rfl (fun K hK => ?_) AllReadyH.nil)
        go_simp
        refine (range_c 0 500 _ _ _ hSB2 (by omega) (by omega) (by omega) (by omega)).mono ?_
        rintro e w3_d2 ⟨d2, rfl, d20, d21, hSB3, hh⟩
        have hG3 := hG2.trans hh
        have hS3 := hS2.trans (GS.stream hh)
        have hZ3 := hZ2.grown hh (fun e => by have := Option.some.inj e; omega)
        clear hh hSB2 hG2 hS2 hZ2
        have hw2 : IntKind.i64.wrap (m + d2) = m + d2 := by rw [IntKind.wrap_i64]; omega
        refine hK.out _ _ ?_ (fun hHeld => ?_)
        · exact ⟨((HO.out _ hS3).1.1.2).cell 0, ((HO.out _ hS3).1.1.2).cell 1, ((HO.out _ hS3).1.1.2).cell 2, ((HO.out _ hS3).1.1.2).cell 3, ((HO.out _ hS3).1.1.2).cell 4⟩
        clear hK K
        try simp only [Act.put, List.setIfInBounds_toArray, List.set_cons_zero, List.set_cons_succ]
        refine wpAnyH_take (i := 8) (oi := { dst := some 57, op := Op.binOp BinOp.add 3 (Operand.tmp 54) (Operand.tmp 56) 3, type := 3, pos := _, after := #[{ on := 5, ground := Ground.data }, { on := 7, ground := Ground.data }], guard := none }) (v := ?_) rfl (by kernel_rfl) (by kernel_rfl) (by kernel_rfl) (fun _ _ _ h => h) (Or.inl ⟨by rfl, ?_⟩) (by assumption) ?_
        rotate_left
        · (intro w hSw; obtain ⟨s0, s1, s2, s3, s4⟩ := hSw; (go_simp <;> with_reducible rfl))
        try simp only [Act.put, List.setIfInBounds_toArray, List.set_cons_zero, List.set_cons_succ]
        refine wpAnyH_ready (rs := [11]) (by kernel_rfl) (by simp) ?_
        refine (AllReadyH.cons (o := { dst := some 60, op := Op.call { callee := Callee.value (Operand.func 6), args := #[Operand.tmp 59, Operand.const (Value.int IntKind.i64 0), Operand.const (Value.int IntKind.i64 1)], argTypes := #[23, 3, 3] }, type := 3, pos := _, after := #[{ on := 10, ground := Ground.data }, { on := 7, ground := Ground.chain }], guard := none }) rfl (fun K hK => ?_) AllReadyH.nil)
        go_simp
        refine (range_c 0 1 _ _ _ hSB3 (by omega) (by omega) (by omega) (by omega)).mono ?_
        rintro e w4_d3 ⟨d3, rfl, d30, d31, hSB4, hh⟩
        have hG4 := hG3.trans hh
        have hS4 := hS3.trans (GS.stream hh)
        have hZ4 := hZ3.grown hh (fun e => by have := Option.some.inj e; omega)
        clear hh hSB3 hG3 hS3 hZ3
        have hw3 : IntKind.i64.wrap (f - d3) = f - d3 := by rw [IntKind.wrap_i64]; omega
        refine hK.out _ _ ?_ (fun hHeld => ?_)
        · exact ⟨((HO.out _ hS4).1.1.2).cell 0, ((HO.out _ hS4).1.1.2).cell 1, ((HO.out _ hS4).1.1.2).cell 2, ((HO.out _ hS4).1.1.2).cell 3, ((HO.out _ hS4).1.1.2).cell 4⟩
        clear hK K
        try simp only [Act.put, List.setIfInBounds_toArray, List.set_cons_zero, List.set_cons_succ]
        refine wpAnyH_take (i := 12) (oi := { dst := some 61, op := Op.binOp BinOp.sub 3 (Operand.tmp 58) (Operand.tmp 60) 3, type := 3, pos := _, after := #[{ on := 9, ground := Ground.data }, { on := 11, ground := Ground.data }], guard := none }) (v := ?_) rfl (by kernel_rfl) (by kernel_rfl) (by kernel_rfl) (fun _ _ _ h => h) (Or.inl ⟨by rfl, ?_⟩) (by assumption) ?_
        rotate_left
        · (intro w hSw; obtain ⟨s0, s1, s2, s3, s4⟩ := hSw; (go_simp <;> with_reducible rfl))
        try simp only [Act.put, List.setIfInBounds_toArray, List.set_cons_zero, List.set_cons_succ]
        refine wpAnyH_take (i := 13) (oi := { dst := some 62, op := Op.build 50 #[(0, Operand.tmp 53), (1, Operand.const (Value.string { data := #[115, 49] })), (2, Operand.tmp 57), (3, Operand.tmp 61)], type := 50, pos := _, after := #[{ on := 4, ground := Ground.data }, { on := 8, ground := Ground.data }, { on := 12, ground := Ground.data }], guard := none }) (v := ?_) rfl (by kernel_rfl) (by kernel_rfl) (by kernel_rfl) (fun _ _ _ h => h) (Or.inl ⟨by rfl, ?_⟩) (by assumption) ?_
        rotate_left
        · (intro w hSw; obtain ⟨s0, s1, s2, s3, s4⟩ := hSw; (go_simp <;> with_reducible rfl))
        try simp only [Act.put, List.setIfInBounds_toArray, List.set_cons_zero, List.set_cons_succ]
        refine wpAnyH_ready (rs := [14]) (by kernel_rfl) (by simp) ?_
        refine (AllReadyH.cons (o := { dst := some 63, op := Op.call { callee := Callee.value (Operand.func 13), args := #[Operand.tmp 49, Operand.tmp 62], argTypes := #[46, 50] }, type := 47, pos := _, after := #[{ on := 0, ground := Ground.data }, { on := 13, ground := Ground.data }, { on := 11, ground := Ground.chain }], guard := none }) rfl (fun K hK => ?_) AllReadyH.nil)
        go_simp
        refine (lmClose_c p1 c1 (t + d1) (m + d2) (f - d3) _ (by omega) (by omega) (by omega) (by omega) (by omega) (by omega) (HO.out _ hS4).1.1.1.2).mono ?_
        rintro e w5_c ⟨p3, c3, rfl, hR5, hbx, hh⟩
        have hG5 := hG4.trans0 hh
        have hS5 := hS4.trans (GS.of_G hh)
        have hne5 : ∀ k, (Value.slice p3 1 c3).ownBlock = some k → k ≠ w1_d1.heap.size := fun k e => by have := hbx k e; have := hZ4.lt; omega
        have hZ5 := hZ4.quiet hh
        clear hh hbx hSB4 hG4 hS4 hZ4
        refine hK.out _ _ ?_ (fun hHeld => ?_)
        · exact ⟨((HO.out _ hS5).1.1.2).cell 0, ((HO.out _ hS5).1.1.2).cell 1, ((HO.out _ hS5).1.1.2).cell 2, ((HO.out _ hS5).1.1.2).cell 3, ((HO.out _ hS5).1.1.2).cell 4⟩
        clear hK K
        try simp only [Act.put, List.setIfInBounds_toArray, List.set_cons_zero, List.set_cons_succ]
        refine wpAnyH_take (i := 15) (oi := { dst := some 48, op := Op.move (Operand.tmp 63), type := 47, pos := _, after := #[{ on := 14, ground := Ground.data }], guard := none }) (v := ?_) rfl (by kernel_rfl) (by kernel_rfl) (by kernel_rfl) (fun _ _ _ h => h) (Or.inl ⟨by rfl, ?_⟩) (by assumption) ?_
        rotate_left
        · (intro w hSw; obtain ⟨s0, s1, s2, s3, s4⟩ := hSw; (go_simp <;> with_reducible rfl))
        try simp only [Act.put, List.setIfInBounds_toArray, List.set_cons_zero, List.set_cons_succ]
        refine wpAnyH_take (i := 16) (oi := { dst := some 64, op := Op.extract (Operand.tmp 48) 0, type := 46, pos := _, after := #[{ on := 15, ground := Ground.data }], guard := none }) (v := ?_) rfl (by kernel_rfl) (by kernel_rfl) (by kernel_rfl) (fun _ _ _ h => h) (Or.inl ⟨by rfl, ?_⟩) (by assumption) ?_
        rotate_left
        · (intro w hSw; obtain ⟨s0, s1, s2, s3, s4⟩ := hSw; (go_simp <;> with_reducible rfl))
        try simp only [Act.put, List.setIfInBounds_toArray, List.set_cons_zero, List.set_cons_succ]
        refine wpAnyH_take (i := 17) (oi := { dst := some 65, op := Op.extract (Operand.tmp 48) 1, type := 33, pos := _, after := #[{ on := 15, ground := Ground.data }, { on := 19, ground := Ground.gcOnly Departure.lateStores }], guard := none }) (v := ?_) rfl (by kernel_rfl) (by kernel_rfl) (by kernel_rfl) (fun _ _ _ h => h) (Or.inl ⟨by rfl, ?_⟩) (by assumption) ?_
        rotate_left
        · (intro w hSw; obtain ⟨s0, s1, s2, s3, s4⟩ := hSw; (go_simp <;> with_reducible rfl))
        try simp only [Act.put, List.setIfInBounds_toArray, List.set_cons_zero, List.set_cons_succ]
        refine wpAnyH_ready (rs := [19]) (by kernel_rfl) (by simp) ?_
        refine (AllReadyH.cons (o := { dst := none, op := Op.store 46 (Operand.tmp 12) (Operand.tmp 64), type := 0, pos := _, after := #[{ on := 18, ground := Ground.data }, { on := 16, ground := Ground.data }, { on := 14, ground := Ground.chain }, { on := 0, ground := Ground.phase }, { on := 1, ground := Ground.phase }, { on := 2, ground := Ground.phase }, { on := 3, ground := Ground.phase }, { on := 4, ground := Ground.phase }, { on := 5, ground := Ground.phase }, { on := 6, ground := Ground.phase }, { on := 7, ground := Ground.phase }, { on := 8, ground := Ground.phase }, { on := 9, ground := Ground.phase }, { on := 10, ground := Ground.phase }, { on := 11, ground := Ground.phase }, { on := 12, ground := Ground.phase }, { on := 13, ground := Ground.phase }, { on := 14, ground := Ground.phase }, { on := 15, ground := Ground.phase }, { on := 16, ground := Ground.phase }, { on := 17, ground := Ground.textOnly Departure.lateStores }, { on := 18, ground := Ground.phase }], guard := none }) rfl (fun K hK => ?_) AllReadyH.nil)
        refine st_wp rfl (wp_store_row 46 _ _ rfl (w1_d1.heap.size) (lmC p3 c3) rfl rfl 46 _ hZ5 (lm_info _ _) rfl (lm_oneC _ _) ?_)
        have hG6 := hG5.setRow (g := w1_d1.heap.size) (.inl (by omega)) (lmC p3 c3)
        have hS6 := hS5.trans (GS.row (g := w1_d1.heap.size) hz (lmC p3 c3))
        have hR6 := Rd.grown hR5 ((G.refl _ (some (w1_d1.heap.size))).setRow (.inr rfl) (lmC p3 c3)) (fun k e hk => by cases e; exact hne5 _ hk rfl)
        have hZ6 := hZ5.setRow (lmC p3 c3)
        refine hK.out _ _ ?_ (fun hHeld => ?_)
        · exact ⟨((HO.out _ hS6).1.1.2).cell 0, ((HO.out _ hS6).1.1.2).cell 1, ((HO.out _ hS6).1.1.2).cell 2, ((HO.out _ hS6).1.1.2).cell 3, ((HO.out _ hS6).1.1.2).cell 4⟩
        clear hK K
        try simp only [Act.put, List.setIfInBounds_toArray, List.set_cons_zero, List.set_cons_succ]
        refine wpAnyH_take (i := 20) (oi := { dst := some 13, op := Op.assign (Operand.tmp 65), type := 33, pos := _, after := #[{ on := 17, ground := Ground.data }, { on := 19, ground := Ground.chain }, { on := 0, ground := Ground.phase }, { on := 1, ground := Ground.phase }, { on := 2, ground := Ground.phase }, { on := 3, ground := Ground.phase }, { on := 4, ground := Ground.phase }, { on := 5, ground := Ground.phase }, { on := 6, ground := Ground.phase }, { on := 7, ground := Ground.phase }, { on := 8, ground := Ground.phase }, { on := 9, ground := Ground.phase }, { on := 10, ground := Ground.phase }, { on := 11, ground := Ground.phase }, { on := 12, ground := Ground.phase }, { on := 13, ground := Ground.phase }, { on := 14, ground := Ground.phase }, { on := 15, ground := Ground.phase }, { on := 16, ground := Ground.phase }, { on := 17, ground := Ground.phase }, { on := 18, ground := Ground.phase }, { on := 19, ground := Ground.phase }], guard := none }) (v := ?_) rfl (by kernel_rfl) (by kernel_rfl) (by kernel_rfl) (fun _ _ _ h => h) (Or.inl ⟨by rfl, ?_⟩) (by assumption) ?_
        rotate_left
        · (intro w hSw; obtain ⟨s0, s1, s2, s3, s4⟩ := hSw; (go_simp <;> with_reducible rfl))
        try simp only [Act.put, List.setIfInBounds_toArray, List.set_cons_zero, List.set_cons_succ]
        refine wpAnyH_done (by kernel_rfl) ?_ _
        go_wp2_with fail
        go_meet
        case rel => exact ⟨d1, d2, d3, p3, c3, _, by omega, rfl, rfl, HO.out _ hS6, hZ6, hR6, hG6⟩
    · go_simp
      have hh := (G.refl w9.drew none).alloc (.cells #[.string ⟨#[]⟩, .string ⟨#[]⟩, .int .i64 0, .int .i64 0, .slice none 0 0] 46)
      have hG1 := hG0.trans0 hh
      have hz : w9.heap.size ≤ w9.drew.heap.size := hS0.size
      have hS1 := hS0.trans (GS.of_G hh)
      have hZ1 := Bk.new w9.drew 46 #[.string ⟨#[]⟩, .string ⟨#[]⟩, .int .i64 0, .int .i64 0, .slice none 0 0]
      have hSB1 := hSB0.quiet hh
      clear hSB0
      clear hh hG0 hS0
      refine hK.out _ _ ?_ (fun hHeld => ?_)
      · exact ⟨((HO.out _ hS1).1.1.2).cell 0, ((HO.out _ hS1).1.1.2).cell 1, ((HO.out _ hS1).1.1.2).cell 2, ((HO.out _ hS1).1.1.2).cell 3, ((HO.out _ hS1).1.1.2).cell 4⟩
      clear hK K
      try simp only [Act.put, List.setIfInBounds_toArray, List.set_cons_zero, List.set_cons_succ]
      refine wpAnyH_ready (rs := [3]) (by kernel_rfl) (by simp) ?_
      refine (AllReadyH.cons (o := { dst := some 52, op := Op.call { callee := Callee.value (Operand.func 6), args := #[Operand.tmp 51, Operand.const (Value.int IntKind.i64 0), Operand.const (Value.int IntKind.i64 3000)], argTypes := #[23, 3, 3] }, type := 3, pos := _, after := #[{ on := 2, ground := Ground.data }], guard := none }) rfl (fun K hK => ?_) AllReadyH.nil)
      go_simp
      refine (range_c 0 3000 _ _ _ hSB1 (by omega) (by omega) (by omega) (by omega)).mono ?_
      rintro e w2_d1 ⟨d1, rfl, d10, d11, hSB2, hh⟩
      have hG2 := hG1.trans hh
      have hS2 := hS1.trans (GS.stream hh)
      have hZ2 := hZ1.grown hh (fun e => by have := Option.some.inj e; omega)
      clear hh hSB1 hG1 hS1 hZ1
      have hw1 : IntKind.i64.wrap (t + d1) = t + d1 := by rw [IntKind.wrap_i64]; omega
      refine hK.out _ _ ?_ (fun hHeld => ?_)
      · exact ⟨((HO.out _ hS2).1.1.2).cell 0, ((HO.out _ hS2).1.1.2).cell 1, ((HO.out _ hS2).1.1.2).cell 2, ((HO.out _ hS2).1.1.2).cell 3, ((HO.out _ hS2).1.1.2).cell 4⟩
      clear hK K
      try simp only [Act.put, List.setIfInBounds_toArray, List.set_cons_zero, List.set_cons_succ]
      refine wpAnyH_take (i := 4) (oi := { dst := some 53, op := Op.binOp BinOp.add 3 (Operand.tmp 50) (Operand.tmp 52) 3, type := 3, pos := _, after := #[{ on := 1, ground := Ground.data }, { on := 3, ground := Ground.data }], guard := none }) (v := ?_) rfl (by kernel_rfl) (by kernel_rfl) (by kernel_rfl) (fun _ _ _ h => h) (Or.inl ⟨by rfl, ?_⟩) (by assumption) ?_
      rotate_left
      · (intro w hSw; obtain ⟨s0, s1, s2, s3, s4⟩ := hSw; (go_simp <;> with_reducible rfl))
      try simp only [Act.put, List.setIfInBounds_toArray, List.set_cons_zero, List.set_cons_succ]
      refine wpAnyH_ready (rs := [7]) (by kernel_rfl) (by simp) ?_
      refine (AllReadyH.cons (o := { dst := some 56, op := Op.call { callee := Callee.value (Operand.func 6), args := #[Operand.tmp 55, Operand.const (Value.int IntKind.i64 0), Operand.const (Value.int IntKind.i64 500)], argTypes := #[23, 3, 3] }, type := 3, pos := _, after := #[{ on := 6, ground := Ground.data }, { on := 3, ground := Ground.chain }], guard := none }) rfl (fun K hK => ?_) AllReadyH.nil)
      go_simp
      refine (range_c 0 500 _ _ _ hSB2 (by omega) (by omega) (by omega) (by omega)).mono ?_
      rintro e w3_d2 ⟨d2, rfl, d20, d21, hSB3, hh⟩
      have hG3 := hG2.trans hh
      have hS3 := hS2.trans (GS.stream hh)
      have hZ3 := hZ2.grown hh (fun e => by have := Option.some.inj e; omega)
      clear hh hSB2 hG2 hS2 hZ2
      have hw2 : IntKind.i64.wrap (m + d2) = m + d2 := by rw [IntKind.wrap_i64]; omega
      refine hK.out _ _ ?_ (fun hHeld => ?_)
      · exact ⟨((HO.out _ hS3).1.1.2).cell 0, ((HO.out _ hS3).1.1.2).cell 1, ((HO.out _ hS3).1.1.2).cell 2, ((HO.out _ hS3).1.1.2).cell 3, ((HO.out _ hS3).1.1.2).cell 4⟩
      clear hK K
      try simp only [Act.put, List.setIfInBounds_toArray, List.set_cons_zero, List.set_cons_succ]
      refine wpAnyH_take (i := 8) (oi := { dst := some 57, op := Op.binOp BinOp.add 3 (Operand.tmp 54) (Operand.tmp 56) 3, type := 3, pos := _, after := #[{ on := 5, ground := Ground.data }, { on := 7, ground := Ground.data }], guard := none }) (v := ?_) rfl (by kernel_rfl) (by kernel_rfl) (by kernel_rfl) (fun _ _ _ h => h) (Or.inl ⟨by rfl, ?_⟩) (by assumption) ?_
      rotate_left
      · (intro w hSw; obtain ⟨s0, s1, s2, s3, s4⟩ := hSw; (go_simp <;> with_reducible rfl))
      try simp only [Act.put, List.setIfInBounds_toArray, List.set_cons_zero, List.set_cons_succ]
      refine wpAnyH_ready (rs := [11]) (by kernel_rfl) (by simp) ?_
      refine (AllReadyH.cons (o := { dst := some 60, op := Op.call { callee := Callee.value (Operand.func 6), args := #[Operand.tmp 59, Operand.const (Value.int IntKind.i64 0), Operand.const (Value.int IntKind.i64 1)], argTypes := #[23, 3, 3] }, type := 3, pos := _, after := #[{ on := 10, ground := Ground.data }, { on := 7, ground := Ground.chain }], guard := none }) rfl (fun K hK => ?_) AllReadyH.nil)
      go_simp
      refine (range_c 0 1 _ _ _ hSB3 (by omega) (by omega) (by omega) (by omega)).mono ?_
      rintro e w4_d3 ⟨d3, rfl, d30, d31, hSB4, hh⟩
      have hG4 := hG3.trans hh
      have hS4 := hS3.trans (GS.stream hh)
      have hZ4 := hZ3.grown hh (fun e => by have := Option.some.inj e; omega)
      clear hh hSB3 hG3 hS3 hZ3
      have hw3 : IntKind.i64.wrap (f - d3) = f - d3 := by rw [IntKind.wrap_i64]; omega
      refine hK.out _ _ ?_ (fun hHeld => ?_)
      · exact ⟨((HO.out _ hS4).1.1.2).cell 0, ((HO.out _ hS4).1.1.2).cell 1, ((HO.out _ hS4).1.1.2).cell 2, ((HO.out _ hS4).1.1.2).cell 3, ((HO.out _ hS4).1.1.2).cell 4⟩
      clear hK K
      try simp only [Act.put, List.setIfInBounds_toArray, List.set_cons_zero, List.set_cons_succ]
      refine wpAnyH_take (i := 12) (oi := { dst := some 61, op := Op.binOp BinOp.sub 3 (Operand.tmp 58) (Operand.tmp 60) 3, type := 3, pos := _, after := #[{ on := 9, ground := Ground.data }, { on := 11, ground := Ground.data }], guard := none }) (v := ?_) rfl (by kernel_rfl) (by kernel_rfl) (by kernel_rfl) (fun _ _ _ h => h) (Or.inl ⟨by rfl, ?_⟩) (by assumption) ?_
      rotate_left
      · (intro w hSw; obtain ⟨s0, s1, s2, s3, s4⟩ := hSw; (go_simp <;> with_reducible rfl))
      try simp only [Act.put, List.setIfInBounds_toArray, List.set_cons_zero, List.set_cons_succ]
      refine wpAnyH_take (i := 13) (oi := { dst := some 62, op := Op.build 50 #[(0, Operand.tmp 53), (1, Operand.const (Value.string { data := #[115, 49] })), (2, Operand.tmp 57), (3, Operand.tmp 61)], type := 50, pos := _, after := #[{ on := 4, ground := Ground.data }, { on := 8, ground := Ground.data }, { on := 12, ground := Ground.data }], guard := none }) (v := ?_) rfl (by kernel_rfl) (by kernel_rfl) (by kernel_rfl) (fun _ _ _ h => h) (Or.inl ⟨by rfl, ?_⟩) (by assumption) ?_
      rotate_left
      · (intro w hSw; obtain ⟨s0, s1, s2, s3, s4⟩ := hSw; (go_simp <;> with_reducible rfl))
      try simp only [Act.put, List.setIfInBounds_toArray, List.set_cons_zero, List.set_cons_succ]
      refine wpAnyH_ready (rs := [14]) (by kernel_rfl) (by simp) ?_
      refine (AllReadyH.cons (o := { dst := some 63, op := Op.call { callee := Callee.value (Operand.func 13), args := #[Operand.tmp 49, Operand.tmp 62], argTypes := #[46, 50] }, type := 47, pos := _, after := #[{ on := 0, ground := Ground.data }, { on := 13, ground := Ground.data }, { on := 11, ground := Ground.chain }], guard := none }) rfl (fun K hK => ?_) AllReadyH.nil)
      go_simp
      refine (lmClose_c p1 c1 (t + d1) (m + d2) (f - d3) _ (by omega) (by omega) (by omega) (by omega) (by omega) (by omega) (HO.out _ hS4).1.1.1.2).mono ?_
      rintro e w5_c ⟨p3, c3, rfl, hR5, hbx, hh⟩
      have hG5 := hG4.trans0 hh
      have hS5 := hS4.trans (GS.of_G hh)
      have hne5 : ∀ k, (Value.slice p3 1 c3).ownBlock = some k → k ≠ w9.drew.heap.size := fun k e => by have := hbx k e; have := hZ4.lt; omega
      have hZ5 := hZ4.quiet hh
      clear hh hbx hSB4 hG4 hS4 hZ4
      refine hK.out _ _ ?_ (fun hHeld => ?_)
      · exact ⟨((HO.out _ hS5).1.1.2).cell 0, ((HO.out _ hS5).1.1.2).cell 1, ((HO.out _ hS5).1.1.2).cell 2, ((HO.out _ hS5).1.1.2).cell 3, ((HO.out _ hS5).1.1.2).cell 4⟩
      clear hK K
      try simp only [Act.put, List.setIfInBounds_toArray, List.set_cons_zero, List.set_cons_succ]
      refine wpAnyH_take (i := 15) (oi := { dst := some 48, op := Op.move (Operand.tmp 63), type := 47, pos := _, after := #[{ on := 14, ground := Ground.data }], guard := none }) (v := ?_) rfl (by kernel_rfl) (by kernel_rfl) (by kernel_rfl) (fun _ _ _ h => h) (Or.inl ⟨by rfl, ?_⟩) (by assumption) ?_
      rotate_left
      · (intro w hSw; obtain ⟨s0, s1, s2, s3, s4⟩ := hSw; (go_simp <;> with_reducible rfl))
      try simp only [Act.put, List.setIfInBounds_toArray, List.set_cons_zero, List.set_cons_succ]
      refine wpAnyH_take (i := 16) (oi := { dst := some 64, op := Op.extract (Operand.tmp 48) 0, type := 46, pos := _, after := #[{ on := 15, ground := Ground.data }], guard := none }) (v := ?_) rfl (by kernel_rfl) (by kernel_rfl) (by kernel_rfl) (fun _ _ _ h => h) (Or.inl ⟨by rfl, ?_⟩) (by assumption) ?_
      rotate_left
      · (intro w hSw; obtain ⟨s0, s1, s2, s3, s4⟩ := hSw; (go_simp <;> with_reducible rfl))
      try simp only [Act.put, List.setIfInBounds_toArray, List.set_cons_zero, List.set_cons_succ]
      refine wpAnyH_take (i := 17) (oi := { dst := some 65, op := Op.extract (Operand.tmp 48) 1, type := 33, pos := _, after := #[{ on := 15, ground := Ground.data }, { on := 19, ground := Ground.gcOnly Departure.lateStores }], guard := none }) (v := ?_) rfl (by kernel_rfl) (by kernel_rfl) (by kernel_rfl) (fun _ _ _ h => h) (Or.inl ⟨by rfl, ?_⟩) (by assumption) ?_
      rotate_left
      · (intro w hSw; obtain ⟨s0, s1, s2, s3, s4⟩ := hSw; (go_simp <;> with_reducible rfl))
      try simp only [Act.put, List.setIfInBounds_toArray, List.set_cons_zero, List.set_cons_succ]
      refine wpAnyH_ready (rs := [19]) (by kernel_rfl) (by simp) ?_
      refine (AllReadyH.cons (o := { dst := none, op := Op.store 46 (Operand.tmp 12) (Operand.tmp 64), type := 0, pos := _, after := #[{ on := 18, ground := Ground.data }, { on := 16, ground := Ground.data }, { on := 14, ground := Ground.chain }, { on := 0, ground := Ground.phase }, { on := 1, ground := Ground.phase }, { on := 2, ground := Ground.phase }, { on := 3, ground := Ground.phase }, { on := 4, ground := Ground.phase }, { on := 5, ground := Ground.phase }, { on := 6, ground := Ground.phase }, { on := 7, ground := Ground.phase }, { on := 8, ground := Ground.phase }, { on := 9, ground := Ground.phase }, { on := 10, ground := Ground.phase }, { on := 11, ground := Ground.phase }, { on := 12, ground := Ground.phase }, { on := 13, ground := Ground.phase }, { on := 14, ground := Ground.phase }, { on := 15, ground := Ground.phase }, { on := 16, ground := Ground.phase }, { on := 17, ground := Ground.textOnly Departure.lateStores }, { on := 18, ground := Ground.phase }], guard := none }) rfl (fun K hK => ?_) AllReadyH.nil)
      refine st_wp rfl (wp_store_row 46 _ _ rfl (w9.drew.heap.size) (lmC p3 c3) rfl rfl 46 _ hZ5 (lm_info _ _) rfl (lm_oneC _ _) ?_)
      have hG6 := hG5.setRow (g := w9.drew.heap.size) (.inl (by omega)) (lmC p3 c3)
      have hS6 := hS5.trans (GS.row (g := w9.drew.heap.size) hz (lmC p3 c3))
      have hR6 := Rd.grown hR5 ((G.refl _ (some (w9.drew.heap.size))).setRow (.inr rfl) (lmC p3 c3)) (fun k e hk => by cases e; exact hne5 _ hk rfl)
      have hZ6 := hZ5.setRow (lmC p3 c3)
      refine hK.out _ _ ?_ (fun hHeld => ?_)
      · exact ⟨((HO.out _ hS6).1.1.2).cell 0, ((HO.out _ hS6).1.1.2).cell 1, ((HO.out _ hS6).1.1.2).cell 2, ((HO.out _ hS6).1.1.2).cell 3, ((HO.out _ hS6).1.1.2).cell 4⟩
      clear hK K
      try simp only [Act.put, List.setIfInBounds_toArray, List.set_cons_zero, List.set_cons_succ]
      refine wpAnyH_take (i := 20) (oi := { dst := some 13, op := Op.assign (Operand.tmp 65), type := 33, pos := _, after := #[{ on := 17, ground := Ground.data }, { on := 19, ground := Ground.chain }, { on := 0, ground := Ground.phase }, { on := 1, ground := Ground.phase }, { on := 2, ground := Ground.phase }, { on := 3, ground := Ground.phase }, { on := 4, ground := Ground.phase }, { on := 5, ground := Ground.phase }, { on := 6, ground := Ground.phase }, { on := 7, ground := Ground.phase }, { on := 8, ground := Ground.phase }, { on := 9, ground := Ground.phase }, { on := 10, ground := Ground.phase }, { on := 11, ground := Ground.phase }, { on := 12, ground := Ground.phase }, { on := 13, ground := Ground.phase }, { on := 14, ground := Ground.phase }, { on := 15, ground := Ground.phase }, { on := 16, ground := Ground.phase }, { on := 17, ground := Ground.phase }, { on := 18, ground := Ground.phase }, { on := 19, ground := Ground.phase }], guard := none }) (v := ?_) rfl (by kernel_rfl) (by kernel_rfl) (by kernel_rfl) (fun _ _ _ h => h) (Or.inl ⟨by rfl, ?_⟩) (by assumption) ?_
      rotate_left
      · (intro w hSw; obtain ⟨s0, s1, s2, s3, s4⟩ := hSw; (go_simp <;> with_reducible rfl))
      try simp only [Act.put, List.setIfInBounds_toArray, List.set_cons_zero, List.set_cons_succ]
      refine wpAnyH_done (by kernel_rfl) ?_ _
      go_wp2_with fail
      go_meet
      case rel => exact ⟨d1, d2, d3, p3, c3, _, by omega, rfl, rfl, HO.out _ hS6, hZ6, hR6, hG6⟩
    -- @END1
  case rest =>
    obtain ⟨d1, d2, d3, p3, c3, g4, ⟨d10, d11, d20, d21, d30, d31⟩, rfl, rfl, ⟨⟨⟨⟨hNd, -⟩, -⟩, hRd⟩, hPd⟩, hQd, hR2d, hGd⟩ := hcut
    clear hSB9 hG09 HO hlt9
    obtain ⟨N1, hN1⟩ : ∃ q, lmE ⟨a0, a1, a2, a3, a4, a5, a6⟩ t m f = q := ⟨_, rfl⟩
    obtain ⟨N2, hN2⟩ : ∃ q, lmE ⟨a0, a1, a2, a3, a4, a5, a6⟩ (t + d1) (m + d2) (f - d3) = q := ⟨_, rfl⟩
    have hle : N1 ≤ N2 := by rw [← hN1, ← hN2]; exact HLE.out _ _ _ _ _ _ (by omega) (by omega) (by omega)
    have CT1 := Lib.hid (fun v w => CT.out v t m f w (by omega) (by omega) (by omega) (by omega) (by omega) (by omega))
    have CT2 := Lib.hid (fun v w => CT.out v (t + d1) (m + d2) (f - d3) w (by omega) (by omega) (by omega) (by omega) (by omega) (by omega))
    rw [hN1] at CT1
    rw [hN2] at CT2
    have CB1 := Lib.hid (fun w => CB.out p2 c2 t m f w (by omega) (by omega) (by omega) (by omega) (by omega) (by omega))
    have CB2 := Lib.hid (fun w => CB.out p3 c3 (t + d1) (m + d2) (f - d3) w (by omega) (by omega) (by omega) (by omega) (by omega) (by omega))
    clear hN1 hN2 CT CB HLE t0 t1 m0 m1 f0 f1 d10 d11 d20 d21 d30 d31
    generalize biL ⟨a0, a1, a2, a3, a4, a5, a6⟩ lmH (lmL (t, lmS, m, f)) [] = B1 at CT1 CB1
    generalize biL ⟨a0, a1, a2, a3, a4, a5, a6⟩ lmH (lmL (t + d1, lmS, m + d2, f - d3)) [] = B2 at CT2 CB2
    go_wp2_with (first | (refine wpList_load_row rfl 42 _ rfl g1 rfl 42 #[.int .i64 a0, .int .i64 a1, .int .i64 a2, .int .i64 a3, .int .i64 a4, .int .i64 a5, .int .i64 a6] (0, 0) _ hNd Try.underlying42 rfl (de_info ⟨a0, a1, a2, a3, a4, a5, a6⟩) ?_) | (refine wpList_load_row rfl 46 _ rfl g3 rfl 46 (lmC p2 c2) (0, 0) _ hPd Try.underlying46 rfl (lm_info _ _) ?_))
    refine (CB1.out _ hRd).mono ?_; rintro e w20 ⟨u1, rfl, hU1, hG20⟩
    have hNe := hNd.quiet hG20
    have hQe := hQd.quiet hG20
    have hRe := hR2d.quiet hG20
    have hGe := hGd.trans0 hG20
    clear hNd hQd hRd hR2d hGd hPd hG20 CB1
    go_wp2_with (first | (refine wpList_load_row rfl 42 _ rfl g1 rfl 42 #[.int .i64 a0, .int .i64 a1, .int .i64 a2, .int .i64 a3, .int .i64 a4, .int .i64 a5, .int .i64 a6] (0, 0) _ hNe Try.underlying42 rfl (de_info ⟨a0, a1, a2, a3, a4, a5, a6⟩) ?_) | (refine wpList_load_row rfl 46 _ rfl g4 rfl 46 (lmC p3 c3) (0, 0) _ hQe Try.underlying46 rfl (lm_info _ _) ?_))
    refine (CB2.out _ hRe).mono ?_; rintro e w21 ⟨u2, rfl, hU2, hG21⟩
    have hU1 := Rd.quiet hU1 hG21
    have hGe := hGe.trans0 hG21
    clear hNe hQe hRe hG21 CB2
    go_wp2_with fail
    refine (CT1.out _ _ hU1).mono ?_; rintro e w22 ⟨rfl, hG22⟩
    have hU2 := Rd.quiet hU2 hG22
    have hGe := hGe.trans0 hG22
    clear hU1 hG22 CT1
    go_wp2_with fail
    refine (CT2.out _ _ hU2).mono ?_; rintro e w23 ⟨rfl, hG23⟩
    have hGe := hGe.trans0 hG23
    clear hU2 hG23 CT2
    go_wp2_with fail
    refine (ready_c _).mono ?_; rintro e w24 ⟨rfl, hG24⟩
    go_wp2_with fail
    go_ret
    exact ⟨rfl, (hGe.trans0 hG24).own (Nat.le_refl _)⟩
end Go.Proofs.Ytbddcbbjmgepnaa

/- A row that lists no variable: a start; the row's last step. -/
namespace Go.Proofs.Ytbddcbbjmgepnaa
open Go.ChangeShapes Go.WideShapes Go.ChangeAt Go.RowKit

theorem own : ownKnob Try.prog.godebug = none := by kernel_rfl
theorem c1 : Try.prog.cellsOf 3 = 1 := by kernel_rfl
/-- A start. -/
noncomputable def laidWorld (os : Os) : World := World.doorLaid Try.prog 200 os
set_option maxRecDepth 100000 in
theorem laid_met (os : Os) : laidMetH Try.prog [] ((laidWorld os).forCall (fun _ _ => 0) ⟨#[], #[.slice none 0 0], []⟩).memory :=
  laidMetH_of_parts3 (fuel := 8) (laidMet_of_run' 8 (by kernel_rfl) (by kernel_rfl)) (by kernel_rfl) (by kernel_rfl)

/-! ### The row's last step -/
section
variable {H : Type} {enc : TypeId × Value → H} {P : Program}
theorem post_quiet {f : Func} {s : ChangeSpec} {apart fresh handsOn again : Bool} {W W' : World} {args : Array Value} {v : Value} {ds gs : List (DataW H)} {before pa pv : List MemPlace}
    (hW : DataW.Whole enc P f.params.toList s.vars apart W args.toList ds gs before) (hg : G W W' none)
    (hres : ∀ (b : Nat) (sp : Nat → Bool) (hd : Bool), DataW.TrodAll enc P W' b sp hd f.resultTypes.toList (v.resultList f.resultTypes.size) (s.fn H (ds ++ gs)).results [])
    (hargs : ∀ sp : Nat → Bool, (∀ p ∈ before, sp p.block = true) → DataW.TrodAll enc P W' 0 sp true f.params.toList args.toList (s.fn H (ds ++ gs)).args pa)
    (hvars : ∀ sp : Nat → Bool, (∀ p ∈ before, sp p.block = true) → DataW.TrodVars enc P W' sp s.vars (s.fn H (ds ++ gs)).vars pv)
    (hps : before = pa ++ pv)
    (hok : ∀ (j : Nat) (t : TypeId) (r : Value), f.resultTypes[j]? = some t → (v.resultList f.resultTypes.size)[j]? = some r → Value.okWide P W' .any 0 t r) :
    s.post enc P f apart fresh handsOn again W args v W' := by
  have hb := hg.below
  have lt : ∀ p ∈ before, p.block < W.heap.size := fun p hp => hW.lt p hp
  have old : ∀ p ∈ before, (fun b => decide (b < W.heap.size)) p.block = true := fun p hp => decide_eq_true (lt p hp)
  have sub : ∀ p, p ∈ ([] ++ pa) ++ pv → p ∈ before := fun p hp => by rw [hps]; simpa using hp
  refine ⟨ds, gs, before, [], pa, pv, hW, hres _ _ _, hargs _ old, hvars _ old, World.keptBut_mono (fun p hp => ⟨hp, .inr (by rw [← List.mem_append, ← hps]; exact hp)⟩) (hb.frame (· ∈ before)), fun _ => ⟨hok, ?_⟩⟩
  obtain ⟨_, _, _, _, _, hz, hn⟩ := hW
  refine ⟨_, _, ([] ++ pa) ++ pv, ⟨[] ++ pa, pv, trodAll_append (hargs _ fun _ _ => rfl) (hres _ _ _), hvars _ fun _ _ => rfl, rfl, fun b off hp => ?_, fun ha => ?_⟩, fun p hp _ => sub p hp⟩
  · rw [hb.frozen (lt _ (sub _ hp))]
    exact hz b off (sub _ hp)
  · have h := hn ha
    rw [hps] at h
    simpa using h
end
theorem laidOut : laidOutB Try.prog = true := by kernel_rfl
theorem wf64 {n : Int} (h : (Lit.int .i64 n).wf = true) : -9223372036854775808 ≤ n ∧ n ≤ 9223372036854775807 := by
  have h1 : IntKind.i64.min = -9223372036854775808 := rfl
  have h2 : IntKind.i64.max = 9223372036854775807 := rfl
  simp only [Lit.wf, Bool.and_eq_true, decide_eq_true_eq] at h
  omega
set_option maxRecDepth 100000 in
theorem has_of_ok {W : World} {base : Nat} {a : Addr} {n c : Nat} (hok : Value.okWide Try.prog W .any base 22 (.slice (some a) n c)) : a.spot = none ∧ a.block < W.heap.size := by
  simp only [Value.okWide, Try.underlying22, Cell.okWide, Cell.ok] at hok
  obtain ⟨_, _, _, h2, row, cells, h3, _⟩ := hok
  refine ⟨h2, ?_⟩
  unfold World.shape? at h3
  cases hh : W.heap[a.block]? with
  | none => simp [hh] at h3
  | some o => exact (Array.getElem?_eq_some_iff.1 hh).1
set_option maxRecDepth 100000 in
/-- The list of numbers that came in, as the walk wants it. -/
theorem rd_of_trod {H : Type} {enc : TypeId × Value → H} {W : World} {base : Nat} {v : Value} {d : DataW H} {p : List MemPlace} (hok : Value.okWide Try.prog W .any base 22 v) (h : DataW.Trod enc Try.prog W 0 (fun _ => true) true 22 v d p) :
    ∃ (a : Option Addr) (n c : Nat) (zs : List Int), v = .slice a n c ∧ Rd W 1 (.slice a n c) n (zs.map (Value.int .i64)) ∧ ∀ z ∈ zs, -9223372036854775808 ≤ z ∧ z ≤ 9223372036854775807 := by
  obtain ⟨a0, len, cap, rfl⟩ := okWide_slice Try.underlying22 hok
  obtain ⟨fuel, hf⟩ := h
  rcases open_ints Try.underlying22 Try.underlying3 c1 hf with ⟨hcs, _⟩ | ⟨a, len', cap', zs, hcs, _, hl, hm, hz, _, hcell, hw⟩
  · have hcs' : [Value.slice a0 len cap] = [Value.slice none 0 0] := hcs
    injection hcs' with e _
    injection e with e1 e2 e3
    subst e1; subst e2; subst e3
    exact ⟨none, 0, 0, [], rfl, ⟨none, 0, rfl, Nat.le_refl _, Nat.zero_le _, rfl, fun _ => ⟨rfl, rfl⟩, fun b hb => by cases hb⟩, fun z hz => by cases hz⟩
  · have hcs' : [Value.slice a0 len cap] = [Value.slice (some a) len' cap'] := hcs
    injection hcs' with e _
    injection e with e1 e2 e3
    subst e1; subst e2; subst e3
    simp only [if_true] at hz
    obtain ⟨s1, s2⟩ := has_of_ok hok
    refine ⟨some a, len, cap, zs.take len, rfl, ⟨some a, cap, rfl, hl, hm, by simp; omega, (fun e => by cases e), fun b hb => ?_⟩, fun z hz' => wf64 (hw z (List.mem_of_mem_take hz'))⟩
    obtain rfl := Option.some.inj hb
    refine ⟨s1, s2, fun j u hj => ?_⟩
    rw [List.getElem?_map] at hj
    obtain ⟨z, hz1, rfl⟩ := Option.map_eq_some_iff.1 hj
    have hjl := (List.getElem?_eq_some_iff.1 hz1).1
    simp at hjl
    have hc := hcell j (by omega)
    have hz2 : zs[j]? = some z := by rw [← hz1, List.getElem?_take, if_pos (by omega)]
    rw [List.getD, hz2] at hc
    have ha : a.add j = ⟨a.block, a.off + j, none⟩ := by
      obtain ⟨ab, ao, asp⟩ := a
      dsimp only at s1
      subst s1
      exact add_at ab ao j
    rw [ha] at hc
    exact hc
end Go.Proofs.Ytbddcbbjmgepnaa
