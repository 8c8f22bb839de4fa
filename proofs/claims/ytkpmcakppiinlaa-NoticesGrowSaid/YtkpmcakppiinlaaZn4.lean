/- Ngl, Lan. -/
import Derived.Test.YtkpmcakppiinlaaZn3
import Derived.Test.YtkpmcakppiinlaaRows
import Derived.Test.YtkpmcakppiinlaaZn1
import Derived.LaidMore
import Derived.ChangeSame
import Derived.ProofKit
import Derived.OpenShut
import Derived.PinnedBridge
import Derived.Deep.DeepHandedRow
import Derived.Deep.DeepWitnessRowRef
/- The law NoticesGrow. Written by genngl.py. -/
namespace Go.Proofs.Ytkpmcakppiinlaa
open Go.RowKit

theorem nr_bnd {a b s d : Int} (e : nrE (a, b, s, d) = 0) : (0 ≤ b ∧ b ≤ 4000) ∧ (1 ≤ s ∧ s ≤ 4000) ∧ 0 ≤ d ∧ d ≤ 1000000 := by
  unfold nrE at e
  dsimp only at e
  split at e
  · omega
  rename_i k0
  split at e
  · omega
  rename_i k1
  split at e
  · omega
  rename_i k2
  split at e
  · omega
  rename_i k3
  simp [inB] at k0 k1 k2 k3
  omega
theorem du_first {a b s d m c : Int} (e : nrE (a, b, s, d) = 0) : duV (a, b, s, d) m c m = c := by
  obtain ⟨⟨b0, b1⟩, ⟨s0, s1⟩, d0, d1⟩ := nr_bnd e
  unfold duV
  dsimp only
  rw [show max 0 (m / 1440 - m / 1440 - b) = 0 by omega, show (0 + s - 1) / s = 0 from Int.ediv_eq_zero_of_lt (by omega) (by omega)]
  omega
theorem du_mono {a b s d m c u v : Int} (e : nrE (a, b, s, d) = 0) (h : u ≤ v) : duV (a, b, s, d) m c u ≤ duV (a, b, s, d) m c v := by
  obtain ⟨⟨b0, b1⟩, ⟨s0, s1⟩, d0, d1⟩ := nr_bnd e
  unfold duV
  dsimp only
  have h1 : max 0 (u / 1440 - m / 1440 - b) + s - 1 ≤ max 0 (v / 1440 - m / 1440 - b) + s - 1 := by omega
  have h2 := Int.ediv_le_ediv (c := s) (by omega) h1
  have h3 := Int.mul_le_mul_of_nonneg_left h2 d0
  omega
set_option maxRecDepth 100000 in
set_option maxHeartbeats 4000000 in
theorem noticesGrow_c (a0 : Option Addr) (n c0 : Nat) (zs : List Int) (W : World) (hr : Rd W 1 (.slice a0 n c0) n (zs.map (Value.int .i64))) (hz : ∀ z ∈ zs, -9223372036854775808 ≤ z ∧ z ≤ 9223372036854775807) :
    Calls Try.prog 3 #[.slice a0 n c0] W fun e W' => e = .returned (.bool true) ∧ G W W' none := by
  have hSB : SB (W.alloc (.cells #[.slice a0 n c0, .int .i64 0] 25)) W.heap.size 0 := by
    have hB := Bk.new W 25 #[.slice a0 n c0, .int .i64 0]
    refine ⟨0, a0, n, c0, zs, Nat.le_refl _, hr.quiet ((G.refl _ _).alloc _), fun b e => ?_, hz, hB.cell 0, hB.cell 1, hB.free 1, hB.lt⟩
    obtain ⟨a', c', e', r1, r2, r3, r4, r5⟩ := hr
    cases e'
    exact (r5 b e).2.1
  have hG : G W (W.alloc (.cells #[.slice a0 n c0, .int .i64 0] 25)) (some W.heap.size) := (G.refl _ _).alloc _
  clear hr hz
  go_enter Try.func3, Try.ntmps3
  go_upto_region 2 with fail
  generalize W.alloc (.cells #[.slice a0 n c0, .int .i64 0] 25) = w0 at hSB hG ⊢
  have hs0 : W.heap.size < w0.heap.size := hSB.lt
  go_wp2_with fail
  refine (noticeRulesG_c _ _ _ hSB (by omega)).mono ?_; rintro e w1 ⟨⟨a, b, s, d⟩, rfl, hSB1, hh⟩
  rw [show nrC (a, b, s, d) = #[.int .i64 a, .int .i64 b, .int .i64 s, .int .i64 d] from rfl]
  replace hG := hG.trans hh
  clear hSB hh
  go_wp2_with fail
  refine (range_c 5 3000 _ W.heap.size _ hSB1 (by omega) (by omega) (by omega) (by omega)).mono ?_; rintro e w2 ⟨m, rfl, m0, m1, hSB2, hh⟩
  replace hG := hG.trans hh
  clear hSB1 hh
  go_wp2_with fail
  refine (range_c 0 5000 _ W.heap.size _ hSB2 (by omega) (by omega) (by omega) (by omega)).mono ?_; rintro e w3 ⟨c, rfl, x0, x1, hSB3, hh⟩
  replace hG := hG.trans hh
  clear hSB2 hh
  have hm2 : m ≤ 3000 := by omega
  have hx2 : c ≤ 5000 := by omega
  clear m1 x1
  have CD : Hid (∀ (u : Int) (w : World), m ≤ u → u < 5761440 → Calls Try.prog 6 #[.agg #[.int .i64 a, .int .i64 b, .int .i64 s, .int .i64 d], .agg #[.string ⟨#[110]⟩, .string ⟨#[65, 66, 49]⟩, .int .i64 5, .int .i64 m, .int .i64 c], .int .i64 u] w fun e w' => e = .returned (.tuple #[.int .i64 (if nrE (a, b, s, d) = 0 then duV (a, b, s, d) m c u else 0), .int .i64 (nrE (a, b, s, d))]) ∧ G w w' none) := Lib.hid (fun u w h1 h2 => due_c a b s d ⟨#[110]⟩ ⟨#[65, 66, 49]⟩ 5 m c u w (by decide) (by kernel_rfl) (by decide) (by unfold momB; simp; omega) (by unfold inB; simp; omega) (by unfold inB; simp; omega) (by decide) (by decide) h1 h2)
  have CK := Lib.hid (noticeRules_c (a, b, s, d))
  have HF : Hid (nrE (a, b, s, d) = 0 → (fun u => if nrE (a, b, s, d) = 0 then duV (a, b, s, d) m c u else 0) m = c) := Lib.hid (fun e => by dsimp only; rw [if_pos e]; exact du_first e)
  have HM : Hid (nrE (a, b, s, d) = 0 → ∀ u v, u ≤ v → (fun u => if nrE (a, b, s, d) = 0 then duV (a, b, s, d) m c u else 0) u ≤ (fun u => if nrE (a, b, s, d) = 0 then duV (a, b, s, d) m c u else 0) v) := Lib.hid (fun e u v h => by dsimp only; rw [if_pos e, if_pos e]; exact du_mono e h)
  obtain ⟨V, hV⟩ : ∃ V : Int → Int, (fun u => if nrE (a, b, s, d) = 0 then duV (a, b, s, d) m c u else 0) = V := ⟨_, rfl⟩
  rw [hV] at HF HM
  replace CD : Hid (∀ (u : Int) (w : World), m ≤ u → u < 5761440 → Calls Try.prog 6 #[.agg #[.int .i64 a, .int .i64 b, .int .i64 s, .int .i64 d], .agg #[.string ⟨#[110]⟩, .string ⟨#[65, 66, 49]⟩, .int .i64 5, .int .i64 m, .int .i64 c], .int .i64 u] w fun e w' => e = .returned (.tuple #[.int .i64 (V u), .int .i64 (nrE (a, b, s, d))]) ∧ G w w' none) := by subst hV; exact CD
  clear hV
  generalize nrE (a, b, s, d) = E at CD CK HF HM
  go_upto_region 3 with fail
  have hR := (Bk.new w3 27 #[.int .i64 a, .int .i64 b, .int .i64 s, .int .i64 d]).alloc (.cells #[.string ⟨#[110]⟩, .string ⟨#[65, 66, 49]⟩, .int .i64 5, .int .i64 m, .int .i64 c] 31)
  have hN : Bk ((w3.alloc (.cells #[.int .i64 a, .int .i64 b, .int .i64 s, .int .i64 d] 27)).alloc (.cells #[.string ⟨#[110]⟩, .string ⟨#[65, 66, 49]⟩, .int .i64 5, .int .i64 m, .int .i64 c] 31)) (w3.heap.size + 1) 31 #[.string ⟨#[110]⟩, .string ⟨#[65, 66, 49]⟩, .int .i64 5, .int .i64 m, .int .i64 c] := Bk.newAt (by simp) _ _
  have hs3 : W.heap.size < w3.heap.size := hSB3.lt
  have hSB := (hSB3.alloc (.cells #[.int .i64 a, .int .i64 b, .int .i64 s, .int .i64 d] 27)).alloc (.cells #[.string ⟨#[110]⟩, .string ⟨#[65, 66, 49]⟩, .int .i64 5, .int .i64 m, .int .i64 c] 31)
  replace hG := (hG.alloc (.cells #[.int .i64 a, .int .i64 b, .int .i64 s, .int .i64 d] 27)).alloc (.cells #[.string ⟨#[110]⟩, .string ⟨#[65, 66, 49]⟩, .int .i64 5, .int .i64 m, .int .i64 c] 31)
  clear hSB3
  generalize (w3.alloc (.cells #[.int .i64 a, .int .i64 b, .int .i64 s, .int .i64 d] 27)).alloc (.cells #[.string ⟨#[110]⟩, .string ⟨#[65, 66, 49]⟩, .int .i64 5, .int .i64 m, .int .i64 c] 31) = w4 at hR hN hSB hG ⊢
  have hgn : W.heap.size < w3.heap.size + 1 := by omega
  generalize w3.heap.size + 1 = gn at hN hgn ⊢
  generalize w3.heap.size = gr at hR hs3 ⊢
  refine wp_region_held_drew (S := (fun w' : World => w'.cell? ⟨gr, 0, none⟩ = some (.int .i64 a) ∧ w'.cell? ⟨gr, 1, none⟩ = some (.int .i64 b) ∧ w'.cell? ⟨gr, 2, none⟩ = some (.int .i64 s) ∧ w'.cell? ⟨gr, 3, none⟩ = some (.int .i64 d) ∧ w'.cell? ⟨gn, 0, none⟩ = some (.string ⟨#[110]⟩) ∧ w'.cell? ⟨gn, 1, none⟩ = some (.string ⟨#[65, 66, 49]⟩) ∧ w'.cell? ⟨gn, 2, none⟩ = some (.int .i64 5) ∧ w'.cell? ⟨gn, 3, none⟩ = some (.int .i64 m) ∧ w'.cell? ⟨gn, 4, none⟩ = some (.int .i64 c))) (by kernel_rfl) ?_ (fun hHeld => ?_)
  · exact ⟨(hR.drewN 1).cell 0, (hR.drewN 1).cell 1, (hR.drewN 1).cell 2, (hR.drewN 1).cell 3, (hN.drewN 1).cell 0, (hN.drewN 1).cell 1, (hN.drewN 1).cell 2, (hN.drewN 1).cell 3, (hN.drewN 1).cell 4⟩
  replace hR : Bk w4.drew _ _ _ := hR.drewN 1
  replace hN : Bk w4.drew _ _ _ := hN.drewN 1
  replace hG := hG.drew
  replace hSB := hSB.quiet ((G.refl w4 none).drew)
  generalize w4.drew = wd at hHeld hR hN hG hSB ⊢
  refine wpAnyH_take (i := 0) (oi := { dst := some 23, op := Op.fieldAddr 31 (Operand.tmp 5) 3, type := 0, pos := _, after := #[], guard := none }) (v := ?_) rfl (by kernel_rfl) (by kernel_rfl) (by kernel_rfl) (fun _ _ _ h => h) (Or.inl ⟨by rfl, ?_⟩) (by assumption) ?_
  rotate_left
  · (intro w hSw; obtain ⟨q0, q1, q2, q3, q4, q5, q6, q7, q8⟩ := hSw; (go_simp <;> with_reducible rfl))
  try simp only [Act.put, List.setIfInBounds_toArray, List.set_cons_zero, List.set_cons_succ]
  refine wpAnyH_take (i := 1) (oi := { dst := some 24, op := Op.load 3 (Operand.tmp 23), type := 3, pos := _, after := #[{ on := 0, ground := Ground.data }], guard := none }) (v := ?_) rfl (by kernel_rfl) (by kernel_rfl) (by kernel_rfl) (fun _ _ _ h => h) (Or.inl ⟨by rfl, ?_⟩) (by assumption) ?_
  rotate_left
  · (intro w hSw; obtain ⟨q0, q1, q2, q3, q4, q5, q6, q7, q8⟩ := hSw; (go_simp <;> with_reducible rfl))
  try simp only [Act.put, List.setIfInBounds_toArray, List.set_cons_zero, List.set_cons_succ]
  refine wpAnyH_take (i := 2) (oi := { dst := some 25, op := Op.move (Operand.tmp 3), type := 23, pos := _, after := #[], guard := none }) (v := ?_) rfl (by kernel_rfl) (by kernel_rfl) (by kernel_rfl) (fun _ _ _ h => h) (Or.inl ⟨by rfl, ?_⟩) (by assumption) ?_
  rotate_left
  · (intro w hSw; obtain ⟨q0, q1, q2, q3, q4, q5, q6, q7, q8⟩ := hSw; (go_simp <;> with_reducible rfl))
  try simp only [Act.put, List.setIfInBounds_toArray, List.set_cons_zero, List.set_cons_succ]
  refine wpAnyH_ready (rs := [3]) (by kernel_rfl) (by simp) ?_
  refine (AllReadyH.cons (o := { dst := some 26, op := Op.call { callee := Callee.value (Operand.func 5), args := #[Operand.tmp 25, Operand.const (Value.int IntKind.i64 0), Operand.const (Value.int IntKind.i64 100000)], argTypes := #[23, 3, 3] }, type := 3, pos := _, after := #[{ on := 2, ground := Ground.data }], guard := none }) rfl (fun K hK => ?_) AllReadyH.nil)
  go_simp
  refine (range_c 0 100000 _ W.heap.size _ hSB (by omega) (by omega) (by omega) (by omega)).mono ?_
  rintro e w5 ⟨r, rfl, r0, r1, hSB', hh⟩
  replace hR := hR.grown hh (fun e => by have := Option.some.inj e; omega)
  replace hN := hN.grown hh (fun e => by have := Option.some.inj e; omega)
  replace hG := hG.trans hh
  replace hSB := hSB'
  clear hh hSB'
  have r2 : r ≤ 100000 := by omega
  refine hK.out _ _ ?_ (fun hHeld => ?_)
  · exact ⟨hR.cell 0, hR.cell 1, hR.cell 2, hR.cell 3, hN.cell 0, hN.cell 1, hN.cell 2, hN.cell 3, hN.cell 4⟩
  clear hK K
  try simp only [Act.put, List.setIfInBounds_toArray, List.set_cons_zero, List.set_cons_succ]
  refine wpAnyH_take (i := 4) (oi := { dst := some 27, op := Op.binOp BinOp.add 3 (Operand.tmp 24) (Operand.tmp 26) 3, type := 3, pos := _, after := #[{ on := 1, ground := Ground.data }, { on := 3, ground := Ground.data }], guard := none }) (v := ?_) rfl (by kernel_rfl) (by kernel_rfl) (by kernel_rfl) (fun _ _ _ h => h) (Or.inl ⟨by rfl, ?_⟩) (by assumption) ?_
  rotate_left
  · (intro w hSw; obtain ⟨q0, q1, q2, q3, q4, q5, q6, q7, q8⟩ := hSw; (go_simp <;> with_reducible rfl))
  try simp only [Act.put, List.setIfInBounds_toArray, List.set_cons_zero, List.set_cons_succ]
  refine wpAnyH_take (i := 5) (oi := { dst := some 6, op := Op.assign (Operand.tmp 27), type := 3, pos := _, after := #[{ on := 4, ground := Ground.data }, { on := 3, ground := Ground.chain }, { on := 0, ground := Ground.phase }, { on := 1, ground := Ground.phase }, { on := 2, ground := Ground.phase }, { on := 3, ground := Ground.phase }, { on := 4, ground := Ground.phase }], guard := none }) (v := ?_) rfl (by kernel_rfl) (by kernel_rfl) (by kernel_rfl) (fun _ _ _ h => h) (Or.inl ⟨by rfl, ?_⟩) (by assumption) ?_
  rotate_left
  · (intro w hSw; obtain ⟨q0, q1, q2, q3, q4, q5, q6, q7, q8⟩ := hSw; (go_simp <;> with_reducible rfl))
  try simp only [Act.put, List.setIfInBounds_toArray, List.set_cons_zero, List.set_cons_succ]
  refine wpAnyH_done (by kernel_rfl) ?_ _
  clear hHeld
  have hw : IntKind.i64.wrap (m + r) = m + r := by rw [IntKind.wrap_i64]; omega
  rw [hw]
  have hu0 : m ≤ m + r := by omega
  have hu1 : m + r ≤ 103000 := by omega
  clear hw
  generalize m + r = u at hu0 hu1 ⊢
  have k0 : w5.cell? ⟨gr, 0, none⟩ = some (.int .i64 a) := hR.cell 0
  have k1 : w5.cell? ⟨gr, 1, none⟩ = some (.int .i64 b) := hR.cell 1
  have k2 : w5.cell? ⟨gr, 2, none⟩ = some (.int .i64 s) := hR.cell 2
  have k3 : w5.cell? ⟨gr, 3, none⟩ = some (.int .i64 d) := hR.cell 3
  have j0 : w5.cell? ⟨gn, 0, none⟩ = some (.string ⟨#[110]⟩) := hN.cell 0
  have j1 : w5.cell? ⟨gn, 1, none⟩ = some (.string ⟨#[65, 66, 49]⟩) := hN.cell 1
  have j2 : w5.cell? ⟨gn, 2, none⟩ = some (.int .i64 5) := hN.cell 2
  have j3 : w5.cell? ⟨gn, 3, none⟩ = some (.int .i64 m) := hN.cell 3
  have j4 : w5.cell? ⟨gn, 4, none⟩ = some (.int .i64 c) := hN.cell 4
  go_wp2_with fail
  refine (CD.out _ _ (Int.le_refl _) (by omega)).mono ?_; rintro e w6 ⟨rfl, hh⟩
  replace hR := hR.quiet hh
  replace hN := hN.quiet hh
  replace hG := hG.trans0 hh
  replace hSB := hSB.quiet hh
  clear hh k0 k1 k2 k3 j0 j1 j2 j3 j4
  have k0 : w6.cell? ⟨gr, 0, none⟩ = some (.int .i64 a) := hR.cell 0
  have k1 : w6.cell? ⟨gr, 1, none⟩ = some (.int .i64 b) := hR.cell 1
  have k2 : w6.cell? ⟨gr, 2, none⟩ = some (.int .i64 s) := hR.cell 2
  have k3 : w6.cell? ⟨gr, 3, none⟩ = some (.int .i64 d) := hR.cell 3
  have j0 : w6.cell? ⟨gn, 0, none⟩ = some (.string ⟨#[110]⟩) := hN.cell 0
  have j1 : w6.cell? ⟨gn, 1, none⟩ = some (.string ⟨#[65, 66, 49]⟩) := hN.cell 1
  have j2 : w6.cell? ⟨gn, 2, none⟩ = some (.int .i64 5) := hN.cell 2
  have j3 : w6.cell? ⟨gn, 3, none⟩ = some (.int .i64 m) := hN.cell 3
  have j4 : w6.cell? ⟨gn, 4, none⟩ = some (.int .i64 c) := hN.cell 4
  go_wp2_with fail
  refine (CD.out _ _ hu0 (by omega)).mono ?_; rintro e w7 ⟨rfl, hh⟩
  replace hR := hR.quiet hh
  replace hN := hN.quiet hh
  replace hG := hG.trans0 hh
  replace hSB := hSB.quiet hh
  clear hh k0 k1 k2 k3 j0 j1 j2 j3 j4
  go_upto_region 6 with fail
  refine wp_region_held_drew (S := (fun w' : World => w'.cell? ⟨gr, 0, none⟩ = some (.int .i64 a) ∧ w'.cell? ⟨gr, 1, none⟩ = some (.int .i64 b) ∧ w'.cell? ⟨gr, 2, none⟩ = some (.int .i64 s) ∧ w'.cell? ⟨gr, 3, none⟩ = some (.int .i64 d) ∧ w'.cell? ⟨gn, 0, none⟩ = some (.string ⟨#[110]⟩) ∧ w'.cell? ⟨gn, 1, none⟩ = some (.string ⟨#[65, 66, 49]⟩) ∧ w'.cell? ⟨gn, 2, none⟩ = some (.int .i64 5) ∧ w'.cell? ⟨gn, 3, none⟩ = some (.int .i64 m) ∧ w'.cell? ⟨gn, 4, none⟩ = some (.int .i64 c))) (by kernel_rfl) ?_ (fun hHeld => ?_)
  · exact ⟨(hR.drewN 1).cell 0, (hR.drewN 1).cell 1, (hR.drewN 1).cell 2, (hR.drewN 1).cell 3, (hN.drewN 1).cell 0, (hN.drewN 1).cell 1, (hN.drewN 1).cell 2, (hN.drewN 1).cell 3, (hN.drewN 1).cell 4⟩
  replace hR : Bk w7.drew _ _ _ := hR.drewN 1
  replace hN : Bk w7.drew _ _ _ := hN.drewN 1
  replace hG := hG.drew
  replace hSB := hSB.quiet ((G.refl w7 none).drew)
  generalize w7.drew = wd at hHeld hR hN hG hSB ⊢
  refine wpAnyH_take (i := 0) (oi := { dst := some 44, op := Op.load 27 (Operand.tmp 4), type := 27, pos := _, after := #[], guard := none }) (v := ?_) rfl (by kernel_rfl) (by kernel_rfl) (by kernel_rfl) (fun _ _ _ h => h) (Or.inl ⟨by rfl, ?_⟩) (by assumption) ?_
  rotate_left
  · (intro w hSw; obtain ⟨q0, q1, q2, q3, q4, q5, q6, q7, q8⟩ := hSw; (go_simp <;> with_reducible rfl))
  try simp only [Act.put, List.setIfInBounds_toArray, List.set_cons_zero, List.set_cons_succ]
  refine wpAnyH_take (i := 1) (oi := { dst := some 45, op := Op.load 31 (Operand.tmp 5), type := 31, pos := _, after := #[], guard := none }) (v := ?_) rfl (by kernel_rfl) (by kernel_rfl) (by kernel_rfl) (fun _ _ _ h => h) (Or.inl ⟨by rfl, ?_⟩) (by assumption) ?_
  rotate_left
  · (intro w hSw; obtain ⟨q0, q1, q2, q3, q4, q5, q6, q7, q8⟩ := hSw; (go_simp <;> with_reducible rfl))
  try simp only [Act.put, List.setIfInBounds_toArray, List.set_cons_zero, List.set_cons_succ]
  refine wpAnyH_take (i := 2) (oi := { dst := some 46, op := Op.move (Operand.tmp 6), type := 3, pos := _, after := #[], guard := none }) (v := ?_) rfl (by kernel_rfl) (by kernel_rfl) (by kernel_rfl) (fun _ _ _ h => h) (Or.inl ⟨by rfl, ?_⟩) (by assumption) ?_
  rotate_left
  · (intro w hSw; obtain ⟨q0, q1, q2, q3, q4, q5, q6, q7, q8⟩ := hSw; (go_simp <;> with_reducible rfl))
  try simp only [Act.put, List.setIfInBounds_toArray, List.set_cons_zero, List.set_cons_succ]
  refine wpAnyH_take (i := 3) (oi := { dst := some 47, op := Op.move (Operand.tmp 3), type := 23, pos := _, after := #[], guard := none }) (v := ?_) rfl (by kernel_rfl) (by kernel_rfl) (by kernel_rfl) (fun _ _ _ h => h) (Or.inl ⟨by rfl, ?_⟩) (by assumption) ?_
  rotate_left
  · (intro w hSw; obtain ⟨q0, q1, q2, q3, q4, q5, q6, q7, q8⟩ := hSw; (go_simp <;> with_reducible rfl))
  try simp only [Act.put, List.setIfInBounds_toArray, List.set_cons_zero, List.set_cons_succ]
  refine wpAnyH_ready (rs := [4]) (by kernel_rfl) (by simp) ?_
  refine (AllReadyH.cons (o := { dst := some 48, op := Op.call { callee := Callee.value (Operand.func 5), args := #[Operand.tmp 47, Operand.const (Value.int IntKind.i64 0), Operand.const (Value.int IntKind.i64 20000)], argTypes := #[23, 3, 3] }, type := 3, pos := _, after := #[{ on := 3, ground := Ground.data }], guard := none }) rfl (fun K hK => ?_) AllReadyH.nil)
  go_simp
  refine (range_c 0 20000 _ W.heap.size _ hSB (by omega) (by omega) (by omega) (by omega)).mono ?_
  rintro e w8 ⟨z, rfl, z0, z1, hSB', hh⟩
  replace hR := hR.grown hh (fun e => by have := Option.some.inj e; omega)
  replace hN := hN.grown hh (fun e => by have := Option.some.inj e; omega)
  replace hG := hG.trans hh
  replace hSB := hSB'
  clear hh hSB'
  have z2 : z ≤ 20000 := by omega
  refine hK.out _ _ ?_ (fun hHeld => ?_)
  · exact ⟨hR.cell 0, hR.cell 1, hR.cell 2, hR.cell 3, hN.cell 0, hN.cell 1, hN.cell 2, hN.cell 3, hN.cell 4⟩
  clear hK K
  try simp only [Act.put, List.setIfInBounds_toArray, List.set_cons_zero, List.set_cons_succ]
  refine wpAnyH_take (i := 5) (oi := { dst := some 49, op := Op.binOp BinOp.add 3 (Operand.tmp 46) (Operand.tmp 48) 3, type := 3, pos := _, after := #[{ on := 2, ground := Ground.data }, { on := 4, ground := Ground.data }], guard := none }) (v := ?_) rfl (by kernel_rfl) (by kernel_rfl) (by kernel_rfl) (fun _ _ _ h => h) (Or.inl ⟨by rfl, ?_⟩) (by assumption) ?_
  rotate_left
  · (intro w hSw; obtain ⟨q0, q1, q2, q3, q4, q5, q6, q7, q8⟩ := hSw; (go_simp <;> with_reducible rfl))
  try simp only [Act.put, List.setIfInBounds_toArray, List.set_cons_zero, List.set_cons_succ]
  refine wpAnyH_ready (rs := [6]) (by kernel_rfl) (by simp) ?_
  refine (AllReadyH.cons (o := { dst := some 50, op := Op.call { callee := Callee.value (Operand.func 6), args := #[Operand.tmp 44, Operand.tmp 45, Operand.tmp 49], argTypes := #[27, 31, 3] }, type := 33, pos := _, after := #[{ on := 0, ground := Ground.data }, { on := 1, ground := Ground.data }, { on := 5, ground := Ground.data }, { on := 4, ground := Ground.chain }], guard := none }) rfl (fun K hK => ?_) AllReadyH.nil)
  go_simp
  have hw2 : IntKind.i64.wrap (u + z) = u + z := by rw [IntKind.wrap_i64]; omega
  rw [hw2]
  clear hw2
  refine (CD.out _ _ (by omega) (by omega)).mono ?_
  rintro e w9 ⟨rfl, hh⟩
  replace hR := hR.quiet hh
  replace hN := hN.quiet hh
  replace hG := hG.trans0 hh
  replace hSB := hSB.quiet hh
  clear hh
  refine hK.out _ _ ?_ (fun hHeld => ?_)
  · exact ⟨hR.cell 0, hR.cell 1, hR.cell 2, hR.cell 3, hN.cell 0, hN.cell 1, hN.cell 2, hN.cell 3, hN.cell 4⟩
  clear hK K
  try simp only [Act.put, List.setIfInBounds_toArray, List.set_cons_zero, List.set_cons_succ]
  refine wpAnyH_take (i := 7) (oi := { dst := some 43, op := Op.move (Operand.tmp 50), type := 33, pos := _, after := #[{ on := 6, ground := Ground.data }], guard := none }) (v := ?_) rfl (by kernel_rfl) (by kernel_rfl) (by kernel_rfl) (fun _ _ _ h => h) (Or.inl ⟨by rfl, ?_⟩) (by assumption) ?_
  rotate_left
  · (intro w hSw; obtain ⟨q0, q1, q2, q3, q4, q5, q6, q7, q8⟩ := hSw; (go_simp <;> with_reducible rfl))
  try simp only [Act.put, List.setIfInBounds_toArray, List.set_cons_zero, List.set_cons_succ]
  refine wpAnyH_take (i := 8) (oi := { dst := some 51, op := Op.extract (Operand.tmp 43) 0, type := 3, pos := _, after := #[{ on := 7, ground := Ground.data }], guard := none }) (v := ?_) rfl (by kernel_rfl) (by kernel_rfl) (by kernel_rfl) (fun _ _ _ h => h) (Or.inl ⟨by rfl, ?_⟩) (by assumption) ?_
  rotate_left
  · (intro w hSw; obtain ⟨q0, q1, q2, q3, q4, q5, q6, q7, q8⟩ := hSw; (go_simp <;> with_reducible rfl))
  try simp only [Act.put, List.setIfInBounds_toArray, List.set_cons_zero, List.set_cons_succ]
  refine wpAnyH_take (i := 9) (oi := { dst := some 52, op := Op.extract (Operand.tmp 43) 1, type := 32, pos := _, after := #[{ on := 7, ground := Ground.data }, { on := 10, ground := Ground.gcOnly Departure.lateStores }], guard := none }) (v := ?_) rfl (by kernel_rfl) (by kernel_rfl) (by kernel_rfl) (fun _ _ _ h => h) (Or.inl ⟨by rfl, ?_⟩) (by assumption) ?_
  rotate_left
  · (intro w hSw; obtain ⟨q0, q1, q2, q3, q4, q5, q6, q7, q8⟩ := hSw; (go_simp <;> with_reducible rfl))
  try simp only [Act.put, List.setIfInBounds_toArray, List.set_cons_zero, List.set_cons_succ]
  refine wpAnyH_take (i := 10) (oi := { dst := some 11, op := Op.assign (Operand.tmp 51), type := 3, pos := _, after := #[{ on := 8, ground := Ground.data }, { on := 6, ground := Ground.chain }, { on := 0, ground := Ground.phase }, { on := 1, ground := Ground.phase }, { on := 2, ground := Ground.phase }, { on := 3, ground := Ground.phase }, { on := 4, ground := Ground.phase }, { on := 5, ground := Ground.phase }, { on := 6, ground := Ground.phase }, { on := 7, ground := Ground.phase }, { on := 8, ground := Ground.phase }, { on := 9, ground := Ground.textOnly Departure.lateStores }], guard := none }) (v := ?_) rfl (by kernel_rfl) (by kernel_rfl) (by kernel_rfl) (fun _ _ _ h => h) (Or.inl ⟨by rfl, ?_⟩) (by assumption) ?_
  rotate_left
  · (intro w hSw; obtain ⟨q0, q1, q2, q3, q4, q5, q6, q7, q8⟩ := hSw; (go_simp <;> with_reducible rfl))
  try simp only [Act.put, List.setIfInBounds_toArray, List.set_cons_zero, List.set_cons_succ]
  refine wpAnyH_take (i := 11) (oi := { dst := some 12, op := Op.assign (Operand.tmp 52), type := 32, pos := _, after := #[{ on := 9, ground := Ground.data }, { on := 10, ground := Ground.chain }, { on := 0, ground := Ground.phase }, { on := 1, ground := Ground.phase }, { on := 2, ground := Ground.phase }, { on := 3, ground := Ground.phase }, { on := 4, ground := Ground.phase }, { on := 5, ground := Ground.phase }, { on := 6, ground := Ground.phase }, { on := 7, ground := Ground.phase }, { on := 8, ground := Ground.phase }, { on := 9, ground := Ground.phase }, { on := 10, ground := Ground.phase }], guard := none }) (v := ?_) rfl (by kernel_rfl) (by kernel_rfl) (by kernel_rfl) (fun _ _ _ h => h) (Or.inl ⟨by rfl, ?_⟩) (by assumption) ?_
  rotate_left
  · (intro w hSw; obtain ⟨q0, q1, q2, q3, q4, q5, q6, q7, q8⟩ := hSw; (go_simp <;> with_reducible rfl))
  try simp only [Act.put, List.setIfInBounds_toArray, List.set_cons_zero, List.set_cons_succ]
  refine wpAnyH_done (by kernel_rfl) ?_ _
  clear hHeld
  replace hG := hG.own (Nat.le_refl _)
  clear hSB
  have hv0 : u ≤ u + z := by omega
  clear r0 r1 r2 z1 z2
  generalize u + z = v at hv0 ⊢
  have k0 : w9.cell? ⟨gr, 0, none⟩ = some (.int .i64 a) := hR.cell 0
  have k1 : w9.cell? ⟨gr, 1, none⟩ = some (.int .i64 b) := hR.cell 1
  have k2 : w9.cell? ⟨gr, 2, none⟩ = some (.int .i64 s) := hR.cell 2
  have k3 : w9.cell? ⟨gr, 3, none⟩ = some (.int .i64 d) := hR.cell 3
  have j0 : w9.cell? ⟨gn, 0, none⟩ = some (.string ⟨#[110]⟩) := hN.cell 0
  have j1 : w9.cell? ⟨gn, 1, none⟩ = some (.string ⟨#[65, 66, 49]⟩) := hN.cell 1
  have j2 : w9.cell? ⟨gn, 2, none⟩ = some (.int .i64 5) := hN.cell 2
  have j3 : w9.cell? ⟨gn, 3, none⟩ = some (.int .i64 m) := hN.cell 3
  have j4 : w9.cell? ⟨gn, 4, none⟩ = some (.int .i64 c) := hN.cell 4
  go_wp2_with fail
  refine (CK.out _).mono ?_; rintro e w10 ⟨rfl, hh⟩
  replace hN := hN.quiet hh
  replace hG := hG.trans hh
  clear hh k0 k1 k2 k3 j0 j1 j2 j3 j4 hR
  have k4 : w10.cell? ⟨gn, 4, none⟩ = some (.int .i64 c) := hN.cell 4
  by_cases hE0 : E = 0
  · subst hE0
    have hA := HF.out rfl
    have hB : V m ≤ V u := HM.out rfl _ _ hu0
    have hC : V u ≤ V v := HM.out rfl _ _ hv0
    generalize V v = C at hC ⊢
    generalize V u = B at hB hC ⊢
    generalize V m = A at hA hB ⊢
    subst hA
    clear HF HM CD CK
    go_wp2_with fail
    refine (ready2_c _).mono ?_; rintro e w11 ⟨rfl, hh⟩
    have hGx := hG.trans hh
    go_wp2_with fail
    go_ret
    exact ⟨rfl, hGx⟩
  · have he : (E != 0) = true := bne_iff_ne.2 hE0
    clear HF HM CD CK hE0
    go_wp2_with fail
    refine (ready2_c _).mono ?_; rintro e w11 ⟨rfl, hh⟩
    have hGx := hG.trans hh
    go_wp2_with fail
    go_ret
    exact ⟨rfl, hGx⟩
end Go.Proofs.Ytkpmcakppiinlaa

/- A row that lists no variable: a start; the row's last step. -/
namespace Go.Proofs.Ytkpmcakppiinlaa
open Go.ChangeShapes Go.WideShapes Go.ChangeAt Go.RowKit

theorem own : ownKnob Try.prog.godebug = none := by kernel_rfl
theorem c1 : Try.prog.cellsOf 3 = 1 := by kernel_rfl
/-- A start. -/
noncomputable def laidWorld (os : Os) : World := World.doorLaid Try.prog 200 os
set_option maxRecDepth 100000 in
theorem laid_met (os : Os) : laidMetH Try.prog [] ((laidWorld os).forCall (fun _ _ => 0) ⟨#[], #[.slice none 0 0], []⟩).memory :=
  laidMetH_of_parts3 (fuel := 8) (laidMet_of_run' 8 (by kernel_rfl) (by kernel_rfl)) (by kernel_rfl) (by kernel_rfl)

/-! ### The row's last step -/
section
variable {H : Type} {enc : TypeId × Value → H} {P : Program}
theorem post_quiet {f : Func} {s : ChangeSpec} {apart fresh handsOn again : Bool} {W W' : World} {args : Array Value} {v : Value} {ds gs : List (DataW H)} {before pa pv : List MemPlace}
    (hW : DataW.Whole enc P f.params.toList s.vars apart W args.toList ds gs before) (hg : G W W' none)
    (hres : ∀ (b : Nat) (sp : Nat → Bool) (hd : Bool), DataW.TrodAll enc P W' b sp hd f.resultTypes.toList (v.resultList f.resultTypes.size) (s.fn H (ds ++ gs)).results [])
    (hargs : ∀ sp : Nat → Bool, (∀ p ∈ before, sp p.block = true) → DataW.TrodAll enc P W' 0 sp true f.params.toList args.toList (s.fn H (ds ++ gs)).args pa)
    (hvars : ∀ sp : Nat → Bool, (∀ p ∈ before, sp p.block = true) → DataW.TrodVars enc P W' sp s.vars (s.fn H (ds ++ gs)).vars pv)
    (hps : before = pa ++ pv)
    (hok : ∀ (j : Nat) (t : TypeId) (r : Value), f.resultTypes[j]? = some t → (v.resultList f.resultTypes.size)[j]? = some r → Value.okWide P W' .any 0 t r) :
    s.post enc P f apart fresh handsOn again W args v W' := by
  have hb := hg.below
  have lt : ∀ p ∈ before, p.block < W.heap.size := fun p hp => hW.lt p hp
  have old : ∀ p ∈ before, (fun b => decide (b < W.heap.size)) p.block = true := fun p hp => decide_eq_true (lt p hp)
  have sub : ∀ p, p ∈ ([] ++ pa) ++ pv → p ∈ before := fun p hp => by rw [hps]; simpa using hp
  refine ⟨ds, gs, before, [], pa, pv, hW, hres _ _ _, hargs _ old, hvars _ old, World.keptBut_mono (fun p hp => ⟨hp, .inr (by rw [← List.mem_append, ← hps]; exact hp)⟩) (hb.frame (· ∈ before)), fun _ => ⟨hok, ?_⟩⟩
  obtain ⟨_, _, _, _, _, hz, hn⟩ := hW
  refine ⟨_, _, ([] ++ pa) ++ pv, ⟨[] ++ pa, pv, trodAll_append (hargs _ fun _ _ => rfl) (hres _ _ _), hvars _ fun _ _ => rfl, rfl, fun b off hp => ?_, fun ha => ?_⟩, fun p hp _ => sub p hp⟩
  · rw [hb.frozen (lt _ (sub _ hp))]
    exact hz b off (sub _ hp)
  · have h := hn ha
    rw [hps] at h
    simpa using h
end
theorem laidOut : laidOutB Try.prog = true := by kernel_rfl
theorem wf64 {n : Int} (h : (Lit.int .i64 n).wf = true) : -9223372036854775808 ≤ n ∧ n ≤ 9223372036854775807 := by
  have h1 : IntKind.i64.min = -9223372036854775808 := rfl
  have h2 : IntKind.i64.max = 9223372036854775807 := rfl
  simp only [Lit.wf, Bool.and_eq_true, decide_eq_true_eq] at h
  omega
set_option maxRecDepth 100000 in
theorem has_of_ok {W : World} {base : Nat} {a : Addr} {n c : Nat} (hok : Value.okWide Try.prog W .any base 22 (.slice (some a) n c)) : a.spot = none ∧ a.block < W.heap.size := by
  simp only [Value.okWide, Try.underlying22, Cell.okWide, Cell.ok] at hok
  obtain ⟨_, _, _, h2, row, cells, h3, _⟩ := hok
  refine ⟨h2, ?_⟩
  unfold World.shape? at h3
  cases hh : W.heap[a.block]? with
  | none => simp [hh] at h3
  | some o => exact (Array.getElem?_eq_some_iff.1 hh).1
set_option maxRecDepth 100000 in
/-- The list of numbers that came in, as the walk wants it. -/
theorem rd_of_trod {H : Type} {enc : TypeId × Value → H} {W : World} {base : Nat} {v : Value} {d : DataW H} {p : List MemPlace} (hok : Value.okWide Try.prog W .any base 22 v) (h : DataW.Trod enc Try.prog W 0 (fun _ => true) true 22 v d p) :
    ∃ (a : Option Addr) (n c : Nat) (zs : List Int), v = .slice a n c ∧ Rd W 1 (.slice a n c) n (zs.map (Value.int .i64)) ∧ ∀ z ∈ zs, -9223372036854775808 ≤ z ∧ z ≤ 9223372036854775807 := by
  obtain ⟨a0, len, cap, rfl⟩ := okWide_slice Try.underlying22 hok
  obtain ⟨fuel, hf⟩ := h
  rcases open_ints Try.underlying22 Try.underlying3 c1 hf with ⟨hcs, _⟩ | ⟨a, len', cap', zs, hcs, _, hl, hm, hz, _, hcell, hw⟩
  · have hcs' : [Value.slice a0 len cap] = [Value.slice none 0 0] := hcs
    injection hcs' with e _
    injection e with e1 e2 e3
    subst e1; subst e2; subst e3
    exact ⟨none, 0, 0, [], rfl, ⟨none, 0, rfl, Nat.le_refl _, Nat.zero_le _, rfl, fun _ => ⟨rfl, rfl⟩, fun b hb => by cases hb⟩, fun z hz => by cases hz⟩
  · have hcs' : [Value.slice a0 len cap] = [Value.slice (some a) len' cap'] := hcs
    injection hcs' with e _
    injection e with e1 e2 e3
    subst e1; subst e2; subst e3
    simp only [if_true] at hz
    obtain ⟨s1, s2⟩ := has_of_ok hok
    refine ⟨some a, len, cap, zs.take len, rfl, ⟨some a, cap, rfl, hl, hm, by simp; omega, (fun e => by cases e), fun b hb => ?_⟩, fun z hz' => wf64 (hw z (List.mem_of_mem_take hz'))⟩
    obtain rfl := Option.some.inj hb
    refine ⟨s1, s2, fun j u hj => ?_⟩
    rw [List.getElem?_map] at hj
    obtain ⟨z, hz1, rfl⟩ := Option.map_eq_some_iff.1 hj
    have hjl := (List.getElem?_eq_some_iff.1 hz1).1
    simp at hjl
    have hc := hcell j (by omega)
    have hz2 : zs[j]? = some z := by rw [← hz1, List.getElem?_take, if_pos (by omega)]
    rw [List.getD, hz2] at hc
    have ha : a.add j = ⟨a.block, a.off + j, none⟩ := by
      obtain ⟨ab, ao, asp⟩ := a
      dsimp only at s1
      subst s1
      exact add_at ab ao j
    rw [ha] at hc
    exact hc
end Go.Proofs.Ytkpmcakppiinlaa
