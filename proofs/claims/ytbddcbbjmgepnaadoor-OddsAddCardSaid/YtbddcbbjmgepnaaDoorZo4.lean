/- Hit, Hiu, Rdy, Oal, Lay. -/
import Derived.Test.YtbddcbbjmgepnaaDoorZo3
import Derived.Test.YtbddcbbjmgepnaaDoorZo2
import Derived.BigQuiet
import Derived.Test.YtbddcbbjmgepnaaDoorZo1
import Derived.Test.YtbddcbbjmgepnaaDoorRows
import Derived.Test.YtbddcbbjmgepnaaDoorTie
import Derived.Test.YtbddcbbjmgepnaaDoorCards
import Derived.LaidMore
import Derived.ChangeSame
import Derived.ProofKit
import Derived.OpenShut
import Derived.PinnedBridge
import Derived.Deep.DeepHandedRow
import Derived.Deep.DeepWitnessRowRef
/- Hires: Start, StartOf. -/
namespace Go.Proofs.YtbddcbbjmgepnaaDoor
open Go.RowKit

theorem RdR.oneLg {w : World} {g : Nat} {b : Lg} (h : Bk w g 118 (lgC b)) : RdR w 9 lgC (.slice (some ⟨g, 0, none⟩) 1 1) [b] := h.rd 9 1 rfl (by omega)
theorem openLeg_l (s : ByteArray) (r : Rg) (w : World) : Calls Tryd.prog 62 #[.string s, .agg #[.int .i64 r.1, .string r.2.1, .int .i64 r.2.2.1, .int .i64 r.2.2.2]] w fun e w' => e = .returned (.agg #[.string s, .int .i64 r.1, .string r.2.1, .int .i64 r.2.2.1, .int .i64 r.2.2.2, .int .i64 (-1), .string ⟨#[]⟩, .int .i64 0, .int .i64 0]) ∧ G w w' none := openLeg_c s r w
set_option maxRecDepth 100000 in
set_option maxHeartbeats 4000000 in
theorem start_c (h : Hh) (s : ByteArray) (r : Rg) (w : World) (hs : Small s) (hsr : Small r.2.1) (hs1 : Small h.1) (hs2 : Small h.2.1) (hb1 : bnd h.2.2.1) (hb2 : bnd h.2.2.2) :
    Calls Tryd.prog 46 #[.string h.1, .string h.2.1, .agg #[.int .i64 h.2.2.1, .int .i64 h.2.2.2], .string s, .agg (rgC r)] w
      (MadePost h [(s, r, noIn)] (fun k => w.heap.size ≤ k) w) := by
  have hb0 : LgOk [(s, r, noIn)] := fun x hx => by
    obtain rfl := List.mem_singleton.1 hx
    exact ⟨hs, hsr, by show Small ⟨#[]⟩; unfold Small; decide⟩
  have hWi := ((Bk.new w 27 #[.int .i64 h.2.2.1, .int .i64 h.2.2.2]).alloc (.cells (rgC r) 105)).alloc (.cells hiZ 101)
  have hRe := (Bk.newAt (w := w.alloc (.cells #[.int .i64 h.2.2.1, .int .i64 h.2.2.2] 27)) (b := w.heap.size + 1) (by simp) 105 (rgC r)).alloc (.cells hiZ 101)
  have hZ := Bk.newAt (w := (w.alloc (.cells #[.int .i64 h.2.2.1, .int .i64 h.2.2.2] 27)).alloc (.cells (rgC r) 105)) (b := w.heap.size + 2) (by simp) 101 hiZ
  have hG := (((G.refl w none).alloc (.cells #[.int .i64 h.2.2.1, .int .i64 h.2.2.2] 27)).alloc (.cells (rgC r) 105)).alloc (.cells hiZ 101)
  simp only [rgC, hiZ, hiC] at hWi hRe hZ hG ⊢
  go_enter Tryd.func46, Tryd.ntmps46
  go_upto_region 1 with fail
  generalize ((w.alloc (.cells #[.int .i64 h.2.2.1, .int .i64 h.2.2.2] 27)).alloc (.cells #[.int .i64 r.1, .string r.2.1, .int .i64 r.2.2.1, .int .i64 r.2.2.2] 105)).alloc (.cells #[.string ⟨#[]⟩, .string ⟨#[]⟩, .int .i64 0, .int .i64 0, .slice none 0 0] 101) = w2 at hWi hRe hZ hG ⊢
  -- @REGION
  have hWi3 := hWi.quiet ((G.refl w2 none).drew)
  have hRe3 := hRe.quiet ((G.refl w2 none).drew)
  have hZ3 := hZ.quiet ((G.refl w2 none).drew)
  have hG3 := hG.drew
  clear hWi hRe hZ hG
  refine wp_region_held_drew (S := (fun w' => w'.cell? ⟨w.heap.size, 0, none⟩ = some (.int .i64 h.2.2.1) ∧ w'.cell? ⟨w.heap.size, 1, none⟩ = some (.int .i64 h.2.2.2) ∧ w'.cell? ⟨w.heap.size + 1, 0, none⟩ = some (.int .i64 r.1) ∧ w'.cell? ⟨w.heap.size + 1, 1, none⟩ = some (.string r.2.1) ∧ w'.cell? ⟨w.heap.size + 1, 2, none⟩ = some (.int .i64 r.2.2.1) ∧ w'.cell? ⟨w.heap.size + 1, 3, none⟩ = some (.int .i64 r.2.2.2))) (by kernel_rfl) ?_ (fun hHeld => ?_)
  · exact ⟨hWi3.cell 0, hWi3.cell 1, hRe3.cell 0, hRe3.cell 1, hRe3.cell 2, hRe3.cell 3⟩
  refine wpAnyH_take (i := 0) (oi := { dst := some 12, op := Op.move (Operand.tmp 0), type := 9, pos := _, after := #[], guard := none }) (v := ?_) rfl (by kernel_rfl) (by kernel_rfl) (by kernel_rfl) (fun _ _ _ h => h) (Or.inl ⟨by rfl, ?_⟩) (by assumption) ?_
  rotate_left
  · (intro w hSw; obtain ⟨s0, s1, s2, s3, s4, s5⟩ := hSw; (go_simp <;> with_reducible rfl))
  try simp only [Act.put, List.setIfInBounds_toArray, List.set_cons_zero, List.set_cons_succ]
  refine wpAnyH_take (i := 1) (oi := { dst := some 13, op := Op.move (Operand.tmp 1), type := 9, pos := _, after := #[], guard := none }) (v := ?_) rfl (by kernel_rfl) (by kernel_rfl) (by kernel_rfl) (fun _ _ _ h => h) (Or.inl ⟨by rfl, ?_⟩) (by assumption) ?_
  rotate_left
  · (intro w hSw; obtain ⟨s0, s1, s2, s3, s4, s5⟩ := hSw; (go_simp <;> with_reducible rfl))
  try simp only [Act.put, List.setIfInBounds_toArray, List.set_cons_zero, List.set_cons_succ]
  refine wpAnyH_take (i := 2) (oi := { dst := some 14, op := Op.load 27 (Operand.tmp 7), type := 27, pos := _, after := #[], guard := none }) (v := ?_) rfl (by kernel_rfl) (by kernel_rfl) (by kernel_rfl) (fun _ _ _ h => h) (Or.inl ⟨by rfl, ?_⟩) (by assumption) ?_
  rotate_left
  · (intro w hSw; obtain ⟨s0, s1, s2, s3, s4, s5⟩ := hSw; (go_simp <;> with_reducible rfl))
  try simp only [Act.put, List.setIfInBounds_toArray, List.set_cons_zero, List.set_cons_succ]
  refine wpAnyH_take (i := 3) (oi := { dst := some 15, op := Op.move (Operand.tmp 3), type := 9, pos := _, after := #[], guard := none }) (v := ?_) rfl (by kernel_rfl) (by kernel_rfl) (by kernel_rfl) (fun _ _ _ h => h) (Or.inl ⟨by rfl, ?_⟩) (by assumption) ?_
  rotate_left
  · (intro w hSw; obtain ⟨s0, s1, s2, s3, s4, s5⟩ := hSw; (go_simp <;> with_reducible rfl))
  try simp only [Act.put, List.setIfInBounds_toArray, List.set_cons_zero, List.set_cons_succ]
  refine wpAnyH_take (i := 4) (oi := { dst := some 16, op := Op.load 105 (Operand.tmp 9), type := 105, pos := _, after := #[], guard := none }) (v := ?_) rfl (by kernel_rfl) (by kernel_rfl) (by kernel_rfl) (fun _ _ _ h => h) (Or.inl ⟨by rfl, ?_⟩) (by assumption) ?_
  rotate_left
  · (intro w hSw; obtain ⟨s0, s1, s2, s3, s4, s5⟩ := hSw; (go_simp <;> with_reducible rfl))
  try simp only [Act.put, List.setIfInBounds_toArray, List.set_cons_zero, List.set_cons_succ]
  refine wpAnyH_ready (rs := [5]) (by kernel_rfl) (by simp) ?_
  refine AllReadyH.cons (o := { dst := some 17, op := Op.call { callee := Callee.value (Operand.func 62), args := #[Operand.tmp 15, Operand.tmp 16], argTypes := #[9, 105] }, type := 118, pos := _, after := #[{ on := 3, ground := Ground.data }, { on := 4, ground := Ground.data }], guard := none }) rfl (fun K hK => ?_) AllReadyH.nil
  go_simp
  refine (openLeg_l s r _).mono ?_
  rintro e w4 ⟨rfl, hH⟩
  have hWi4 := hWi3.quiet hH
  have hRe4 := hRe3.quiet hH
  have hZ4 := hZ3.quiet hH
  have hG4 := hG3.trans hH
  clear hH
  refine hK.out _ _ ?_ (fun hHeld => ?_)
  · exact ⟨hWi4.cell 0, hWi4.cell 1, hRe4.cell 0, hRe4.cell 1, hRe4.cell 2, hRe4.cell 3⟩
  clear hK K
  try simp only [Act.put, List.setIfInBounds_toArray, List.set_cons_zero, List.set_cons_succ]
  refine wpAnyH_ready (rs := [6]) (by kernel_rfl) (by simp) ?_
  refine AllReadyH.cons (o := { dst := some 18, op := Op.buildSlice 99 1 #[(0, Operand.tmp 17)], type := 99, pos := _, after := #[{ on := 5, ground := Ground.data }], guard := none }) rfl (fun K hK => ?_) AllReadyH.nil
  go_simp
  have hH := (G.refl w4 none).alloc (.cells #[.string s, .int .i64 r.1, .string r.2.1, .int .i64 r.2.2.1, .int .i64 r.2.2.2, .int .i64 (-1), .string ⟨#[]⟩, .int .i64 0, .int .i64 0] 118)
  have hWi5 := hWi4.quiet hH
  have hRe5 := hRe4.quiet hH
  have hZ5 := hZ4.quiet hH
  have hG5 := hG4.trans hH
  clear hH
  refine hK.out _ _ ?_ (fun hHeld => ?_)
  · exact ⟨hWi5.cell 0, hWi5.cell 1, hRe5.cell 0, hRe5.cell 1, hRe5.cell 2, hRe5.cell 3⟩
  clear hK K
  try simp only [Act.put, List.setIfInBounds_toArray, List.set_cons_zero, List.set_cons_succ]
  refine wpAnyH_take (i := 7) (oi := { dst := some 19, op := Op.build 101 #[(0, Operand.tmp 12), (1, Operand.tmp 13), (2, Operand.tmp 14), (3, Operand.tmp 18)], type := 101, pos := _, after := #[{ on := 0, ground := Ground.data }, { on := 1, ground := Ground.data }, { on := 2, ground := Ground.data }, { on := 6, ground := Ground.data }], guard := none }) (v := ?_) rfl (by kernel_rfl) (by kernel_rfl) (by kernel_rfl) (fun _ _ _ h => h) (Or.inl ⟨by rfl, ?_⟩) (by assumption) ?_
  rotate_left
  · (intro w hSw; obtain ⟨s0, s1, s2, s3, s4, s5⟩ := hSw; (go_simp <;> with_reducible rfl))
  try simp only [Act.put, List.setIfInBounds_toArray, List.set_cons_zero, List.set_cons_succ]
  refine wpAnyH_ready (rs := [8]) (by kernel_rfl) (by simp) ?_
  refine AllReadyH.cons (o := { dst := some 20, op := Op.call { callee := Callee.value (Operand.func 61), args := #[Operand.tmp 19], argTypes := #[101] }, type := 102, pos := _, after := #[{ on := 7, ground := Ground.data }, { on := 5, ground := Ground.chain }], guard := none }) rfl (fun K hK => ?_) AllReadyH.nil
  go_simp
  refine (right_c h (.slice (some ⟨w4.heap.size, 0, none⟩) 1 1) [(s, r, noIn)] _ (RdR.oneLg (b := (s, r, noIn)) (Bk.new w4 _ _)) hb0 hs1 hs2 hb1 hb2 (by simp)).mono ?_
  rintro e w6 ⟨H, a, n, c, rfl, hHH, hBB, hR6, hH⟩
  have HHH := Lib.hid hHH
  have HBB := Lib.hid hBB
  clear hHH hBB
  have hWi6 := hWi5.quiet hH
  have hRe6 := hRe5.quiet hH
  have hZ6 := hZ5.quiet hH
  have hG6 := hG5.trans hH
  clear hH
  refine hK.out _ _ ?_ (fun hHeld => ?_)
  · exact ⟨hWi6.cell 0, hWi6.cell 1, hRe6.cell 0, hRe6.cell 1, hRe6.cell 2, hRe6.cell 3⟩
  clear hK K
  try simp only [Act.put, List.setIfInBounds_toArray, List.set_cons_zero, List.set_cons_succ]
  refine wpAnyH_take (i := 9) (oi := { dst := some 21, op := Op.extract (Operand.tmp 20) 0, type := 101, pos := _, after := #[{ on := 8, ground := Ground.data }], guard := none }) (v := ?_) rfl (by kernel_rfl) (by kernel_rfl) (by kernel_rfl) (fun _ _ _ h => h) (Or.inl ⟨by rfl, ?_⟩) (by assumption) ?_
  rotate_left
  · (intro w hSw; obtain ⟨s0, s1, s2, s3, s4, s5⟩ := hSw; (go_simp <;> with_reducible rfl))
  try simp only [Act.put, List.setIfInBounds_toArray, List.set_cons_zero, List.set_cons_succ]
  refine wpAnyH_take (i := 10) (oi := { dst := some 22, op := Op.extract (Operand.tmp 20) 1, type := 36, pos := _, after := #[{ on := 8, ground := Ground.data }], guard := none }) (v := ?_) rfl (by kernel_rfl) (by kernel_rfl) (by kernel_rfl) (fun _ _ _ h => h) (Or.inl ⟨by rfl, ?_⟩) (by assumption) ?_
  rotate_left
  · (intro w hSw; obtain ⟨s0, s1, s2, s3, s4, s5⟩ := hSw; (go_simp <;> with_reducible rfl))
  try simp only [Act.put, List.setIfInBounds_toArray, List.set_cons_zero, List.set_cons_succ]
  refine wpAnyH_ready (rs := [11]) (by kernel_rfl) (by simp) ?_
  refine AllReadyH.cons (o := { dst := none, op := Op.store 101 (Operand.tmp 10) (Operand.tmp 21), type := 0, pos := _, after := #[{ on := 9, ground := Ground.data }, { on := 8, ground := Ground.chain }, { on := 0, ground := Ground.phase }, { on := 1, ground := Ground.phase }, { on := 2, ground := Ground.phase }, { on := 3, ground := Ground.phase }, { on := 4, ground := Ground.phase }, { on := 5, ground := Ground.phase }, { on := 6, ground := Ground.phase }, { on := 7, ground := Ground.phase }, { on := 8, ground := Ground.phase }, { on := 9, ground := Ground.phase }, { on := 10, ground := Ground.phase }], guard := none }) rfl (fun K hK => ?_) AllReadyH.nil
  refine st_wp rfl (wp_store_row 101 _ _ rfl (w.heap.size + 2) #[.string H.1, .string H.2.1, .int .i64 H.2.2.1, .int .i64 H.2.2.2, .slice a n c] rfl rfl 101 _ hZ6 (hi_info H _) rfl (hi_one H a n c) ?_)
  have hWi7 := hWi6.farRow (show w.heap.size ≠ w.heap.size + 2 by omega) #[.string H.1, .string H.2.1, .int .i64 H.2.2.1, .int .i64 H.2.2.2, .slice a n c]
  have hRe7 := hRe6.farRow (show w.heap.size + 1 ≠ w.heap.size + 2 by omega) #[.string H.1, .string H.2.1, .int .i64 H.2.2.1, .int .i64 H.2.2.2, .slice a n c]
  refine hK.out _ _ ?_ (fun hHeld => ?_)
  · exact ⟨hWi7.cell 0, hWi7.cell 1, hRe7.cell 0, hRe7.cell 1, hRe7.cell 2, hRe7.cell 3⟩
  clear hK K
  try simp only [Act.put]
  refine wpAnyH_take (i := 12) (oi := { dst := some 11, op := Op.assign (Operand.tmp 22), type := 36, pos := _, after := #[{ on := 10, ground := Ground.data }, { on := 11, ground := Ground.chain }, { on := 0, ground := Ground.phase }, { on := 1, ground := Ground.phase }, { on := 2, ground := Ground.phase }, { on := 3, ground := Ground.phase }, { on := 4, ground := Ground.phase }, { on := 5, ground := Ground.phase }, { on := 6, ground := Ground.phase }, { on := 7, ground := Ground.phase }, { on := 8, ground := Ground.phase }, { on := 9, ground := Ground.phase }, { on := 10, ground := Ground.phase }, { on := 11, ground := Ground.phase }], guard := none }) (v := ?_) rfl (by kernel_rfl) (by kernel_rfl) (by kernel_rfl) (fun _ _ _ h => h) (Or.inl ⟨by rfl, ?_⟩) (by assumption) ?_
  rotate_left
  · (intro w hSw; obtain ⟨s0, s1, s2, s3, s4, s5⟩ := hSw; (go_simp <;> with_reducible rfl))
  try simp only [Act.put, List.setIfInBounds_toArray, List.set_cons_zero, List.set_cons_succ]
  refine wpAnyH_done (by kernel_rfl) ?_ _
  -- @END
  go_wp2_with fail
  refine bodyPost_ret (results_cell_hi rfl _ _ (w.heap.size + 2) 101 #[.string H.1, .string H.2.1, .int .i64 H.2.2.1, .int .i64 H.2.2.2, .slice a n c] (0, 0) _ rfl (hZ6.setRow _) Tryd.underlying101 rfl (hi_info H _)) rfl ?_
  have hw4 := hZ4.lt
  have hk4 : ∀ k, (Value.slice a n c).ownBlock = some k → k = w4.heap.size := fun k hk => by have := HBB.out k hk; cases this; rfl
  exact ⟨H, a, n, c, rfl, HHH.out, fun k hk => by have := hk4 k hk; omega, Rd.grown hR6 ((G.refl w6 (some (w.heap.size + 2))).setRow (.inr rfl) _) (fun k e hk => by cases e; have := hk4 _ hk; omega), hG6.setRow (.inl (by omega)) _⟩
end Go.Proofs.YtbddcbbjmgepnaaDoor

/- Hires: lists of legs, hires compared; hired. -/
namespace Go.Proofs.YtbddcbbjmgepnaaDoor
open Go.RowKit

theorem lg_neq (x y : Lg) (w : World) : (binOp .neq 118 (.agg (lgC x)) (.agg (lgC y))).run Tryd.prog w = .ok (.bool (!(decide (x = y)))) w := by
  have ht : Tryd.prog.underlying 118 = some (.struct (Tryd.prog.fieldsOf 118)) := by kernel_rfl
  have hp : Tryd.prog.stoodInHeld 118 = false := by kernel_rfl
  rw [run_neq_struct, run_equalIn_agg w 9999 118 _ _ ht hp]
  obtain ⟨a, ⟨b, c, d, e⟩, f, g, h, i⟩ := x
  obtain ⟨a', ⟨b', c', d', e'⟩, f', g', h', i'⟩ := y
  simp [lgC, Tryd.underlying118, Tryd.underlying105, Tryd.underlying3, Tryd.underlying9, go_sem]
  have tl : ∀ u v : ByteArray, (u.toList = v.toList) ↔ u = v := fun u v => ⟨toList_ext, fun h => by rw [h]⟩
  simp only [tl]
  by_cases h1 : a = a'
  · by_cases h2 : b = b'
    · by_cases h3 : c = c'
      · by_cases h4 : d = d'
        · by_cases h5 : e = e'
          · by_cases h6 : f = f'
            · by_cases h7 : g = g'
              · by_cases h8 : h = h' <;> by_cases h9 : i = i' <;> simp [h1, h2, h3, h4, h5, h6, h7, h8, h9]
              · simp [h1, h2, h3, h4, h5, h6, h7]
            · simp [h1, h2, h3, h4, h5, h6]
          · simp [h1, h2, h3, h4, h5]
        · simp [h1, h2, h3, h4]
      · simp [h1, h2, h3]
    · simp [h1, h2]
  · simp [h1]
def EqlRel (l m : List Lg) (w : World) (i : Value) (wr : World) : Prop := ∃ k n : Nat, k ≤ l.length ∧ i = .int .i64 k ∧ l.take k = m.take k ∧ wr = w.drewN n
theorem take_succ_lg {l m : List Lg} {k : Nat} {x : Lg} (h : l.take k = m.take k) (hx : l[k]? = some x) (hy : m[k]? = some x) : l.take (k + 1) = m.take (k + 1) := by
  rw [List.take_add_one, List.take_add_one, h, hx, hy]
theorem wi_eql (x y : Int) (w : World) : (binOp .eql 27 (.agg #[.int .i64 x, .int .i64 y]) (.agg #[.int .i64 x, .int .i64 y])).run Tryd.prog w = .ok (.bool true) w := by
  have ht : Tryd.prog.underlying 27 = some (.struct (Tryd.prog.fieldsOf 27)) := by kernel_rfl
  have hp : Tryd.prog.stoodInHeld 27 = false := by kernel_rfl
  rw [run_eql_struct, run_equalIn_agg w 9999 27 _ _ ht hp]
  simp [Tryd.underlying27, Tryd.underlying3, go_sem]
def h1K : Hh := (⟨#[104]⟩, ⟨#[100]⟩, 5, 9)
def h1R : Rg := (5, ⟨#[115]⟩, 0, 0)
theorem h1_ok : hiE h1K [(⟨#[118]⟩, h1R, noIn)] = 0 := by decide +kernel
set_option maxRecDepth 100000 in
set_option maxHeartbeats 2000000 in
theorem start1_c (w : World) : Calls Tryd.prog 46 #[.string ⟨#[104]⟩, .string ⟨#[100]⟩, .agg #[.int .i64 5, .int .i64 9], .string ⟨#[118]⟩, .agg #[.int .i64 5, .string ⟨#[115]⟩, .int .i64 0, .int .i64 0]] w
    fun e w' => ∃ a c, e = .returned (.tuple #[.agg #[.string ⟨#[104]⟩, .string ⟨#[100]⟩, .int .i64 5, .int .i64 9, .slice a 1 c], .int .i64 0]) ∧ G w w' none := by
  refine (start_c h1K ⟨#[118]⟩ h1R w (small_of (by decide)) (small_of (by decide)) (small_of (by decide)) (small_of (by decide)) (by unfold bnd h1K; dsimp only; omega) (by unfold bnd h1K; dsimp only; omega)).mono ?_
  rintro e w' ⟨H, a, n, c, rfl, hH, -, hR, hG⟩
  rw [h1_ok] at hH hR
  obtain rfl : H = h1K := hH
  obtain ⟨a', c', hv, -, -⟩ := RdR.form hR
  obtain rfl : n = 1 := by cases hv; rfl
  exact ⟨a, c, by rw [h1_ok]; rfl, hG⟩
end Go.Proofs.YtbddcbbjmgepnaaDoor

/- ready: the packages do something. -/
namespace Go.Proofs.YtbddcbbjmgepnaaDoor
open Go.RowKit

def hS1 : Nat → Int := fun i => if i = 1 then 9 else 0
theorem hS1_B : HB hS1 := fun j => by unfold hS1; split <;> omega
theorem at1 : atE ⟨#[115]⟩ hS1 8 = 0 := by decide +kernel
theorem op1 : isOpenR ⟨#[115]⟩ hS1 8 = true := by decide +kernel
theorem t1441 : tE 0 1441 = 0 ∧ tN 0 1441 = 2 := by decide +kernel
theorem isOpen1_c (w : World) : Calls Tryd.prog 9 #[.agg #[.string ⟨#[115]⟩, .int .i64 0, .int .i64 9, .int .i64 0, .int .i64 0, .int .i64 0, .int .i64 0, .int .i64 0, .int .i64 0, .int .i64 0, .int .i64 0, .int .i64 0, .int .i64 0, .int .i64 0, .int .i64 0], .int .i64 8] w fun e w' => e = .returned (.tuple #[.bool true, .int .i64 0]) ∧ G w w' none := by
  have := isOpen_c ⟨#[115]⟩ hS1 8 w (by decide) hS1_B
  rw [at1, op1] at this
  exact this
theorem days1_c (w : World) : Calls Tryd.prog 45 #[.agg #[.int .i64 0, .int .i64 1441]] w fun e w' => e = .returned (.tuple #[.int .i64 2, .int .i64 0]) ∧ G w w' none := by
  have := days_c 0 1441 w (by unfold bnd; omega) (by unfold bnd; omega)
  rw [t1441.1, t1441.2] at this
  exact this
theorem spread0_c (w : World) : Calls Tryd.prog 26 #[.slice none 0 0] w fun e w' => ∃ a c, e = .returned (.tuple #[.slice a 1 c, .int .i64 0]) ∧ G w w' none := by
  refine (spread_c (.slice none 0 0) [] w (RdR.nil _ _ _) (fun _ h => by cases h) (by simp)).mono ?_
  rintro e w' ⟨u, m, rfl, hr, hm, hG⟩
  have h0 : coE [] = 0 := rfl
  have hm1 : m = [(1, 1)] := by rw [hm, if_pos h0]; decide +kernel
  subst hm1
  obtain ⟨a, c, rfl, -, -⟩ := RdR.form hr
  exact ⟨a, c, by rw [h0]; rfl, hG⟩
set_option maxRecDepth 100000 in
set_option maxHeartbeats 4000000 in
theorem ready_c (w : World) : Calls Tryd.prog 25 #[] w fun e w' => e = .returned (.bool true) ∧ G w w' none := by
  go_enter Tryd.func25, Tryd.ntmps25
  go_wp2_with fail
  refine (days1_c _).mono ?_; rintro e w1 ⟨rfl, hG1⟩
  go_wp2_with fail
  refine (isOpen1_c _).mono ?_; rintro e w2 ⟨rfl, hG2⟩
  have hG02 := hG1.trans hG2
  clear hG1 hG2
  go_wp2_with fail
  refine (spread0_c _).mono ?_; rintro e w3 ⟨a, c, rfl, hG3⟩
  have hG03 := hG02.trans hG3
  clear hG02 hG3
  go_wp2_with fail
  refine (start1_c _).mono ?_; rintro e w4 ⟨a2, c2, rfl, hG4⟩
  have hG04 := hG03.trans hG4
  clear hG03 hG4
  go_wp2_with fail
  go_ret
  exact ⟨rfl, hG04.alloc _⟩
end Go.Proofs.YtbddcbbjmgepnaaDoor

/- The law OddsAdd. -/
namespace Go.Proofs.YtbddcbbjmgepnaaDoor
open Go.RowKit

theorem less_f (x y : Fr) (w : World) (x1 : 0 ≤ x.1) (x2 : x.1 ≤ 1000000000000000000) (x3 : 0 < x.2) (x4 : x.2 ≤ 1000000000000000000) (y1 : 0 ≤ y.1) (y2 : y.1 ≤ 1000000000000000000) (y3 : 0 < y.2) (y4 : y.2 ≤ 1000000000000000000) :
    Calls Tryd.prog 28 #[.agg #[.int .i64 x.1, .int .i64 x.2], .agg #[.int .i64 y.1, .int .i64 y.2]] w fun e w' => e = .returned (.bool (ltB x y)) ∧ G w w' none := by
  obtain ⟨a, b⟩ := x
  obtain ⟨c, d⟩ := y
  dsimp only at *
  obtain ⟨a, rfl⟩ := Int.eq_ofNat_of_zero_le x1
  obtain ⟨b, rfl⟩ := Int.eq_ofNat_of_zero_le (show 0 ≤ b by omega)
  obtain ⟨c, rfl⟩ := Int.eq_ofNat_of_zero_le y1
  obtain ⟨d, rfl⟩ := Int.eq_ofNat_of_zero_le (show 0 ≤ d by omega)
  exact less_c a b c d (by omega) (by omega) (by omega) (by omega) (by omega) (by omega) w
theorem low_backN (n L : Nat) : ∃ a b : Nat, lowF (n : Int) (100 ^ L) = ((a : Int), (b : Int)) ∧ 0 < b ∧ 100 ^ L % b = 0 ∧ a * (100 ^ L / b) = n ∧ a ≤ n ∧ b ≤ 100 ^ L := by
  have hp : 0 < 100 ^ L := Nat.pow_pos (by omega)
  have e : ((100 : Int) ^ L) = ((100 ^ L : Nat) : Int) := by simp
  refine ⟨n / Nat.gcd (100 ^ L) n, 100 ^ L / Nat.gcd (100 ^ L) n, ?_, ?_, ?_, low_mul n (100 ^ L) hp, Nat.div_le_self _ _, Nat.div_le_self _ _⟩
  · rw [e]; unfold lowF; simp only [Int.toNat_natCast]
  · exact Nat.pos_of_ne_zero (low_den n (100 ^ L) hp)
  · exact Nat.mod_eq_zero_of_dvd (Nat.div_dvd_of_dvd (Nat.gcd_dvd_left _ _))
theorem coE_of {l : List Bo} (h : boE l = 0) (hn : l.length ≤ 9) : coE l = 0 := by rw [coE, if_pos h, if_neg (by omega)]
theorem cuE_of {l : List Bo} (h : coE l = 0) {u : Int} (h0 : 0 ≤ u) (h1 : u ≤ 500) : cuE l u = 0 := by
  rw [cuE, if_pos h, if_neg (by simp [inB, h0, h1])]
/-- What Over returns of right bookings. -/
theorem over_r (v : Value) (l : List Bo) (u : Int) (w : World) (hr : RdR w 6 boC v l) (hl : BoOk l) (hco : coE l = 0) (h0 : 0 ≤ u) (h1 : u ≤ 500) :
    Calls Tryd.prog 27 #[v, .int .i64 u] w fun e w' => e = .returned (.tuple #[.agg #[.int .i64 (ovF l u).1, .int .i64 (ovF l u).2], .int .i64 0]) ∧ G w w' none := by
  have h := overP_c v l u w hr hl (by have := (coE_ok hco).2; omega)
  rw [ovP, if_pos (cuE_of hco h0 h1), cuE_of hco h0 h1] at h
  exact h
theorem boErr_take : ∀ (l : List Bo) (b : ByteArray) (k : Nat), boErr b l = 0 → boErr b (l.take k) = 0
  | [], _, k, _ => by simp [boErr]
  | x :: r, b, 0, _ => rfl
  | x :: r, b, k + 1, h => by
    show boErr b (x :: r.take k) = 0
    unfold boErr at h ⊢
    split at h
    · exact absurd h (by decide)
    · split at h
      · exact absurd h (by decide)
      · split at h
        · exact absurd h (by decide)
        · split at h
          · exact absurd h (by decide)
          · rename_i h1 h2 h3 h4
            rw [if_neg h1, if_neg h2, if_neg h3, if_neg h4]
            exact boErr_take r x.1 k h
theorem coE_take {l : List Bo} (h : coE l = 0) (k : Nat) : coE (l.take k) = 0 := by
  have h9 := (coE_ok h).2
  have hb : boE l = 0 := by
    unfold coE at h
    by_cases h0 : boE l = 0
    · exact h0
    · rw [if_neg h0] at h; exact absurd h h0
  have hl : (l.take k).length ≤ 9 := by rw [List.length_take]; omega
  refine coE_of ?_ hl
  unfold boE at hb ⊢
  rw [if_neg (by omega)] at hb ⊢
  exact boErr_take l _ k hb
def WhRel (w : World) (n : Nat) (s9 s38 : Value) (wr : World) : Prop := ∃ k : Nat, k ≤ n ∧ s38 = .int .i64 k ∧ s9 = .int .i64 (100 ^ k) ∧ w = wr
def SmRel (w : World) (c : List Int) (s8 s45 : Value) (wr : World) : Prop := ∃ k : Nat, k ≤ c.length ∧ s45 = .int .i64 k ∧ s8 = .int .i64 (c.take k).sum ∧ G w wr none
set_option maxRecDepth 100000 in
set_option maxHeartbeats 16000000 in
theorem oddsAdd_c (a : Option Addr) (n c : Nat) (zs : List Int) (W : World) (hr : Rd W 1 (.slice a n c) n (zs.map (Value.int .i64))) (hz : ∀ z ∈ zs, -9223372036854775808 ≤ z ∧ z ≤ 9223372036854775807) :
    Calls Tryd.prog 4 #[.slice a n c] W fun e W' => e = .returned (.bool true) ∧ G W W' none := by
  have hSB : SB (W.alloc (.cells #[.slice a n c, .int .i64 0] 25)) W.heap.size 0 := by
    have hB := Bk.new W 25 #[.slice a n c, .int .i64 0]
    refine ⟨0, a, n, c, zs, Nat.le_refl _, hr.quiet ((G.refl _ _).alloc _), fun b e => ?_, hz, hB.cell 0, hB.cell 1, hB.free 1, hB.lt⟩
    obtain ⟨a', c', e', r1, r2, r3, r4, r5⟩ := hr
    cases e'
    exact (r5 b e).2.1
  have hG0 : G W (W.alloc (.cells #[.slice a n c, .int .i64 0] 25)) (some W.heap.size) := (G.refl _ _).alloc _
  clear hr hz
  go_enter Tryd.func4, Tryd.ntmps4
  go_wp2_with fail
  refine (range_c 0 9 _ W.heap.size 0 hSB (by omega) (by omega) (by omega) (by omega)).mono ?_; rintro e w1 ⟨m, rfl, m0, m1, hSB1, hG1⟩
  obtain ⟨m, rfl⟩ := Int.eq_ofNat_of_zero_le m0
  have hG01 := hG0.trans hG1
  have hmm : m ≤ 9 := by omega
  clear hSB hG0 hG1 m0 m1
  go_wp2_with fail
  refine (bookings_c w1 W.heap.size _ m hSB1 (by omega) (by omega)).mono ?_; rintro e w2 ⟨v, l, rfl, hown, hl, hln, hSB2, hG2⟩
  have hz1 : W.heap.size + 1 ≤ w1.heap.size := by have := hSB1.lt; omega
  have hown := OwnX.down hown (show W.heap.size + 1 ≤ w1.heap.size + 1 by omega)
  have hG02 := hG01.trans hG2
  have hl9 : l.length ≤ 9 := by omega
  clear hSB1 hG01 hG2 hln hz1 hmm
  go_wp2_with fail
  refine (range_c 0 4 _ _ _ hSB2 (by omega) (by omega) (by omega) (by omega)).mono ?_; rintro e w3 ⟨u, rfl, u0, u1, hSB3, hG3⟩
  have hrd := Rd.of_owns (OwnX.kept hown hG3 (Nat.lt_succ_self _))
  have hG03 := G.own (hG02.trans hG3) (Nat.le_refl _)
  have hu4 : u ≤ 4 := by omega
  clear hSB2 hG02 hG3 hown hSB3 u1
  obtain ⟨a4, c4, hv4, hc4, hm4⟩ := RdR.form hrd
  subst hv4
  go_wp2_with fail
  refine (bookingForm_c _ l _ hrd hl (by omega)).mono ?_; rintro e w4 ⟨rfl, hG4⟩
  have hrd := hrd.quiet hG4
  have hG04 := hG03.trans hG4
  clear hG03 hG4
  by_cases hbo : boE l = 0
  · have hco := coE_of hbo hl9
    have hpc := (coE_ok hco).1
    rw [hbo]
    have HPC := Lib.hid hpc
    obtain ⟨cl, cn, cs⟩ := cas_ok (pcs l) hpc
    have HCN := Lib.hid cn
    have HCS := Lib.hid cs
    have hcl : (cas (pcs l)).length = l.length + 1 := by rw [cl]; simp [pcs]
    clear hbo hpc cl cn cs
    go_wp2_with fail
    refine (spread_c _ l _ hrd hl (by omega)).mono ?_; rintro e w5 ⟨vs, ms, rfl, hrs, hms, hG5⟩
    rw [if_pos hco] at hms
    subst hms
    rw [hco]
    have hrd := hrd.quiet hG5
    have hG05 := hG04.trans hG5
    have HCO := Lib.hid hco
    clear hG04 hG5 hco
    obtain ⟨a7, c7, hvs, hcs, hms⟩ := RdR.form hrs
    subst hvs
    have hsl : (spL l).length = l.length + 1 := by rw [spL, List.length_map, hcl]
    rw [hsl]
    have HRS : Hid (RdR w5 2 frV (.slice a7 (l.length + 1) c7) (spL l)) := Lib.hid (by rw [← hsl]; exact hrs)
    have HRD := Lib.hid hrd
    have HGG := Lib.hid hG05
    rw [hsl] at hcs
    clear hrs hrd hG05 hsl
    go_wp2_with fail
    go_loopw [9, 38] (WhRel w5 l.length) (fun _ i _ => l.length - (intOf i).toNat)
    case atStart => exact ⟨0, by omega, rfl, rfl, rfl⟩
    case round =>
      obtain ⟨k, hkl, rfl, rfl, rfl⟩ := hrel
      have hpk := pow_le k (by omega)
      have hpp := pow_pos100 k
      obtain ⟨P, hP⟩ : ∃ P, (100 : Int) ^ k = P := ⟨_, rfl⟩
      rw [hP] at hpk hpp
      have HP := Lib.hid hP
      rw [hP]
      clear hP
      by_cases hk : k < l.length
      · have hpk2 := pow_le (k + 1) (by omega)
        have hP2 : (100 : Int) ^ (k + 1) = P * 100 := by rw [Int.pow_succ, HP.out]
        rw [hP2] at hpk2
        have HP2 := Lib.hid hP2
        have hwr : IntKind.i64.wrap (P * 100) = P * 100 := by rw [IntKind.wrap_i64]; omega
        have HK := Lib.hid hk
        have hki : (k : Int) < (l.length : Int) := by omega
        clear hP2
        go_wp2_with fail
        go_roundw
        case rel => exact ⟨k + 1, by omega, by go_num, by rw [HP2.out], rfl⟩
        case measure => have := HK.out; simp [intOf]; omega
      · obtain rfl : k = l.length := by omega
        have hnk : ¬ ((l.length : Int) < (l.length : Int)) := by omega
        have hPn : P = ((100 ^ l.length : Nat) : Int) := by rw [← HP.out]; simp
        obtain ⟨Q, hQ⟩ : ∃ Q : Nat, 100 ^ l.length = Q := ⟨_, rfl⟩
        rw [hQ] at hPn
        subst hPn
        have HQ := Lib.hid hQ
        have hQ1 : Q ≤ 1000000000000000000 := by omega
        clear hQ hpk hpp hk
        go_wp2_with fail
        go_loopw [8, 45] (SmRel w5 (cas (pcs l))) (fun _ i _ => l.length + 1 - (intOf i).toNat)
        case atStart => exact ⟨0, by omega, rfl, by simp, G.refl _ _⟩
        case round =>
          obtain ⟨k, hkl, rfl, rfl, hGr⟩ := hrel
          have hS0 : 0 ≤ ((cas (pcs l)).take k).sum := NN.sum (fun x hx => HCN.out x (List.mem_of_mem_take hx))
          by_cases hk : k < l.length + 1
          · have HK := Lib.hid hk
            obtain ⟨y, hy⟩ : ∃ y, (cas (pcs l))[k]? = some y := ⟨_, List.getElem?_eq_getElem (by omega)⟩
            have hy0 := HCN.out y (List.mem_of_getElem? hy)
            obtain ⟨y, rfl⟩ := Int.eq_ofNat_of_zero_le hy0
            have hgd : (cas (pcs l)).getD k 0 = (y : Int) := by simp [List.getD, hy]
            have hsum := take_sum (cas (pcs l)) k (by omega)
            rw [hgd] at hsum
            have hle : ((cas (pcs l)).take (k + 1)).sum ≤ (Q : Int) := by
              have h1 := take_le HCN.out (k + 1)
              rw [HCS.out, show (pcs l).length = l.length by simp [pcs], HP.out] at h1
              exact h1
            have hx : (spL l)[k]? = some (lowF (y : Int) (100 ^ l.length)) := by rw [spL, List.getElem?_map, hy]; rfl
            obtain ⟨p, q, hpq, q0, hmod, hback, hpy, hqQ⟩ := low_backN y l.length
            rw [HQ.out] at hmod hback hqQ
            rw [hpq] at hx
            obtain ⟨S, hS⟩ : ∃ S, ((cas (pcs l)).take k).sum = S := ⟨_, rfl⟩
            rw [hS] at hS0 hsum ⊢
            have HSUM := Lib.hid hsum
            rw [hsum] at hle
            have HRR := Lib.hid (HRS.out.quiet hGr)
            obtain ⟨bb, bo, rfl, -, -⟩ := RdR.elem frV_sz HRS.out hGr hx
            have HW : Hid (∀ j v, (#[Value.int .i64 (p : Int), .int .i64 (q : Int)] : Array Value).toList[j]? = some v → wr.cell? ((⟨bb, bo + k * 2, none⟩ : Addr).add j) = some v) := Lib.hid fun j v hv => by
              rw [add_at]
              exact RdR.cell frV_sz HRS.out hGr hx j v hv
            obtain ⟨d, hd⟩ : ∃ d, Q / q = d := ⟨_, rfl⟩
            have hw1 := quo_wrap Q q d hQ1 hd
            have hqn : ¬ q = 0 := by omega
            have hq1 : ¬ ((q : Int) < 1) := by omega
            have t1 : (Q : Int).tmod (q : Int) = 0 := by rw [Int.tmod_eq_emod_of_nonneg (by omega)]; exact_mod_cast hmod
            have hmul : (p : Int) * (d : Int) = (y : Int) := by rw [← hd]; exact_mod_cast hback
            have hwy : IntKind.i64.wrap (y : Int) = (y : Int) := by rw [IntKind.wrap_i64]; omega
            have hws : IntKind.i64.wrap (S + (y : Int)) = S + (y : Int) := by rw [IntKind.wrap_i64]; omega
            have hki : (k : Int) < (l.length : Int) + 1 := by omega
            clear hy hgd hx hpq hmod hback hpy hqQ hd hS hsum hy0
            go_wp2_with (refine wpList_load_at rfl 61 _ rfl ⟨bb, bo + k * 2, none⟩ rfl #[.int .i64 (p : Int), .int .i64 (q : Int)] _ HW.out Tryd.underlying61 rfl (fr_info _ _) ?_)
            have hGa := hGr.alloc (.cells #[.int .i64 (p : Int), .int .i64 (q : Int)] 61)
            go_quiet (fail)
            have hGq := hGa.drewN nq
            clear t1 hmul hwy hw1 HW
            go_wp2_with fail
            go_roundw
            case rel => exact ⟨k + 1, by omega, by go_num, by rw [HSUM.out], hGq⟩
            case measure => have := HK.out; simp [intOf]; omega
          · obtain rfl : k = l.length + 1 := by omega
            have hfull : ((cas (pcs l)).take (l.length + 1)).sum = (Q : Int) := by
              rw [← hcl, List.take_length, HCS.out, show (pcs l).length = l.length by simp [pcs]]
              exact HP.out
            rw [hfull]
            have hnk1 : ¬ ((l.length : Int) + 1 < (l.length : Int) + 1) := by omega
            have hnk2 : ¬ ((((l.length + 1 : Nat)) : Int) < (l.length : Int) + 1) := by omega
            have hrd := HRD.out.quiet hGr
            have hG := HGG.out.trans hGr
            have hwu : IntKind.i64.wrap (u + 1) = u + 1 := by rw [IntKind.wrap_i64]; omega
            obtain ⟨k2, hk2⟩ : ∃ k2, l.length / 2 = k2 := ⟨_, rfl⟩
            have hk2l : k2 ≤ l.length := by omega
            have hdv : (l.length : Int) / 2 = (k2 : Int) := by omega
            have hdt : (l.length : Int).tdiv 2 = (k2 : Int) := by rw [Int.tdiv_eq_ediv_of_nonneg (by omega)]; omega
            have hwk : IntKind.i64.wrap (k2 : Int) = (k2 : Int) := by rw [IntKind.wrap_i64]; omega
            have hk2c : (k2 : Int) ≤ (c4 : Int) := by omega
            have hk2n : k2 ≤ c4 := by omega
            have HTK := Lib.hid (And.intro (show BoOk (l.take k2) from fun x hx => hl x (List.mem_of_mem_take hx)) (And.intro (HPC.out.take k2) (show (l.take k2).length ≤ 9 by rw [List.length_take]; omega)))
            have HCT : Hid (coE (l.take k2) = 0) := Lib.hid (coE_take HCO.out k2)
            have HL1 := Lib.hid (over_less_units l u HPC.out)
            have HL2 := Lib.hid (over_less_take l u k2 HPC.out hk2l)
            have HB1 := Lib.hid (And.intro (ovF_bnd l u HPC.out hl9) (lowF_pos (ovS (cas (pcs l)) u (l.length + 1)) (100 ^ l.length) (pow_pos100 _)))
            have HB2 := Lib.hid (And.intro (ovF_bnd l (u + 1) HPC.out hl9) (lowF_pos (ovS (cas (pcs l)) (u + 1) (l.length + 1)) (100 ^ l.length) (pow_pos100 _)))
            have HB3 := Lib.hid (And.intro (ovF_bnd (l.take k2) u HTK.out.2.1 HTK.out.2.2) (lowF_pos (ovS (cas (pcs (l.take k2))) u ((l.take k2).length + 1)) (100 ^ (l.take k2).length) (pow_pos100 _)))
            have HO := Lib.hid (And.intro (fun w h => over_r (.slice a4 l.length c4) l u w h hl HCO.out u0 (by omega)) (And.intro (fun w h => over_r (.slice a4 l.length c4) l (u + 1) w h hl HCO.out (by omega) (by omega)) (fun w (h : RdR w 6 boC (.slice a4 k2 c4) (l.take k2)) => over_r (.slice a4 k2 c4) (l.take k2) u w h HTK.out.1 HCT.out u0 (by omega))))
            obtain ⟨F1, hF1⟩ : ∃ F, ovF l u = F := ⟨_, rfl⟩
            obtain ⟨F2, hF2⟩ : ∃ F, ovF l (u + 1) = F := ⟨_, rfl⟩
            obtain ⟨F3, hF3⟩ : ∃ F, ovF (l.take k2) u = F := ⟨_, rfl⟩
            rw [hF1, hF2, hF3] at HO
            rw [hF1, hF2] at HL1
            rw [hF1, hF3] at HL2
            rw [show lowF (ovS (cas (pcs l)) u (l.length + 1)) (100 ^ l.length) = F1 from hF1, hF1] at HB1
            rw [show lowF (ovS (cas (pcs l)) (u + 1) (l.length + 1)) (100 ^ l.length) = F2 from hF2, hF2] at HB2
            rw [show lowF (ovS (cas (pcs (l.take k2))) u ((l.take k2).length + 1)) (100 ^ (l.take k2).length) = F3 from hF3, hF3] at HB3
            have hpre : ∀ w, RdR w 6 boC (.slice a4 l.length c4) l → RdR w 6 boC (.slice a4 k2 c4) (l.take k2) := fun w h => RdR.prefix_ boC_sz h k2 hk2l
            have HPRE := Lib.hid hpre
            clear hF1 hF2 hF3 hpre hfull hk HTK hk2 hk2l HRS HRD HGG HCN HCS HP HQ hcl hkl
            go_wp2_with fail
            refine (HO.out.1 _ hrd).mono ?_; rintro e y1 ⟨rfl, hH⟩
            have hrd := (hrd.quiet hH).quiet ((G.refl y1 none).alloc (.cells #[.int .i64 F1.1, .int .i64 F1.2] 61))
            have hG := (hG.trans hH).alloc (.cells #[.int .i64 F1.1, .int .i64 F1.2] 61)
            have hF1 : Bk (y1.alloc (.cells #[.int .i64 F1.1, .int .i64 F1.2] 61)) y1.heap.size 61 (frV F1) := Bk.new _ _ _
            clear hH
            go_upto_region 19 with fail
            generalize y1.alloc (.cells #[.int .i64 F1.1, .int .i64 F1.2] 61) = y1b at hrd hG hF1 ⊢
            generalize y1.heap.size = f1 at hF1 ⊢
            go_wp2_with fail
            refine (HO.out.2.1 _ hrd).mono ?_; rintro e y2 ⟨rfl, hH⟩
            have hrd := (hrd.quiet hH).quiet ((G.refl y2 none).alloc (.cells #[.int .i64 F2.1, .int .i64 F2.2] 61))
            have hG := (hG.trans hH).alloc (.cells #[.int .i64 F2.1, .int .i64 F2.2] 61)
            have hF1 := (hF1.quiet hH).alloc (.cells #[.int .i64 F2.1, .int .i64 F2.2] 61)
            have hF2 : Bk (y2.alloc (.cells #[.int .i64 F2.1, .int .i64 F2.2] 61)) y2.heap.size 61 (frV F2) := Bk.new _ _ _
            clear hH
            go_upto_region 20 with fail
            generalize y2.alloc (.cells #[.int .i64 F2.1, .int .i64 F2.2] 61) = y2b at hrd hG hF1 hF2 ⊢
            generalize y2.heap.size = f2 at hF2 ⊢
            go_wp2_with fail
            refine (HO.out.2.2 _ (HPRE.out _ hrd)).mono ?_; rintro e y3 ⟨rfl, hH⟩
            have hrd := (hrd.quiet hH).quiet ((G.refl y3 none).alloc (.cells #[.int .i64 F3.1, .int .i64 F3.2] 61))
            have hG := (hG.trans hH).alloc (.cells #[.int .i64 F3.1, .int .i64 F3.2] 61)
            have hF1 := (hF1.quiet hH).alloc (.cells #[.int .i64 F3.1, .int .i64 F3.2] 61)
            have hF2 := (hF2.quiet hH).alloc (.cells #[.int .i64 F3.1, .int .i64 F3.2] 61)
            have hF3 : Bk (y3.alloc (.cells #[.int .i64 F3.1, .int .i64 F3.2] 61)) y3.heap.size 61 (frV F3) := Bk.new _ _ _
            clear hH
            go_upto_region 21 with fail
            generalize y3.alloc (.cells #[.int .i64 F3.1, .int .i64 F3.2] 61) = y3b at hrd hG hF1 hF2 hF3 ⊢
            generalize y3.heap.size = f3 at hF3 ⊢
            clear hrd HO HPRE
            have p0 : y3b.cell? ⟨f1, 0, none⟩ = some (.int .i64 F1.1) := hF1.cell 0
            have p1 : y3b.cell? ⟨f1, 1, none⟩ = some (.int .i64 F1.2) := hF1.cell 1
            have q0 : y3b.cell? ⟨f2, 0, none⟩ = some (.int .i64 F2.1) := hF2.cell 0
            have q1 : y3b.cell? ⟨f2, 1, none⟩ = some (.int .i64 F2.2) := hF2.cell 1
            go_wp2_with fail
            refine (less_f F1 F2 _ HB1.out.1.1 HB1.out.1.2.1 HB1.out.2 HB1.out.1.2.2.2 HB2.out.1.1 HB2.out.1.2.1 HB2.out.2 HB2.out.1.2.2.2).mono ?_; rintro e y4 ⟨rfl, hH⟩
            rw [HL1.out]
            have hF1 := hF1.quiet hH
            have hF3 := hF3.quiet hH
            have hG := hG.trans hH
            clear hH p0 p1 q0 q1 hF2
            have p0 : y4.cell? ⟨f1, 0, none⟩ = some (.int .i64 F1.1) := hF1.cell 0
            have p1 : y4.cell? ⟨f1, 1, none⟩ = some (.int .i64 F1.2) := hF1.cell 1
            have q0 : y4.cell? ⟨f3, 0, none⟩ = some (.int .i64 F3.1) := hF3.cell 0
            have q1 : y4.cell? ⟨f3, 1, none⟩ = some (.int .i64 F3.2) := hF3.cell 1
            go_wp2_with fail
            refine (less_f F1 F3 _ HB1.out.1.1 HB1.out.1.2.1 HB1.out.2 HB1.out.1.2.2.2 HB3.out.1.1 HB3.out.1.2.1 HB3.out.2 HB3.out.1.2.2.2).mono ?_; rintro e y5 ⟨rfl, hH⟩
            rw [HL2.out]
            have hG := hG.trans hH
            clear hH p0 p1 q0 q1
            go_wp2_with fail
            refine (ready_c _).mono ?_; rintro e y6 ⟨rfl, hH⟩
            go_wp2_with fail
            go_ret
            exact ⟨rfl, hG.trans hH⟩
  · have hbo1 : (boE l != 0) = true := by simpa using hbo
    clear hbo
    go_wp2_with fail
    refine (ready_c _).mono ?_; rintro e w5 ⟨rfl, hG5⟩
    go_wp2_with fail
    go_ret
    exact ⟨rfl, hG04.trans hG5⟩
end Go.Proofs.YtbddcbbjmgepnaaDoor

/- What the row's list of variables gives; a start that meets it. -/
namespace Go.Proofs.YtbddcbbjmgepnaaDoor
open Go.ChangeShapes Go.WideShapes Go.ChangeAt Go.RowKit

theorem own : ownKnob Tryd.prog.godebug = none := by kernel_rfl
theorem c1 : Tryd.prog.cellsOf 3 = 1 := by kernel_rfl
def laidL : List (String × DataW Unit) := [("unicode/utf8.acceptRanges", Rows.laid_unicode_utf8_acceptRanges), ("unicode/utf8.first", Rows.laid_unicode_utf8_first)]
/-- A start that meets the list: what the door's run leaves, Go's own table laid by hand. -/
noncomputable def laidWorld (os : Os) : World :=
  { World.doorLaid Tryd.prog 200 os with heap := (World.doorLaid Tryd.prog 200 os).heap.modify 2 fun
      | .cells _ t fr => .cells (Lib.firstTab.map (Value.int .u8)).toArray t fr
      | o => o }
set_option maxRecDepth 100000 in
theorem laid_met (os : Os) : laidMetH Tryd.prog laidL ((laidWorld os).forCall (fun _ _ => 0) ⟨#[], #[.slice none 0 0], []⟩).memory :=
  laidMetH_of_parts3 (fuel := 8) (laidMet_of_run' 8 (by kernel_rfl) (by kernel_rfl)) (by kernel_rfl) (by kernel_rfl)

/-! ### The row's last step -/
section
variable {H : Type} {enc : TypeId × Value → H} {P : Program}
theorem post_quiet {f : Func} {s : ChangeSpec} {apart fresh handsOn again : Bool} {W W' : World} {args : Array Value} {v : Value} {ds gs : List (DataW H)} {before pa pv : List MemPlace}
    (hW : DataW.Whole enc P f.params.toList s.vars apart W args.toList ds gs before) (hg : G W W' none)
    (hres : ∀ (b : Nat) (sp : Nat → Bool) (hd : Bool), DataW.TrodAll enc P W' b sp hd f.resultTypes.toList (v.resultList f.resultTypes.size) (s.fn H (ds ++ gs)).results [])
    (hargs : ∀ sp : Nat → Bool, (∀ p ∈ before, sp p.block = true) → DataW.TrodAll enc P W' 0 sp true f.params.toList args.toList (s.fn H (ds ++ gs)).args pa)
    (hvars : ∀ sp : Nat → Bool, (∀ p ∈ before, sp p.block = true) → DataW.TrodVars enc P W' sp s.vars (s.fn H (ds ++ gs)).vars pv)
    (hps : before = pa ++ pv)
    (hok : ∀ (j : Nat) (t : TypeId) (r : Value), f.resultTypes[j]? = some t → (v.resultList f.resultTypes.size)[j]? = some r → Value.okWide P W' .any 0 t r) :
    s.post enc P f apart fresh handsOn again W args v W' := by
  have hb := hg.below
  have lt : ∀ p ∈ before, p.block < W.heap.size := fun p hp => hW.lt p hp
  have old : ∀ p ∈ before, (fun b => decide (b < W.heap.size)) p.block = true := fun p hp => decide_eq_true (lt p hp)
  have sub : ∀ p, p ∈ ([] ++ pa) ++ pv → p ∈ before := fun p hp => by rw [hps]; simpa using hp
  refine ⟨ds, gs, before, [], pa, pv, hW, hres _ _ _, hargs _ old, hvars _ old, World.keptBut_mono (fun p hp => ⟨hp, .inr (by rw [← List.mem_append, ← hps]; exact hp)⟩) (hb.frame (· ∈ before)), fun _ => ⟨hok, ?_⟩⟩
  obtain ⟨_, _, _, _, _, hz, hn⟩ := hW
  refine ⟨_, _, ([] ++ pa) ++ pv, ⟨[] ++ pa, pv, trodAll_append (hargs _ fun _ _ => rfl) (hres _ _ _), hvars _ fun _ _ => rfl, rfl, fun b off hp => ?_, fun ha => ?_⟩, fun p hp _ => sub p hp⟩
  · rw [hb.frozen (lt _ (sub _ hp))]
    exact hz b off (sub _ hp)
  · have h := hn ha
    rw [hps] at h
    simpa using h
end
theorem laidOut : laidOutB Tryd.prog = true := by kernel_rfl
theorem wf64 {n : Int} (h : (Lit.int .i64 n).wf = true) : -9223372036854775808 ≤ n ∧ n ≤ 9223372036854775807 := by
  have h1 : IntKind.i64.min = -9223372036854775808 := rfl
  have h2 : IntKind.i64.max = 9223372036854775807 := rfl
  simp only [Lit.wf, Bool.and_eq_true, decide_eq_true_eq] at h
  omega
set_option maxRecDepth 100000 in
theorem has_of_ok {W : World} {base : Nat} {a : Addr} {n c : Nat} (hok : Value.okWide Tryd.prog W .any base 22 (.slice (some a) n c)) : a.spot = none ∧ a.block < W.heap.size := by
  simp only [Value.okWide, Tryd.underlying22, Cell.okWide, Cell.ok] at hok
  obtain ⟨_, _, _, h2, row, cells, h3, _⟩ := hok
  refine ⟨h2, ?_⟩
  unfold World.shape? at h3
  cases hh : W.heap[a.block]? with
  | none => simp [hh] at h3
  | some o => exact (Array.getElem?_eq_some_iff.1 hh).1
set_option maxRecDepth 100000 in
/-- The list of numbers that came in, as the walk wants it. -/
theorem rd_of_trod {H : Type} {enc : TypeId × Value → H} {W : World} {base : Nat} {v : Value} {d : DataW H} {p : List MemPlace} (hok : Value.okWide Tryd.prog W .any base 22 v) (h : DataW.Trod enc Tryd.prog W 0 (fun _ => true) true 22 v d p) :
    ∃ (a : Option Addr) (n c : Nat) (zs : List Int), v = .slice a n c ∧ Rd W 1 (.slice a n c) n (zs.map (Value.int .i64)) ∧ ∀ z ∈ zs, -9223372036854775808 ≤ z ∧ z ≤ 9223372036854775807 := by
  obtain ⟨a0, len, cap, rfl⟩ := okWide_slice Tryd.underlying22 hok
  obtain ⟨fuel, hf⟩ := h
  rcases open_ints Tryd.underlying22 Tryd.underlying3 c1 hf with ⟨hcs, _⟩ | ⟨a, len', cap', zs, hcs, _, hl, hm, hz, _, hcell, hw⟩
  · have hcs' : [Value.slice a0 len cap] = [Value.slice none 0 0] := hcs
    injection hcs' with e _
    injection e with e1 e2 e3
    subst e1; subst e2; subst e3
    exact ⟨none, 0, 0, [], rfl, ⟨none, 0, rfl, Nat.le_refl _, Nat.zero_le _, rfl, fun _ => ⟨rfl, rfl⟩, fun b hb => by cases hb⟩, fun z hz => by cases hz⟩
  · have hcs' : [Value.slice a0 len cap] = [Value.slice (some a) len' cap'] := hcs
    injection hcs' with e _
    injection e with e1 e2 e3
    subst e1; subst e2; subst e3
    simp only [if_true] at hz
    obtain ⟨s1, s2⟩ := has_of_ok hok
    refine ⟨some a, len, cap, zs.take len, rfl, ⟨some a, cap, rfl, hl, hm, by simp; omega, (fun e => by cases e), fun b hb => ?_⟩, fun z hz' => wf64 (hw z (List.mem_of_mem_take hz'))⟩
    obtain rfl := Option.some.inj hb
    refine ⟨s1, s2, fun j u hj => ?_⟩
    rw [List.getElem?_map] at hj
    obtain ⟨z, hz1, rfl⟩ := Option.map_eq_some_iff.1 hj
    have hjl := (List.getElem?_eq_some_iff.1 hz1).1
    simp at hjl
    have hc := hcell j (by omega)
    have hz2 : zs[j]? = some z := by rw [← hz1, List.getElem?_take, if_pos (by omega)]
    rw [List.getD, hz2] at hc
    have ha : a.add j = ⟨a.block, a.off + j, none⟩ := by
      obtain ⟨ab, ao, asp⟩ := a
      dsimp only at s1
      subst s1
      exact add_at ab ao j
    rw [ha] at hc
    exact hc
end Go.Proofs.YtbddcbbjmgepnaaDoor
