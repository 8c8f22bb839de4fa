/- Hires: Start, StartOf. -/
import Derived.Test.YtgddchdpeflmoaaDoorHis
import Derived.Test.YtgddchdpeflmoaaDoorStp
import Derived.Test.YtgddchdpeflmoaaDoorPck
namespace Go.Proofs.YtgddchdpeflmoaaDoor
open Go.RowKit

theorem RdR.oneLg {w : World} {g : Nat} {b : Lg} (h : Bk w g 85 (lgC b)) : RdR w 9 lgC (.slice (some ⟨g, 0, none⟩) 1 1) [b] := h.rd 9 1 rfl (by omega)
theorem openLeg_l (s : ByteArray) (r : Rg) (w : World) : Calls Tryd.prog 38 #[.string s, .agg #[.int .i64 r.1, .string r.2.1, .int .i64 r.2.2.1, .int .i64 r.2.2.2]] w fun e w' => e = .returned (.agg #[.string s, .int .i64 r.1, .string r.2.1, .int .i64 r.2.2.1, .int .i64 r.2.2.2, .int .i64 (-1), .string ⟨#[]⟩, .int .i64 0, .int .i64 0]) ∧ G w w' none := openLeg_c s r w
set_option maxRecDepth 100000 in
set_option maxHeartbeats 4000000 in
theorem start_c (h : Hh) (s : ByteArray) (r : Rg) (w : World) (hs : Small s) (hsr : Small r.2.1) (hs1 : Small h.1) (hs2 : Small h.2.1) (hb1 : bnd h.2.2.1) (hb2 : bnd h.2.2.2) :
    Calls Tryd.prog 25 #[.string h.1, .string h.2.1, .agg #[.int .i64 h.2.2.1, .int .i64 h.2.2.2], .string s, .agg (rgC r)] w
      (MadePost h [(s, r, noIn)] (fun k => w.heap.size ≤ k) w) := by
  have hb0 : LgOk [(s, r, noIn)] := fun x hx => by
    obtain rfl := List.mem_singleton.1 hx
    exact ⟨hs, hsr, by show Small ⟨#[]⟩; unfold Small; decide⟩
  have hWi := ((Bk.new w 54 #[.int .i64 h.2.2.1, .int .i64 h.2.2.2]).alloc (.cells (rgC r) 69)).alloc (.cells hiZ 65)
  have hRe := (Bk.newAt (w := w.alloc (.cells #[.int .i64 h.2.2.1, .int .i64 h.2.2.2] 54)) (b := w.heap.size + 1) (by simp) 69 (rgC r)).alloc (.cells hiZ 65)
  have hZ := Bk.newAt (w := (w.alloc (.cells #[.int .i64 h.2.2.1, .int .i64 h.2.2.2] 54)).alloc (.cells (rgC r) 69)) (b := w.heap.size + 2) (by simp) 65 hiZ
  have hG := (((G.refl w none).alloc (.cells #[.int .i64 h.2.2.1, .int .i64 h.2.2.2] 54)).alloc (.cells (rgC r) 69)).alloc (.cells hiZ 65)
  simp only [rgC, hiZ, hiC] at hWi hRe hZ hG ⊢
  go_enter Tryd.func25, Tryd.ntmps25
  go_upto_region 1 with fail
  generalize ((w.alloc (.cells #[.int .i64 h.2.2.1, .int .i64 h.2.2.2] 54)).alloc (.cells #[.int .i64 r.1, .string r.2.1, .int .i64 r.2.2.1, .int .i64 r.2.2.2] 69)).alloc (.cells #[.string ⟨#[]⟩, .string ⟨#[]⟩, .int .i64 0, .int .i64 0, .slice none 0 0] 65) = w2 at hWi hRe hZ hG ⊢
  -- @REGION
  have hWi3 := hWi.quiet ((G.refl w2 none).drew)
  have hRe3 := hRe.quiet ((G.refl w2 none).drew)
  have hZ3 := hZ.quiet ((G.refl w2 none).drew)
  have hG3 := hG.drew
  clear hWi hRe hZ hG
  refine wp_region_held_drew (S := (fun w' => w'.cell? ⟨w.heap.size, 0, none⟩ = some (.int .i64 h.2.2.1) ∧ w'.cell? ⟨w.heap.size, 1, none⟩ = some (.int .i64 h.2.2.2) ∧ w'.cell? ⟨w.heap.size + 1, 0, none⟩ = some (.int .i64 r.1) ∧ w'.cell? ⟨w.heap.size + 1, 1, none⟩ = some (.string r.2.1) ∧ w'.cell? ⟨w.heap.size + 1, 2, none⟩ = some (.int .i64 r.2.2.1) ∧ w'.cell? ⟨w.heap.size + 1, 3, none⟩ = some (.int .i64 r.2.2.2))) (by kernel_rfl) ?_ (fun hHeld => ?_)
  · exact ⟨hWi3.cell 0, hWi3.cell 1, hRe3.cell 0, hRe3.cell 1, hRe3.cell 2, hRe3.cell 3⟩
  refine wpAnyH_take (i := 0) (oi := { dst := some 12, op := Op.move (Operand.tmp 0), type := 9, pos := "hire.go:116", after := #[], guard := none }) (v := ?_) rfl (by kernel_rfl) (by kernel_rfl) (by kernel_rfl) (fun _ _ _ h => h) (Or.inl ⟨by rfl, ?_⟩) (by assumption) ?_
  rotate_left
  · (intro w hSw; obtain ⟨s0, s1, s2, s3, s4, s5⟩ := hSw; (go_simp <;> with_reducible rfl))
  try simp only [Act.put, List.setIfInBounds_toArray, List.set_cons_zero, List.set_cons_succ]
  refine wpAnyH_take (i := 1) (oi := { dst := some 13, op := Op.move (Operand.tmp 1), type := 9, pos := "hire.go:116", after := #[], guard := none }) (v := ?_) rfl (by kernel_rfl) (by kernel_rfl) (by kernel_rfl) (fun _ _ _ h => h) (Or.inl ⟨by rfl, ?_⟩) (by assumption) ?_
  rotate_left
  · (intro w hSw; obtain ⟨s0, s1, s2, s3, s4, s5⟩ := hSw; (go_simp <;> with_reducible rfl))
  try simp only [Act.put, List.setIfInBounds_toArray, List.set_cons_zero, List.set_cons_succ]
  refine wpAnyH_take (i := 2) (oi := { dst := some 14, op := Op.load 54 (Operand.tmp 7), type := 54, pos := "hire.go:116", after := #[], guard := none }) (v := ?_) rfl (by kernel_rfl) (by kernel_rfl) (by kernel_rfl) (fun _ _ _ h => h) (Or.inl ⟨by rfl, ?_⟩) (by assumption) ?_
  rotate_left
  · (intro w hSw; obtain ⟨s0, s1, s2, s3, s4, s5⟩ := hSw; (go_simp <;> with_reducible rfl))
  try simp only [Act.put, List.setIfInBounds_toArray, List.set_cons_zero, List.set_cons_succ]
  refine wpAnyH_take (i := 3) (oi := { dst := some 15, op := Op.move (Operand.tmp 3), type := 9, pos := "hire.go:116", after := #[], guard := none }) (v := ?_) rfl (by kernel_rfl) (by kernel_rfl) (by kernel_rfl) (fun _ _ _ h => h) (Or.inl ⟨by rfl, ?_⟩) (by assumption) ?_
  rotate_left
  · (intro w hSw; obtain ⟨s0, s1, s2, s3, s4, s5⟩ := hSw; (go_simp <;> with_reducible rfl))
  try simp only [Act.put, List.setIfInBounds_toArray, List.set_cons_zero, List.set_cons_succ]
  refine wpAnyH_take (i := 4) (oi := { dst := some 16, op := Op.load 69 (Operand.tmp 9), type := 69, pos := "hire.go:116", after := #[], guard := none }) (v := ?_) rfl (by kernel_rfl) (by kernel_rfl) (by kernel_rfl) (fun _ _ _ h => h) (Or.inl ⟨by rfl, ?_⟩) (by assumption) ?_
  rotate_left
  · (intro w hSw; obtain ⟨s0, s1, s2, s3, s4, s5⟩ := hSw; (go_simp <;> with_reducible rfl))
  try simp only [Act.put, List.setIfInBounds_toArray, List.set_cons_zero, List.set_cons_succ]
  refine wpAnyH_ready (rs := [5]) (by kernel_rfl) (by simp) ?_
  refine AllReadyH.cons (o := { dst := some 17, op := Op.call { callee := Callee.value (Operand.func 38), args := #[Operand.tmp 15, Operand.tmp 16], argTypes := #[9, 69] }, type := 85, pos := "hire.go:116", after := #[{ on := 3, ground := Ground.data }, { on := 4, ground := Ground.data }], guard := none }) rfl (fun K hK => ?_) AllReadyH.nil
  go_simp
  refine (openLeg_l s r _).mono ?_
  rintro e w4 ⟨rfl, hH⟩
  have hWi4 := hWi3.quiet hH
  have hRe4 := hRe3.quiet hH
  have hZ4 := hZ3.quiet hH
  have hG4 := hG3.trans hH
  clear hH
  refine hK.out _ _ ?_ (fun hHeld => ?_)
  · exact ⟨hWi4.cell 0, hWi4.cell 1, hRe4.cell 0, hRe4.cell 1, hRe4.cell 2, hRe4.cell 3⟩
  clear hK K
  try simp only [Act.put, List.setIfInBounds_toArray, List.set_cons_zero, List.set_cons_succ]
  refine wpAnyH_ready (rs := [6]) (by kernel_rfl) (by simp) ?_
  refine AllReadyH.cons (o := { dst := some 18, op := Op.buildSlice 63 1 #[(0, Operand.tmp 17)], type := 63, pos := "hire.go:116", after := #[{ on := 5, ground := Ground.data }], guard := none }) rfl (fun K hK => ?_) AllReadyH.nil
  go_simp
  have hH := (G.refl w4 none).alloc (.cells #[.string s, .int .i64 r.1, .string r.2.1, .int .i64 r.2.2.1, .int .i64 r.2.2.2, .int .i64 (-1), .string ⟨#[]⟩, .int .i64 0, .int .i64 0] 85)
  have hWi5 := hWi4.quiet hH
  have hRe5 := hRe4.quiet hH
  have hZ5 := hZ4.quiet hH
  have hG5 := hG4.trans hH
  clear hH
  refine hK.out _ _ ?_ (fun hHeld => ?_)
  · exact ⟨hWi5.cell 0, hWi5.cell 1, hRe5.cell 0, hRe5.cell 1, hRe5.cell 2, hRe5.cell 3⟩
  clear hK K
  try simp only [Act.put, List.setIfInBounds_toArray, List.set_cons_zero, List.set_cons_succ]
  refine wpAnyH_take (i := 7) (oi := { dst := some 19, op := Op.build 65 #[(0, Operand.tmp 12), (1, Operand.tmp 13), (2, Operand.tmp 14), (3, Operand.tmp 18)], type := 65, pos := "hire.go:116", after := #[{ on := 0, ground := Ground.data }, { on := 1, ground := Ground.data }, { on := 2, ground := Ground.data }, { on := 6, ground := Ground.data }], guard := none }) (v := ?_) rfl (by kernel_rfl) (by kernel_rfl) (by kernel_rfl) (fun _ _ _ h => h) (Or.inl ⟨by rfl, ?_⟩) (by assumption) ?_
  rotate_left
  · (intro w hSw; obtain ⟨s0, s1, s2, s3, s4, s5⟩ := hSw; (go_simp <;> with_reducible rfl))
  try simp only [Act.put, List.setIfInBounds_toArray, List.set_cons_zero, List.set_cons_succ]
  refine wpAnyH_ready (rs := [8]) (by kernel_rfl) (by simp) ?_
  refine AllReadyH.cons (o := { dst := some 20, op := Op.call { callee := Callee.value (Operand.func 37), args := #[Operand.tmp 19], argTypes := #[65] }, type := 66, pos := "hire.go:116", after := #[{ on := 7, ground := Ground.data }, { on := 5, ground := Ground.chain }], guard := none }) rfl (fun K hK => ?_) AllReadyH.nil
  go_simp
  refine (right_c h (.slice (some ⟨w4.heap.size, 0, none⟩) 1 1) [(s, r, noIn)] _ (RdR.oneLg (b := (s, r, noIn)) (Bk.new w4 _ _)) hb0 hs1 hs2 hb1 hb2 (by simp)).mono ?_
  rintro e w6 ⟨H, a, n, c, rfl, hHH, hBB, hR6, hH⟩
  have HHH := Lib.hid hHH
  have HBB := Lib.hid hBB
  clear hHH hBB
  have hWi6 := hWi5.quiet hH
  have hRe6 := hRe5.quiet hH
  have hZ6 := hZ5.quiet hH
  have hG6 := hG5.trans hH
  clear hH
  refine hK.out _ _ ?_ (fun hHeld => ?_)
  · exact ⟨hWi6.cell 0, hWi6.cell 1, hRe6.cell 0, hRe6.cell 1, hRe6.cell 2, hRe6.cell 3⟩
  clear hK K
  try simp only [Act.put, List.setIfInBounds_toArray, List.set_cons_zero, List.set_cons_succ]
  refine wpAnyH_take (i := 9) (oi := { dst := some 21, op := Op.extract (Operand.tmp 20) 0, type := 65, pos := "hire.go:116", after := #[{ on := 8, ground := Ground.data }], guard := none }) (v := ?_) rfl (by kernel_rfl) (by kernel_rfl) (by kernel_rfl) (fun _ _ _ h => h) (Or.inl ⟨by rfl, ?_⟩) (by assumption) ?_
  rotate_left
  · (intro w hSw; obtain ⟨s0, s1, s2, s3, s4, s5⟩ := hSw; (go_simp <;> with_reducible rfl))
  try simp only [Act.put, List.setIfInBounds_toArray, List.set_cons_zero, List.set_cons_succ]
  refine wpAnyH_take (i := 10) (oi := { dst := some 22, op := Op.extract (Operand.tmp 20) 1, type := 32, pos := "hire.go:116", after := #[{ on := 8, ground := Ground.data }], guard := none }) (v := ?_) rfl (by kernel_rfl) (by kernel_rfl) (by kernel_rfl) (fun _ _ _ h => h) (Or.inl ⟨by rfl, ?_⟩) (by assumption) ?_
  rotate_left
  · (intro w hSw; obtain ⟨s0, s1, s2, s3, s4, s5⟩ := hSw; (go_simp <;> with_reducible rfl))
  try simp only [Act.put, List.setIfInBounds_toArray, List.set_cons_zero, List.set_cons_succ]
  refine wpAnyH_ready (rs := [11]) (by kernel_rfl) (by simp) ?_
  refine AllReadyH.cons (o := { dst := none, op := Op.store 65 (Operand.tmp 10) (Operand.tmp 21), type := 0, pos := "hire.go:116", after := #[{ on := 9, ground := Ground.data }, { on := 8, ground := Ground.chain }, { on := 0, ground := Ground.phase }, { on := 1, ground := Ground.phase }, { on := 2, ground := Ground.phase }, { on := 3, ground := Ground.phase }, { on := 4, ground := Ground.phase }, { on := 5, ground := Ground.phase }, { on := 6, ground := Ground.phase }, { on := 7, ground := Ground.phase }, { on := 8, ground := Ground.phase }, { on := 9, ground := Ground.phase }, { on := 10, ground := Ground.phase }], guard := none }) rfl (fun K hK => ?_) AllReadyH.nil
  refine st_wp rfl (wp_store_row 65 _ _ rfl (w.heap.size + 2) #[.string H.1, .string H.2.1, .int .i64 H.2.2.1, .int .i64 H.2.2.2, .slice a n c] rfl rfl 65 _ hZ6 (hi_info H _) rfl (hi_one H a n c) ?_)
  have hWi7 := hWi6.farRow (show w.heap.size ≠ w.heap.size + 2 by omega) #[.string H.1, .string H.2.1, .int .i64 H.2.2.1, .int .i64 H.2.2.2, .slice a n c]
  have hRe7 := hRe6.farRow (show w.heap.size + 1 ≠ w.heap.size + 2 by omega) #[.string H.1, .string H.2.1, .int .i64 H.2.2.1, .int .i64 H.2.2.2, .slice a n c]
  refine hK.out _ _ ?_ (fun hHeld => ?_)
  · exact ⟨hWi7.cell 0, hWi7.cell 1, hRe7.cell 0, hRe7.cell 1, hRe7.cell 2, hRe7.cell 3⟩
  clear hK K
  try simp only [Act.put]
  refine wpAnyH_take (i := 12) (oi := { dst := some 11, op := Op.assign (Operand.tmp 22), type := 32, pos := "hire.go:116", after := #[{ on := 10, ground := Ground.data }, { on := 11, ground := Ground.chain }, { on := 0, ground := Ground.phase }, { on := 1, ground := Ground.phase }, { on := 2, ground := Ground.phase }, { on := 3, ground := Ground.phase }, { on := 4, ground := Ground.phase }, { on := 5, ground := Ground.phase }, { on := 6, ground := Ground.phase }, { on := 7, ground := Ground.phase }, { on := 8, ground := Ground.phase }, { on := 9, ground := Ground.phase }, { on := 10, ground := Ground.phase }, { on := 11, ground := Ground.phase }], guard := none }) (v := ?_) rfl (by kernel_rfl) (by kernel_rfl) (by kernel_rfl) (fun _ _ _ h => h) (Or.inl ⟨by rfl, ?_⟩) (by assumption) ?_
  rotate_left
  · (intro w hSw; obtain ⟨s0, s1, s2, s3, s4, s5⟩ := hSw; (go_simp <;> with_reducible rfl))
  try simp only [Act.put, List.setIfInBounds_toArray, List.set_cons_zero, List.set_cons_succ]
  refine wpAnyH_done (by kernel_rfl) ?_ _
  -- @END
  go_wp2_with fail
  refine bodyPost_ret (results_cell_hi rfl _ _ (w.heap.size + 2) 65 #[.string H.1, .string H.2.1, .int .i64 H.2.2.1, .int .i64 H.2.2.2, .slice a n c] (0, 0) _ rfl (hZ6.setRow _) Tryd.underlying65 rfl (hi_info H _)) rfl ?_
  have hw4 := hZ4.lt
  have hk4 : ∀ k, (Value.slice a n c).ownBlock = some k → k = w4.heap.size := fun k hk => by have := HBB.out k hk; cases this; rfl
  exact ⟨H, a, n, c, rfl, HHH.out, fun k hk => by have := hk4 k hk; omega, Rd.grown hR6 ((G.refl w6 (some (w.heap.size + 2))).setRow (.inr rfl) _) (fun k e hk => by cases e; have := hk4 _ hk; omega), hG6.setRow (.inl (by omega)) _⟩
end Go.Proofs.YtgddchdpeflmoaaDoor
