/- Las, Dea, Due, Dum, Wit, Reg, Pck, GenL, Clo, Stp, Hit. -/
import Derived.Test.YtdcofbciebkfkaaDoorZa2
import Derived.Test.YtdcofbciebkfkaaDoorZa1
import Derived.Laws.ResultCell
import Derived.RegionTactic
import Derived.Deep.RegionHeld3
import Derived.OrdersHeld
/- When a leg lasts: basic.Lasts, rentref1.Lasts; the function that With hands on; slices.IndexFunc, ContainsFunc at legs. -/
namespace Go.Proofs.YtdcofbciebkfkaaDoor
open Go.RowKit

/-- When a leg ends. -/
def toL (p : Lg) : Int := if p.2.2.1 = -1 then 5761440 else p.2.2.1
set_option maxRecDepth 100000 in
set_option maxHeartbeats 2000000 in
theorem lasts_c (p : Lg) (w : World) : Calls Tryd.prog 104 #[.agg #[.string p.1, .int .i64 p.2.1.1, .string p.2.1.2.1, .int .i64 p.2.1.2.2.1, .int .i64 p.2.1.2.2.2, .int .i64 p.2.2.1, .string p.2.2.2.1, .int .i64 p.2.2.2.2.1, .int .i64 p.2.2.2.2.2]] w fun e w' => e = .returned (.agg #[.int .i64 p.2.1.1, .int .i64 (toL p)]) ∧ G w w' none := by
  have hL := (Bk.new w 79 #[.string p.1, .int .i64 p.2.1.1, .string p.2.1.2.1, .int .i64 p.2.1.2.2.1, .int .i64 p.2.1.2.2.2, .int .i64 p.2.2.1, .string p.2.2.2.1, .int .i64 p.2.2.2.2.1, .int .i64 p.2.2.2.2.2]).alloc (.cells #[.int .i64 0, .int .i64 0] 30)
  have hW := Bk.newAt (w := w.alloc (.cells #[.string p.1, .int .i64 p.2.1.1, .string p.2.1.2.1, .int .i64 p.2.1.2.2.1, .int .i64 p.2.1.2.2.2, .int .i64 p.2.2.1, .string p.2.2.2.1, .int .i64 p.2.2.2.2.1, .int .i64 p.2.2.2.2.2] 79)) (b := w.heap.size + 1) (by simp) 30 #[.int .i64 0, .int .i64 0]
  have hG := ((G.refl w none).alloc (.cells #[.string p.1, .int .i64 p.2.1.1, .string p.2.1.2.1, .int .i64 p.2.1.2.2.1, .int .i64 p.2.1.2.2.2, .int .i64 p.2.2.1, .string p.2.2.2.1, .int .i64 p.2.2.2.2.1, .int .i64 p.2.2.2.2.2] 79)).alloc (.cells #[.int .i64 0, .int .i64 0] 30)
  obtain ⟨T, hT⟩ : ∃ T, toL p = T := ⟨_, rfl⟩
  have HT := Lib.hid hT
  rw [hT]
  clear hT
  go_enter Tryd.func104, Tryd.ntmps104
  go_upto_region 1 with fail
  generalize (w.alloc (.cells #[.string p.1, .int .i64 p.2.1.1, .string p.2.1.2.1, .int .i64 p.2.1.2.2.1, .int .i64 p.2.1.2.2.2, .int .i64 p.2.2.1, .string p.2.2.2.1, .int .i64 p.2.2.2.2.1, .int .i64 p.2.2.2.2.2] 79)).alloc (.cells #[.int .i64 0, .int .i64 0] 30) = w2 at hL hW hG ⊢
  have c1 : w2.cell? ⟨w.heap.size, 1, none⟩ = some (.int .i64 p.2.1.1) := hL.cell 1
  have c5 : w2.cell? ⟨w.heap.size, 5, none⟩ = some (.int .i64 p.2.2.1) := hL.cell 5
  by_cases h : p.2.2.1 = -1
  · have hTT : T = 5761440 := by rw [← HT.out, toL, if_pos h]
    subst hTT
    have h' : (p.2.2.1 == -1) = true := by rw [h]; rfl
    go_wp2_with (refine wpList_store_row rfl 30 _ _ rfl (w.heap.size + 1) #[.int .i64 p.2.1.1, .int .i64 5761440] rfl rfl 30 _ hW (wi_info _ _) rfl (wi_one _ _) ?_)
    refine bodyPost_ret (results_cell_row rfl _ _ (w.heap.size + 1) 30 #[.int .i64 p.2.1.1, .int .i64 5761440] (0, 0) _ rfl (hW.setRow _) Tryd.underlying30 rfl (wi_info _ _)) rfl ?_
    exact ⟨rfl, hG.setRow (.inl (by omega)) _⟩
  · have hTT : T = p.2.2.1 := by rw [← HT.out, toL, if_neg h]
    subst hTT
    have h' : (p.2.2.1 == -1) = false := by simpa using h
    go_wp2_with (refine wpList_store_row rfl 30 _ _ rfl (w.heap.size + 1) #[.int .i64 p.2.1.1, .int .i64 p.2.2.1] rfl rfl 30 _ hW (wi_info _ _) rfl (wi_one _ _) ?_)
    refine bodyPost_ret (results_cell_row rfl _ _ (w.heap.size + 1) 30 #[.int .i64 p.2.1.1, .int .i64 p.2.2.1] (0, 0) _ rfl (hW.setRow _) Tryd.underlying30 rfl (wi_info _ _)) rfl ?_
    exact ⟨rfl, hG.setRow (.inl (by omega)) _⟩
set_option maxRecDepth 100000 in
set_option maxHeartbeats 2000000 in
theorem lastsR_c (p : Lg) (w : World) : Calls Tryd.prog 109 #[.agg #[.string p.1, .int .i64 p.2.1.1, .string p.2.1.2.1, .int .i64 p.2.1.2.2.1, .int .i64 p.2.1.2.2.2, .int .i64 p.2.2.1, .string p.2.2.2.1, .int .i64 p.2.2.2.2.1, .int .i64 p.2.2.2.2.2]] w fun e w' => e = .returned (.agg #[.int .i64 p.2.1.1, .int .i64 (toL p)]) ∧ G w w' none := by
  have hL := (Bk.new w 79 #[.string p.1, .int .i64 p.2.1.1, .string p.2.1.2.1, .int .i64 p.2.1.2.2.1, .int .i64 p.2.1.2.2.2, .int .i64 p.2.2.1, .string p.2.2.2.1, .int .i64 p.2.2.2.2.1, .int .i64 p.2.2.2.2.2]).alloc (.cells #[.int .i64 0, .int .i64 0] 30)
  have hW := Bk.newAt (w := w.alloc (.cells #[.string p.1, .int .i64 p.2.1.1, .string p.2.1.2.1, .int .i64 p.2.1.2.2.1, .int .i64 p.2.1.2.2.2, .int .i64 p.2.2.1, .string p.2.2.2.1, .int .i64 p.2.2.2.2.1, .int .i64 p.2.2.2.2.2] 79)) (b := w.heap.size + 1) (by simp) 30 #[.int .i64 0, .int .i64 0]
  have hG := ((G.refl w none).alloc (.cells #[.string p.1, .int .i64 p.2.1.1, .string p.2.1.2.1, .int .i64 p.2.1.2.2.1, .int .i64 p.2.1.2.2.2, .int .i64 p.2.2.1, .string p.2.2.2.1, .int .i64 p.2.2.2.2.1, .int .i64 p.2.2.2.2.2] 79)).alloc (.cells #[.int .i64 0, .int .i64 0] 30)
  obtain ⟨T, hT⟩ : ∃ T, toL p = T := ⟨_, rfl⟩
  have HT := Lib.hid hT
  rw [hT]
  clear hT
  go_enter Tryd.func109, Tryd.ntmps109
  go_upto_region 1 with fail
  generalize (w.alloc (.cells #[.string p.1, .int .i64 p.2.1.1, .string p.2.1.2.1, .int .i64 p.2.1.2.2.1, .int .i64 p.2.1.2.2.2, .int .i64 p.2.2.1, .string p.2.2.2.1, .int .i64 p.2.2.2.2.1, .int .i64 p.2.2.2.2.2] 79)).alloc (.cells #[.int .i64 0, .int .i64 0] 30) = w2 at hL hW hG ⊢
  have c1 : w2.cell? ⟨w.heap.size, 1, none⟩ = some (.int .i64 p.2.1.1) := hL.cell 1
  have c5 : w2.cell? ⟨w.heap.size, 5, none⟩ = some (.int .i64 p.2.2.1) := hL.cell 5
  by_cases h : p.2.2.1 = -1
  · have hTT : T = 5761440 := by rw [← HT.out, toL, if_pos h]
    subst hTT
    have h' : (p.2.2.1 == -1) = true := by rw [h]; rfl
    go_wp2_with (refine wpList_store_row rfl 30 _ _ rfl (w.heap.size + 1) #[.int .i64 p.2.1.1, .int .i64 5761440] rfl rfl 30 _ hW (wi_info _ _) rfl (wi_one _ _) ?_)
    refine bodyPost_ret (results_cell_row rfl _ _ (w.heap.size + 1) 30 #[.int .i64 p.2.1.1, .int .i64 5761440] (0, 0) _ rfl (hW.setRow _) Tryd.underlying30 rfl (wi_info _ _)) rfl ?_
    exact ⟨rfl, hG.setRow (.inl (by omega)) _⟩
  · have hTT : T = p.2.2.1 := by rw [← HT.out, toL, if_neg h]
    subst hTT
    have h' : (p.2.2.1 == -1) = false := by simpa using h
    go_wp2_with (refine wpList_store_row rfl 30 _ _ rfl (w.heap.size + 1) #[.int .i64 p.2.1.1, .int .i64 p.2.2.1] rfl rfl 30 _ hW (wi_info _ _) rfl (wi_one _ _) ?_)
    refine bodyPost_ret (results_cell_row rfl _ _ (w.heap.size + 1) 30 #[.int .i64 p.2.1.1, .int .i64 p.2.2.1] (0, 0) _ rfl (hW.setRow _) Tryd.underlying30 rfl (wi_info _ _)) rfl ?_
    exact ⟨rfl, hG.setRow (.inl (by omega)) _⟩
/-- Has a leg a vehicle at a moment? -/
def hasL (v : ByteArray) (t : Int) (p : Lg) : Bool := p.1.toList == v.toList && hasB p.2.1.1 (toL p) t
set_option maxRecDepth 100000 in
set_option maxHeartbeats 2000000 in
theorem with1_c (p : Lg) (v : ByteArray) (t : Int) (g1 g2 : Nat) (w : World) (hv : Bk w g1 9 #[.string v]) (ht : Bk w g2 3 #[.int .i64 t]) :
    Calls Tryd.prog 102 #[.agg #[.string p.1, .int .i64 p.2.1.1, .string p.2.1.2.1, .int .i64 p.2.1.2.2.1, .int .i64 p.2.1.2.2.2, .int .i64 p.2.2.1, .string p.2.2.2.1, .int .i64 p.2.2.2.2.1, .int .i64 p.2.2.2.2.2], .pointer (some ⟨g1, 0, none⟩), .pointer (some ⟨g2, 0, none⟩)] w fun e w' => e = .returned (.bool (hasL v t p)) ∧ G w w' none := by
  have hL := Bk.new w 79 #[.string p.1, .int .i64 p.2.1.1, .string p.2.1.2.1, .int .i64 p.2.1.2.2.1, .int .i64 p.2.1.2.2.2, .int .i64 p.2.2.1, .string p.2.2.2.1, .int .i64 p.2.2.2.2.1, .int .i64 p.2.2.2.2.2]
  have hV := hv.alloc (.cells #[.string p.1, .int .i64 p.2.1.1, .string p.2.1.2.1, .int .i64 p.2.1.2.2.1, .int .i64 p.2.1.2.2.2, .int .i64 p.2.2.1, .string p.2.2.2.1, .int .i64 p.2.2.2.2.1, .int .i64 p.2.2.2.2.2] 79)
  have hT := ht.alloc (.cells #[.string p.1, .int .i64 p.2.1.1, .string p.2.1.2.1, .int .i64 p.2.1.2.2.1, .int .i64 p.2.1.2.2.2, .int .i64 p.2.2.1, .string p.2.2.2.1, .int .i64 p.2.2.2.2.1, .int .i64 p.2.2.2.2.2] 79)
  have hG := (G.refl w none).alloc (.cells #[.string p.1, .int .i64 p.2.1.1, .string p.2.1.2.1, .int .i64 p.2.1.2.2.1, .int .i64 p.2.1.2.2.2, .int .i64 p.2.2.1, .string p.2.2.2.1, .int .i64 p.2.2.2.2.1, .int .i64 p.2.2.2.2.2] 79)
  clear hv ht
  obtain ⟨B, hB⟩ : ∃ B, hasL v t p = B := ⟨_, rfl⟩
  have HB := Lib.hid hB
  rw [hB]
  clear hB
  go_enter Tryd.func102, Tryd.ntmps102
  go_upto_region 1 with fail
  generalize w.alloc (.cells #[.string p.1, .int .i64 p.2.1.1, .string p.2.1.2.1, .int .i64 p.2.1.2.2.1, .int .i64 p.2.1.2.2.2, .int .i64 p.2.2.1, .string p.2.2.2.1, .int .i64 p.2.2.2.2.1, .int .i64 p.2.2.2.2.2] 79) = w2 at hL hV hT hG ⊢
  generalize w.heap.size = g at hL ⊢
  have c0 : w2.cell? ⟨g, 0, none⟩ = some (.string p.1) := hL.cell 0
  have cv : w2.cell? ⟨g1, 0, none⟩ = some (.string v) := hV.cell 0
  have ct : w2.cell? ⟨g2, 0, none⟩ = some (.int .i64 t) := hT.cell 0
  cases he : (p.1.toList == v.toList) with
  | false =>
    have HF : Hid (B = false) := Lib.hid (by rw [← HB.out, hasL, he]; rfl)
    clear c0 cv ct
    refine wp_region_held_drew (S := (fun w' => w'.cell? ⟨g, 0, none⟩ = some (.string p.1) ∧ w'.cell? ⟨g, 1, none⟩ = some (.int .i64 p.2.1.1) ∧ w'.cell? ⟨g, 2, none⟩ = some (.string p.2.1.2.1) ∧ w'.cell? ⟨g, 3, none⟩ = some (.int .i64 p.2.1.2.2.1) ∧ w'.cell? ⟨g, 4, none⟩ = some (.int .i64 p.2.1.2.2.2) ∧ w'.cell? ⟨g, 5, none⟩ = some (.int .i64 p.2.2.1) ∧ w'.cell? ⟨g, 6, none⟩ = some (.string p.2.2.2.1) ∧ w'.cell? ⟨g, 7, none⟩ = some (.int .i64 p.2.2.2.2.1) ∧ w'.cell? ⟨g, 8, none⟩ = some (.int .i64 p.2.2.2.2.2) ∧ w'.cell? ⟨g1, 0, none⟩ = some (.string v) ∧ w'.cell? ⟨g2, 0, none⟩ = some (.int .i64 t))) (by kernel_rfl) ?_ (fun hHeld => ?_)
    · exact ⟨hL.cell 0, hL.cell 1, hL.cell 2, hL.cell 3, hL.cell 4, hL.cell 5, hL.cell 6, hL.cell 7, hL.cell 8, hV.cell 0, hT.cell 0⟩
    refine wpAnyH_take (i := 0) (oi := { dst := some 5, op := Op.fieldAddr 79 (Operand.tmp 3) 0, type := 0, pos := _, after := #[], guard := none }) (v := ?_) rfl (by kernel_rfl) (by kernel_rfl) (by kernel_rfl) (fun _ _ _ h => h) (Or.inl ⟨by rfl, ?_⟩) (by assumption) ?_
    rotate_left
    · (intro w hSw; obtain ⟨s0, s1, s2, s3, s4, s5, s6, s7, s8, s9, s10⟩ := hSw; (go_simp <;> with_reducible rfl))
    try simp only [Act.put, List.setIfInBounds_toArray, List.set_cons_zero, List.set_cons_succ]
    refine wpAnyH_take (i := 1) (oi := { dst := some 6, op := Op.load 9 (Operand.tmp 5), type := 9, pos := _, after := #[{ on := 0, ground := Ground.data }], guard := none }) (v := ?_) rfl (by kernel_rfl) (by kernel_rfl) (by kernel_rfl) (fun _ _ _ h => h) (Or.inl ⟨by rfl, ?_⟩) (by assumption) ?_
    rotate_left
    · (intro w hSw; obtain ⟨s0, s1, s2, s3, s4, s5, s6, s7, s8, s9, s10⟩ := hSw; (go_simp <;> with_reducible rfl))
    try simp only [Act.put, List.setIfInBounds_toArray, List.set_cons_zero, List.set_cons_succ]
    refine wpAnyH_take (i := 2) (oi := { dst := some 7, op := Op.load 9 (Operand.tmp 1), type := 9, pos := _, after := #[], guard := none }) (v := ?_) rfl (by kernel_rfl) (by kernel_rfl) (by kernel_rfl) (fun _ _ _ h => h) (Or.inl ⟨by rfl, ?_⟩) (by assumption) ?_
    rotate_left
    · (intro w hSw; obtain ⟨s0, s1, s2, s3, s4, s5, s6, s7, s8, s9, s10⟩ := hSw; (go_simp <;> with_reducible rfl))
    try simp only [Act.put, List.setIfInBounds_toArray, List.set_cons_zero, List.set_cons_succ]
    refine wpAnyH_take (i := 3) (oi := { dst := some 8, op := Op.binOp BinOp.eql 9 (Operand.tmp 6) (Operand.tmp 7) 9, type := 4, pos := _, after := #[{ on := 1, ground := Ground.data }, { on := 2, ground := Ground.data }], guard := none }) (v := ?_) rfl (by kernel_rfl) (by kernel_rfl) (by kernel_rfl) (fun _ _ _ h => h) (Or.inl ⟨by rfl, ?_⟩) (by assumption) ?_
    rotate_left
    · (intro w hSw; obtain ⟨s0, s1, s2, s3, s4, s5, s6, s7, s8, s9, s10⟩ := hSw; (go_simp <;> with_reducible rfl))
    try simp only [Act.put, List.setIfInBounds_toArray, List.set_cons_zero, List.set_cons_succ]
    refine wpAnyH_take (i := 4) (oi := { dst := some 9, op := Op.move (Operand.tmp 8), type := 4, pos := _, after := #[{ on := 3, ground := Ground.data }], guard := none }) (v := ?_) rfl (by kernel_rfl) (by kernel_rfl) (by kernel_rfl) (fun _ _ _ h => h) (Or.inl ⟨by rfl, ?_⟩) (by assumption) ?_
    rotate_left
    · (intro w hSw; obtain ⟨s0, s1, s2, s3, s4, s5, s6, s7, s8, s9, s10⟩ := hSw; (go_simp <;> with_reducible rfl))
    try simp only [Act.put, List.setIfInBounds_toArray, List.set_cons_zero, List.set_cons_succ]
    refine wpAnyH_take (i := 5) (oi := { dst := some 10, op := Op.load 79 (Operand.tmp 3), type := 79, pos := _, after := #[{ on := 4, ground := Ground.guard }], guard := some (4, true) }) (v := undef) rfl (by kernel_rfl) (by kernel_rfl) (by kernel_rfl) (fun _ _ _ h => h) (Or.inr ⟨by rfl, rfl⟩) (by assumption) ?_
    try simp only [Act.put, List.setIfInBounds_toArray, List.set_cons_zero, List.set_cons_succ]
    refine wpAnyH_take (i := 6) (oi := { dst := some 11, op := Op.call { callee := Callee.value (Operand.func 104), args := #[Operand.tmp 10], argTypes := #[79] }, type := 30, pos := _, after := #[{ on := 5, ground := Ground.data }, { on := 4, ground := Ground.chain }, { on := 4, ground := Ground.guard }], guard := some (4, true) }) (v := undef) rfl (by kernel_rfl) (by kernel_rfl) (by kernel_rfl) (fun _ _ _ h => h) (Or.inr ⟨by rfl, rfl⟩) (by assumption) ?_
    try simp only [Act.put, List.setIfInBounds_toArray, List.set_cons_zero, List.set_cons_succ]
    refine wpAnyH_take (i := 7) (oi := { dst := some 12, op := Op.load 3 (Operand.tmp 2), type := 3, pos := _, after := #[{ on := 4, ground := Ground.guard }], guard := some (4, true) }) (v := undef) rfl (by kernel_rfl) (by kernel_rfl) (by kernel_rfl) (fun _ _ _ h => h) (Or.inr ⟨by rfl, rfl⟩) (by assumption) ?_
    try simp only [Act.put, List.setIfInBounds_toArray, List.set_cons_zero, List.set_cons_succ]
    refine wpAnyH_take (i := 8) (oi := { dst := some 13, op := Op.call { callee := Callee.value (Operand.func 103), args := #[Operand.tmp 11, Operand.tmp 12], argTypes := #[30, 3] }, type := 4, pos := _, after := #[{ on := 6, ground := Ground.data }, { on := 7, ground := Ground.data }, { on := 6, ground := Ground.chain }, { on := 4, ground := Ground.guard }], guard := some (4, true) }) (v := undef) rfl (by kernel_rfl) (by kernel_rfl) (by kernel_rfl) (fun _ _ _ h => h) (Or.inr ⟨by rfl, rfl⟩) (by assumption) ?_
    try simp only [Act.put, List.setIfInBounds_toArray, List.set_cons_zero, List.set_cons_succ]
    refine wpAnyH_take (i := 9) (oi := { dst := some 14, op := Op.pick (Operand.tmp 9) (Operand.tmp 13) (Operand.const (Value.bool false)), type := 4, pos := _, after := #[{ on := 4, ground := Ground.data }, { on := 8, ground := Ground.data }], guard := none }) (v := ?_) rfl (by kernel_rfl) (by kernel_rfl) (by kernel_rfl) (fun _ _ _ h => h) (Or.inl ⟨by rfl, ?_⟩) (by assumption) ?_
    rotate_left
    · (intro w hSw; obtain ⟨s0, s1, s2, s3, s4, s5, s6, s7, s8, s9, s10⟩ := hSw; (go_simp <;> with_reducible rfl))
    try simp only [Act.put, List.setIfInBounds_toArray, List.set_cons_zero, List.set_cons_succ]
    refine wpAnyH_take (i := 10) (oi := { dst := some 4, op := Op.assign (Operand.tmp 14), type := 4, pos := _, after := #[{ on := 9, ground := Ground.data }, { on := 8, ground := Ground.chain }, { on := 0, ground := Ground.phase }, { on := 1, ground := Ground.phase }, { on := 2, ground := Ground.phase }, { on := 3, ground := Ground.phase }, { on := 4, ground := Ground.phase }, { on := 5, ground := Ground.phase }, { on := 6, ground := Ground.phase }, { on := 7, ground := Ground.phase }, { on := 8, ground := Ground.phase }, { on := 9, ground := Ground.phase }], guard := none }) (v := ?_) rfl (by kernel_rfl) (by kernel_rfl) (by kernel_rfl) (fun _ _ _ h => h) (Or.inl ⟨by rfl, ?_⟩) (by assumption) ?_
    rotate_left
    · (intro w hSw; obtain ⟨s0, s1, s2, s3, s4, s5, s6, s7, s8, s9, s10⟩ := hSw; (go_simp <;> with_reducible rfl))
    try simp only [Act.put, List.setIfInBounds_toArray, List.set_cons_zero, List.set_cons_succ]
    refine wpAnyH_done (by kernel_rfl) ?_ _
    go_wp2_with fail
    go_ret
    exact ⟨ret_bool HF.out.symm, hG.drew⟩
  | true =>
    have HF : Hid (B = hasB p.2.1.1 (toL p) t) := Lib.hid (by rw [← HB.out, hasL, he]; rfl)
    have hq := (G.refl w2 none).drew
    replace hL := hL.quiet hq
    replace hV := hV.quiet hq
    replace hT := hT.quiet hq
    replace hG := hG.trans hq
    clear hq c0 cv ct
    refine wp_region_held_drew (S := (fun w' => w'.cell? ⟨g, 0, none⟩ = some (.string p.1) ∧ w'.cell? ⟨g, 1, none⟩ = some (.int .i64 p.2.1.1) ∧ w'.cell? ⟨g, 2, none⟩ = some (.string p.2.1.2.1) ∧ w'.cell? ⟨g, 3, none⟩ = some (.int .i64 p.2.1.2.2.1) ∧ w'.cell? ⟨g, 4, none⟩ = some (.int .i64 p.2.1.2.2.2) ∧ w'.cell? ⟨g, 5, none⟩ = some (.int .i64 p.2.2.1) ∧ w'.cell? ⟨g, 6, none⟩ = some (.string p.2.2.2.1) ∧ w'.cell? ⟨g, 7, none⟩ = some (.int .i64 p.2.2.2.2.1) ∧ w'.cell? ⟨g, 8, none⟩ = some (.int .i64 p.2.2.2.2.2) ∧ w'.cell? ⟨g1, 0, none⟩ = some (.string v) ∧ w'.cell? ⟨g2, 0, none⟩ = some (.int .i64 t))) (by kernel_rfl) ?_ (fun hHeld => ?_)
    · exact ⟨hL.cell 0, hL.cell 1, hL.cell 2, hL.cell 3, hL.cell 4, hL.cell 5, hL.cell 6, hL.cell 7, hL.cell 8, hV.cell 0, hT.cell 0⟩
    refine wpAnyH_take (i := 0) (oi := { dst := some 5, op := Op.fieldAddr 79 (Operand.tmp 3) 0, type := 0, pos := _, after := #[], guard := none }) (v := ?_) rfl (by kernel_rfl) (by kernel_rfl) (by kernel_rfl) (fun _ _ _ h => h) (Or.inl ⟨by rfl, ?_⟩) (by assumption) ?_
    rotate_left
    · (intro w hSw; obtain ⟨s0, s1, s2, s3, s4, s5, s6, s7, s8, s9, s10⟩ := hSw; (go_simp <;> with_reducible rfl))
    try simp only [Act.put, List.setIfInBounds_toArray, List.set_cons_zero, List.set_cons_succ]
    refine wpAnyH_take (i := 1) (oi := { dst := some 6, op := Op.load 9 (Operand.tmp 5), type := 9, pos := _, after := #[{ on := 0, ground := Ground.data }], guard := none }) (v := ?_) rfl (by kernel_rfl) (by kernel_rfl) (by kernel_rfl) (fun _ _ _ h => h) (Or.inl ⟨by rfl, ?_⟩) (by assumption) ?_
    rotate_left
    · (intro w hSw; obtain ⟨s0, s1, s2, s3, s4, s5, s6, s7, s8, s9, s10⟩ := hSw; (go_simp <;> with_reducible rfl))
    try simp only [Act.put, List.setIfInBounds_toArray, List.set_cons_zero, List.set_cons_succ]
    refine wpAnyH_take (i := 2) (oi := { dst := some 7, op := Op.load 9 (Operand.tmp 1), type := 9, pos := _, after := #[], guard := none }) (v := ?_) rfl (by kernel_rfl) (by kernel_rfl) (by kernel_rfl) (fun _ _ _ h => h) (Or.inl ⟨by rfl, ?_⟩) (by assumption) ?_
    rotate_left
    · (intro w hSw; obtain ⟨s0, s1, s2, s3, s4, s5, s6, s7, s8, s9, s10⟩ := hSw; (go_simp <;> with_reducible rfl))
    try simp only [Act.put, List.setIfInBounds_toArray, List.set_cons_zero, List.set_cons_succ]
    refine wpAnyH_take (i := 3) (oi := { dst := some 8, op := Op.binOp BinOp.eql 9 (Operand.tmp 6) (Operand.tmp 7) 9, type := 4, pos := _, after := #[{ on := 1, ground := Ground.data }, { on := 2, ground := Ground.data }], guard := none }) (v := ?_) rfl (by kernel_rfl) (by kernel_rfl) (by kernel_rfl) (fun _ _ _ h => h) (Or.inl ⟨by rfl, ?_⟩) (by assumption) ?_
    rotate_left
    · (intro w hSw; obtain ⟨s0, s1, s2, s3, s4, s5, s6, s7, s8, s9, s10⟩ := hSw; (go_simp <;> with_reducible rfl))
    try simp only [Act.put, List.setIfInBounds_toArray, List.set_cons_zero, List.set_cons_succ]
    refine wpAnyH_take (i := 4) (oi := { dst := some 9, op := Op.move (Operand.tmp 8), type := 4, pos := _, after := #[{ on := 3, ground := Ground.data }], guard := none }) (v := ?_) rfl (by kernel_rfl) (by kernel_rfl) (by kernel_rfl) (fun _ _ _ h => h) (Or.inl ⟨by rfl, ?_⟩) (by assumption) ?_
    rotate_left
    · (intro w hSw; obtain ⟨s0, s1, s2, s3, s4, s5, s6, s7, s8, s9, s10⟩ := hSw; (go_simp <;> with_reducible rfl))
    try simp only [Act.put, List.setIfInBounds_toArray, List.set_cons_zero, List.set_cons_succ]
    refine wpAnyH_take (i := 5) (oi := { dst := some 10, op := Op.load 79 (Operand.tmp 3), type := 79, pos := _, after := #[{ on := 4, ground := Ground.guard }], guard := some (4, true) }) (v := ?_) rfl (by kernel_rfl) (by kernel_rfl) (by kernel_rfl) (fun _ _ _ h => h) (Or.inl ⟨by rfl, ?_⟩) (by assumption) ?_
    rotate_left
    · (intro w hSw; obtain ⟨s0, s1, s2, s3, s4, s5, s6, s7, s8, s9, s10⟩ := hSw; (go_simp <;> with_reducible rfl))
    try simp only [Act.put, List.setIfInBounds_toArray, List.set_cons_zero, List.set_cons_succ]
    refine wpAnyH_take (i := 7) (oi := { dst := some 12, op := Op.load 3 (Operand.tmp 2), type := 3, pos := _, after := #[{ on := 4, ground := Ground.guard }], guard := some (4, true) }) (v := ?_) rfl (by kernel_rfl) (by kernel_rfl) (by kernel_rfl) (fun _ _ _ h => h) (Or.inl ⟨by rfl, ?_⟩) (by assumption) ?_
    rotate_left
    · (intro w hSw; obtain ⟨s0, s1, s2, s3, s4, s5, s6, s7, s8, s9, s10⟩ := hSw; (go_simp <;> with_reducible rfl))
    try simp only [Act.put, List.setIfInBounds_toArray, List.set_cons_zero, List.set_cons_succ]
    refine wpAnyH_ready (rs := [6]) (by kernel_rfl) (by simp) ?_
    refine AllReadyH.cons (o := { dst := some 11, op := Op.call { callee := Callee.value (Operand.func 104), args := #[Operand.tmp 10], argTypes := #[79] }, type := 30, pos := _, after := #[{ on := 5, ground := Ground.data }, { on := 4, ground := Ground.chain }, { on := 4, ground := Ground.guard }], guard := some (4, true) }) rfl (fun K hK => ?_) AllReadyH.nil
    go_simp
    refine (lasts_c p _).mono ?_
    rintro e w3 ⟨rfl, hh⟩
    replace hL := hL.quiet hh
    replace hV := hV.quiet hh
    replace hT := hT.quiet hh
    replace hG := hG.trans hh
    clear hh
    refine hK.out _ _ ?_ (fun hHeld => ?_)
    · exact ⟨hL.cell 0, hL.cell 1, hL.cell 2, hL.cell 3, hL.cell 4, hL.cell 5, hL.cell 6, hL.cell 7, hL.cell 8, hV.cell 0, hT.cell 0⟩
    clear hK K
    try simp only [Act.put, List.setIfInBounds_toArray, List.set_cons_zero, List.set_cons_succ]
    refine wpAnyH_ready (rs := [8]) (by kernel_rfl) (by simp) ?_
    refine AllReadyH.cons (o := { dst := some 13, op := Op.call { callee := Callee.value (Operand.func 103), args := #[Operand.tmp 11, Operand.tmp 12], argTypes := #[30, 3] }, type := 4, pos := _, after := #[{ on := 6, ground := Ground.data }, { on := 7, ground := Ground.data }, { on := 6, ground := Ground.chain }, { on := 4, ground := Ground.guard }], guard := some (4, true) }) rfl (fun K hK => ?_) AllReadyH.nil
    go_simp
    refine (has_c p.2.1.1 (toL p) t _).mono ?_
    rintro e w4 ⟨rfl, hh⟩
    replace hL := hL.quiet hh
    replace hV := hV.quiet hh
    replace hT := hT.quiet hh
    replace hG := hG.trans hh
    clear hh
    refine hK.out _ _ ?_ (fun hHeld => ?_)
    · exact ⟨hL.cell 0, hL.cell 1, hL.cell 2, hL.cell 3, hL.cell 4, hL.cell 5, hL.cell 6, hL.cell 7, hL.cell 8, hV.cell 0, hT.cell 0⟩
    clear hK K
    try simp only [Act.put, List.setIfInBounds_toArray, List.set_cons_zero, List.set_cons_succ]
    refine wpAnyH_take (i := 9) (oi := { dst := some 14, op := Op.pick (Operand.tmp 9) (Operand.tmp 13) (Operand.const (Value.bool false)), type := 4, pos := _, after := #[{ on := 4, ground := Ground.data }, { on := 8, ground := Ground.data }], guard := none }) (v := ?_) rfl (by kernel_rfl) (by kernel_rfl) (by kernel_rfl) (fun _ _ _ h => h) (Or.inl ⟨by rfl, ?_⟩) (by assumption) ?_
    rotate_left
    · (intro w hSw; obtain ⟨s0, s1, s2, s3, s4, s5, s6, s7, s8, s9, s10⟩ := hSw; (go_simp <;> with_reducible rfl))
    try simp only [Act.put, List.setIfInBounds_toArray, List.set_cons_zero, List.set_cons_succ]
    refine wpAnyH_take (i := 10) (oi := { dst := some 4, op := Op.assign (Operand.tmp 14), type := 4, pos := _, after := #[{ on := 9, ground := Ground.data }, { on := 8, ground := Ground.chain }, { on := 0, ground := Ground.phase }, { on := 1, ground := Ground.phase }, { on := 2, ground := Ground.phase }, { on := 3, ground := Ground.phase }, { on := 4, ground := Ground.phase }, { on := 5, ground := Ground.phase }, { on := 6, ground := Ground.phase }, { on := 7, ground := Ground.phase }, { on := 8, ground := Ground.phase }, { on := 9, ground := Ground.phase }], guard := none }) (v := ?_) rfl (by kernel_rfl) (by kernel_rfl) (by kernel_rfl) (fun _ _ _ h => h) (Or.inl ⟨by rfl, ?_⟩) (by assumption) ?_
    rotate_left
    · (intro w hSw; obtain ⟨s0, s1, s2, s3, s4, s5, s6, s7, s8, s9, s10⟩ := hSw; (go_simp <;> with_reducible rfl))
    try simp only [Act.put, List.setIfInBounds_toArray, List.set_cons_zero, List.set_cons_succ]
    refine wpAnyH_done (by kernel_rfl) ?_ _
    go_wp2_with fail
    go_ret
    exact ⟨ret_bool HF.out.symm, hG⟩
end Go.Proofs.YtdcofbciebkfkaaDoor

/- Deals: CheckDeal, DealFault. Written by gendea.py. -/
namespace Go.Proofs.YtdcofbciebkfkaaDoor
open Go.RowKit

/-- A deal. -/
structure De where
  free : Int
  km : Int
  eighth : Int
  grace : Int
  hour : Int
  day : Int
  dep : Int
def deC (x : De) : Array Value := #[.int .i64 x.free, .int .i64 x.km, .int .i64 x.eighth, .int .i64 x.grace, .int .i64 x.hour, .int .i64 x.day, .int .i64 x.dep]
theorem deC_sz (x : De) : (deC x).size = 7 := rfl
theorem de_info (x : De) : (Tryd.prog.info? 27).map (·.size) = some (deC x).size := (by kernel_rfl : (Tryd.prog.info? 27).map (·.size) = some 7)
def deE (x : De) : Int := if inB x.free 0 10000 = false then 1 else if inB x.km 0 100000 = false then 1 else if inB x.eighth 0 100000 = false then 1 else if inB x.grace 0 1440 = false then 1 else if inB x.hour 0 1000000 = false then 1 else if inB x.day 0 1000000 = false then 1 else if inB x.dep 0 1000000 = false then 1 else 0
theorem deE_or (x : De) : deE x = 0 ∨ deE x = 1 := by
  unfold deE
  repeat' split
  all_goals simp
theorem deE_ok {x : De} (h : deE x = 0) : (0 ≤ x.free ∧ x.free ≤ 10000) ∧ (0 ≤ x.km ∧ x.km ≤ 100000) ∧ (0 ≤ x.eighth ∧ x.eighth ≤ 100000) ∧ (0 ≤ x.grace ∧ x.grace ≤ 1440) ∧ (0 ≤ x.hour ∧ x.hour ≤ 1000000) ∧ (0 ≤ x.day ∧ x.day ≤ 1000000) ∧ (0 ≤ x.dep ∧ x.dep ≤ 1000000) := by
  unfold deE at h
  repeat' split at h
  all_goals simp_all [inB]
set_option maxRecDepth 100000 in
set_option maxHeartbeats 4000000 in
theorem dealFault_c (x : De) (w : World) : Calls Tryd.prog 17 #[.agg (deC x)] w fun e w' => e = .returned (.int .i64 (deE x)) ∧ G w w' none := by
  obtain ⟨a0, a1, a2, a3, a4, a5, a6⟩ := x
  have H0 : Hid (deE ⟨a0, a1, a2, a3, a4, a5, a6⟩ = if inB a0 0 10000 = false then 1 else if inB a1 0 100000 = false then 1 else if inB a2 0 100000 = false then 1 else if inB a3 0 1440 = false then 1 else if inB a4 0 1000000 = false then 1 else if inB a5 0 1000000 = false then 1 else if inB a6 0 1000000 = false then 1 else 0) := Lib.hid rfl
  generalize deE ⟨a0, a1, a2, a3, a4, a5, a6⟩ = E at H0 ⊢
  rw [show deC ⟨a0, a1, a2, a3, a4, a5, a6⟩ = #[.int .i64 a0, .int .i64 a1, .int .i64 a2, .int .i64 a3, .int .i64 a4, .int .i64 a5, .int .i64 a6] from rfl]
  have hG : G w (w.alloc (.cells #[.int .i64 a0, .int .i64 a1, .int .i64 a2, .int .i64 a3, .int .i64 a4, .int .i64 a5, .int .i64 a6] 27)) none := (G.refl w none).alloc _
  go_enter Tryd.func17, Tryd.ntmps17
  go_wp2_with fail
  refine (in_c _ _ _ _).mono ?_; rintro e w' ⟨rfl, rfl⟩
  cases k0 : inB a0 0 10000 with
  | false =>
    have HF : Hid (E = 1) := Lib.hid (by rw [H0.out, if_pos k0])
    clear k0
    go_wp2_with fail
    go_ret
    exact ⟨ret_int HF.out.symm, hG⟩
  | true =>
    have H1 : Hid (E = if inB a1 0 100000 = false then 1 else if inB a2 0 100000 = false then 1 else if inB a3 0 1440 = false then 1 else if inB a4 0 1000000 = false then 1 else if inB a5 0 1000000 = false then 1 else if inB a6 0 1000000 = false then 1 else 0) := Lib.hid (by rw [H0.out, if_neg (by simp [k0])])
    clear k0 H0
    go_wp2_with fail
    refine (in_c _ _ _ _).mono ?_; rintro e w' ⟨rfl, rfl⟩
    cases k1 : inB a1 0 100000 with
    | false =>
      have HF : Hid (E = 1) := Lib.hid (by rw [H1.out, if_pos k1])
      clear k1
      go_wp2_with fail
      go_ret
      exact ⟨ret_int HF.out.symm, hG⟩
    | true =>
      have H2 : Hid (E = if inB a2 0 100000 = false then 1 else if inB a3 0 1440 = false then 1 else if inB a4 0 1000000 = false then 1 else if inB a5 0 1000000 = false then 1 else if inB a6 0 1000000 = false then 1 else 0) := Lib.hid (by rw [H1.out, if_neg (by simp [k1])])
      clear k1 H1
      go_wp2_with fail
      refine (in_c _ _ _ _).mono ?_; rintro e w' ⟨rfl, rfl⟩
      cases k2 : inB a2 0 100000 with
      | false =>
        have HF : Hid (E = 1) := Lib.hid (by rw [H2.out, if_pos k2])
        clear k2
        go_wp2_with fail
        go_ret
        exact ⟨ret_int HF.out.symm, hG⟩
      | true =>
        have H3 : Hid (E = if inB a3 0 1440 = false then 1 else if inB a4 0 1000000 = false then 1 else if inB a5 0 1000000 = false then 1 else if inB a6 0 1000000 = false then 1 else 0) := Lib.hid (by rw [H2.out, if_neg (by simp [k2])])
        clear k2 H2
        go_wp2_with fail
        refine (in_c _ _ _ _).mono ?_; rintro e w' ⟨rfl, rfl⟩
        cases k3 : inB a3 0 1440 with
        | false =>
          have HF : Hid (E = 1) := Lib.hid (by rw [H3.out, if_pos k3])
          clear k3
          go_wp2_with fail
          go_ret
          exact ⟨ret_int HF.out.symm, hG⟩
        | true =>
          have H4 : Hid (E = if inB a4 0 1000000 = false then 1 else if inB a5 0 1000000 = false then 1 else if inB a6 0 1000000 = false then 1 else 0) := Lib.hid (by rw [H3.out, if_neg (by simp [k3])])
          clear k3 H3
          go_wp2_with fail
          refine (in_c _ _ _ _).mono ?_; rintro e w' ⟨rfl, rfl⟩
          cases k4 : inB a4 0 1000000 with
          | false =>
            have HF : Hid (E = 1) := Lib.hid (by rw [H4.out, if_pos k4])
            clear k4
            go_wp2_with fail
            go_ret
            exact ⟨ret_int HF.out.symm, hG⟩
          | true =>
            have H5 : Hid (E = if inB a5 0 1000000 = false then 1 else if inB a6 0 1000000 = false then 1 else 0) := Lib.hid (by rw [H4.out, if_neg (by simp [k4])])
            clear k4 H4
            go_wp2_with fail
            refine (in_c _ _ _ _).mono ?_; rintro e w' ⟨rfl, rfl⟩
            cases k5 : inB a5 0 1000000 with
            | false =>
              have HF : Hid (E = 1) := Lib.hid (by rw [H5.out, if_pos k5])
              clear k5
              go_wp2_with fail
              go_ret
              exact ⟨ret_int HF.out.symm, hG⟩
            | true =>
              have H6 : Hid (E = if inB a6 0 1000000 = false then 1 else 0) := Lib.hid (by rw [H5.out, if_neg (by simp [k5])])
              clear k5 H5
              go_wp2_with fail
              refine (in_c _ _ _ _).mono ?_; rintro e w' ⟨rfl, rfl⟩
              cases k6 : inB a6 0 1000000 with
              | false =>
                have HF : Hid (E = 1) := Lib.hid (by rw [H6.out, if_pos k6])
                clear k6
                go_wp2_with fail
                go_ret
                exact ⟨ret_int HF.out.symm, hG⟩
              | true =>
                have H7 : Hid (E = 0) := Lib.hid (by rw [H6.out, if_neg (by simp [k6])])
                clear k6 H6
                go_wp2_with fail
                go_ret
                exact ⟨ret_int H7.out.symm, hG⟩
def deErr : List (Int × Int) → Int
  | [] => 0
  | p :: r => if inB p.1 0 p.2 = false then 1 else deErr r
def DeRel (w : World) (E : Int) (ns : List (Int × Int)) (i : Value) (wr : World) : Prop :=
  ∃ k : Nat, k ≤ 7 ∧ i = .int .i64 k ∧ E = deErr (ns.drop k) ∧ G w wr none
set_option maxRecDepth 100000 in
set_option maxHeartbeats 4000000 in
theorem checkDeal_c (x : De) (w : World) : Calls Tryd.prog 16 #[.agg (deC x)] w fun e w' => e = .returned (.int .i64 (deE x)) ∧ G w w' none := by
  obtain ⟨a0, a1, a2, a3, a4, a5, a6⟩ := x
  have H0 : Hid (deE ⟨a0, a1, a2, a3, a4, a5, a6⟩ = if inB a0 0 10000 = false then 1 else if inB a1 0 100000 = false then 1 else if inB a2 0 100000 = false then 1 else if inB a3 0 1440 = false then 1 else if inB a4 0 1000000 = false then 1 else if inB a5 0 1000000 = false then 1 else if inB a6 0 1000000 = false then 1 else 0) := Lib.hid rfl
  generalize deE ⟨a0, a1, a2, a3, a4, a5, a6⟩ = E at H0 ⊢
  rw [show deC ⟨a0, a1, a2, a3, a4, a5, a6⟩ = #[.int .i64 a0, .int .i64 a1, .int .i64 a2, .int .i64 a3, .int .i64 a4, .int .i64 a5, .int .i64 a6] from rfl]
  have hx : ∀ (k : Nat) (p : Int × Int), ([(a0, 10000), (a1, 100000), (a2, 100000), (a3, 1440), (a4, 1000000), (a5, 1000000), (a6, 1000000)] : List (Int × Int))[k]? = some p → ∀ w : World, (Instr.index 127 (.agg #[.int .i64 a0, .int .i64 10000, .int .i64 a1, .int .i64 100000, .int .i64 a2, .int .i64 100000, .int .i64 a3, .int .i64 1440, .int .i64 a4, .int .i64 1000000, .int .i64 a5, .int .i64 1000000, .int .i64 a6, .int .i64 1000000]) (.int .i64 k)).run Tryd.prog w = .ok (.agg #[.int .i64 p.1, .int .i64 p.2]) w := by
    intro k p h w
    rcases k with _ | _ | _ | _ | _ | _ | _ | k
    all_goals first | (cases h; done) | (cases h; kernel_rfl)
  have hE : E = deErr [(a0, 10000), (a1, 100000), (a2, 100000), (a3, 1440), (a4, 1000000), (a5, 1000000), (a6, 1000000)] := by
    rw [H0.out]
    rfl
  have hl : ([(a0, 10000), (a1, 100000), (a2, 100000), (a3, 1440), (a4, 1000000), (a5, 1000000), (a6, 1000000)] : List (Int × Int)).length = 7 := rfl
  have hG : G w ((w.alloc (.cells #[.int .i64 a0, .int .i64 a1, .int .i64 a2, .int .i64 a3, .int .i64 a4, .int .i64 a5, .int .i64 a6] 27)).alloc (.cells #[.int .i64 a0, .int .i64 10000, .int .i64 a1, .int .i64 100000, .int .i64 a2, .int .i64 100000, .int .i64 a3, .int .i64 1440, .int .i64 a4, .int .i64 1000000, .int .i64 a5, .int .i64 1000000, .int .i64 a6, .int .i64 1000000] 127)) none := ((G.refl w none).alloc _).alloc _
  go_enter Tryd.func16, Tryd.ntmps16
  go_wp2_with fail
  generalize (w.alloc (.cells #[.int .i64 a0, .int .i64 a1, .int .i64 a2, .int .i64 a3, .int .i64 a4, .int .i64 a5, .int .i64 a6] 27)).alloc (.cells #[.int .i64 a0, .int .i64 10000, .int .i64 a1, .int .i64 100000, .int .i64 a2, .int .i64 100000, .int .i64 a3, .int .i64 1440, .int .i64 a4, .int .i64 1000000, .int .i64 a5, .int .i64 1000000, .int .i64 a6, .int .i64 1000000] 127) = w2 at hG ⊢
  generalize (#[.int .i64 a0, .int .i64 10000, .int .i64 a1, .int .i64 100000, .int .i64 a2, .int .i64 100000, .int .i64 a3, .int .i64 1440, .int .i64 a4, .int .i64 1000000, .int .i64 a5, .int .i64 1000000, .int .i64 a6, .int .i64 1000000] : Array Value) = A at hx ⊢
  generalize ([(a0, 10000), (a1, 100000), (a2, 100000), (a3, 1440), (a4, 1000000), (a5, 1000000), (a6, 1000000)] : List (Int × Int)) = ns at hx hE hl
  clear H0
  go_loopw [29] (DeRel w E ns) (fun i _ => 7 - (intOf i).toNat)
  case atStart => exact ⟨0, by omega, rfl, hE, hG⟩
  case round =>
    obtain ⟨k, hk7, rfl, heq, hGr⟩ := hrel
    have HE := Lib.hid heq
    clear heq hE hG
    by_cases hk : k < 7
    · obtain ⟨p, hp⟩ : ∃ p, ns[k]? = some p := ⟨_, List.getElem?_eq_getElem (by omega)⟩
      have hdrop : ns.drop k = p :: ns.drop (k + 1) := by rw [List.drop_eq_getElem_cons (by omega), ← (List.getElem?_eq_some_iff.1 hp).2]
      have HS : Hid (E = if inB p.1 0 p.2 = false then 1 else deErr (ns.drop (k + 1))) := Lib.hid (by rw [HE.out, hdrop]; rfl)
      have hi := hx k p hp
      have hG5 := hGr.alloc (.cells #[.int .i64 p.1, .int .i64 p.2] 126)
      clear hx hp hdrop HE hGr
      have HK := Lib.hid hk
      obtain ⟨p0, p1⟩ := p
      dsimp only at hi HS hG5
      go_wp2_with fail
      refine (within_c _ _ _ _).mono ?_; rintro e w' ⟨rfl, rfl⟩
      cases k0 : inB p0 0 p1 with
      | false =>
        have HF : Hid (E = 1) := Lib.hid (by rw [HS.out, if_pos k0])
        clear k0
        go_wp2_with fail
        go_ret
        exact ⟨ret_int HF.out.symm, hG5⟩
      | true =>
        have HF : Hid (E = deErr (ns.drop (k + 1))) := Lib.hid (by rw [HS.out, if_neg (by simp [k0])])
        clear k0
        go_wp2_with fail
        go_roundw
        case rel => exact ⟨k + 1, by omega, by go_num, HF.out, hG5⟩
        case measure => have := HK.out; simp [intOf]; omega
    · obtain rfl : k = 7 := by omega
      have HF : Hid (E = 0) := Lib.hid (by rw [HE.out, ← hl, List.drop_length]; rfl)
      clear HE hx
      go_wp2_with fail
      go_ret
      exact ⟨ret_int HF.out.symm, hGr⟩
end Go.Proofs.YtdcofbciebkfkaaDoor

/- What is due: kmOf, missingOf; the sum for minutes. -/
namespace Go.Proofs.YtdcofbciebkfkaaDoor
open Go.RowKit

/-- How far a vehicle went in a leg; the fuel that is missing. -/
def kmL (x : Lg) : Int := (x.2.2.2.2.1 - x.2.1.2.2.1 + 1000000) % 1000000
def miL (x : Lg) : Int := max 0 (x.2.1.2.2.2 - x.2.2.2.2.2)
/-- What is due for so many minutes. -/
def lcN (x : De) (m : Int) : Int := if m ≤ x.grace then 0 else min (x.hour * ((m + 60 - 1) / 60)) (x.day * ((m + 1440 - 1) / 1440))
theorem begunP_c (m p : Int) (w : World) (h0 : 0 ≤ m) (h1 : m ≤ 1000000000) (h2 : 1 ≤ p) (h3 : p ≤ 1000000000) : Calls Tryd.prog 142 #[.int .i64 m, .int .i64 p] w fun e w' => e = .returned (.int .i64 ((m + p - 1) / p)) ∧ w = w' := by
  go_enter Tryd.func142, Tryd.ntmps142
  go_wp2_with fail
  go_ret
  exact ⟨rfl, rfl⟩
end Go.Proofs.YtdcofbciebkfkaaDoor

/- What is due: legs of a hire that has ended; sums over its legs. -/
namespace Go.Proofs.YtdcofbciebkfkaaDoor
open Go.RowKit

theorem rgE_ok {x : Rg} (h : rgE x = 0) : momB x.1 = true ∧ keyB x.2.1 = true ∧ (0 ≤ x.2.2.1 ∧ x.2.2.1 ≤ 999999) ∧ (0 ≤ x.2.2.2 ∧ x.2.2.2 ≤ 8) := by
  unfold rgE at h
  split at h
  · cases h
  split at h
  · cases h
  split at h
  · cases h
  split at h
  · cases h
  · next h1 h2 h3 h4 =>
    refine ⟨by simpa using h1, by simpa using h2, ?_, ?_⟩
    · simp [inB] at h3; omega
    · simp [inB] at h4; omega
theorem lgE_ok {f : Int} {b : Option Lg} {last : Bool} {x : Lg} (h : lgE f b last x = 0) : rgE x.2.1 = 0 ∧ beE f b x = 0 ∧ enE last x = 0 := by
  unfold lgE at h
  split at h
  · cases h
  split at h
  · next h1 =>
    split at h
    · next h2 => exact ⟨h1, h2, h⟩
    · contradiction
  · contradiction
theorem lsE_legs : ∀ (l : List Lg) (f : Int) (b : Option Lg), lsE f b l = 0 → ∀ (k : Nat) (x : Lg), l[k]? = some x → rgE x.2.1 = 0 ∧ enE (decide (k + 1 = l.length)) x = 0
  | [], _, _, _, _, _, h => by simp at h
  | y :: r, f, b, h, k, x, hx => by
    unfold lsE at h
    split at h
    · next h1 =>
      obtain ⟨a1, -, a3⟩ := lgE_ok h1
      cases k with
      | zero =>
        simp at hx
        subst hx
        refine ⟨a1, ?_⟩
        have e : decide (0 + 1 = (y :: r).length) = r.isEmpty := by cases r <;> simp
        rw [e]
        exact a3
      | succ k =>
        have := lsE_legs r f (some y) h k x (by simpa using hx)
        have e : decide (k + 1 + 1 = (y :: r).length) = decide (k + 1 = r.length) := by simp
        rw [e]
        exact this
    · contradiction
theorem hiE_ls {h : Hh} {l : List Lg} (e : hiE h l = 0) : lsE h.2.2.1 none l = 0 ∧ tE h.2.2.1 h.2.2.2 = 0 := by
  unfold hiE at e
  split at e
  · cases e
  split at e
  · cases e
  split at e
  · next h3 =>
    split at e
    · cases e
    split at e
    · cases e
    · exact ⟨e, h3⟩
  · contradiction
/-- The readings of a hire that is right, and not open. -/
theorem ended_ok {h : Hh} {l : List Lg} (e : hiE h l = 0) (ho : ioB l = false) : ∀ x ∈ l, rgE x.2.1 = 0 ∧ rgE x.2.2 = 0 := by
  intro x hx
  obtain ⟨k, hk⟩ := List.mem_iff_getElem?.1 hx
  obtain ⟨h1, h2⟩ := lsE_legs l _ _ (hiE_ls e).1 k x hk
  refine ⟨h1, ?_⟩
  unfold enE at h2
  split at h2
  · next h3 =>
    split at h2
    · split at h2
      · next h4 =>
        have h5 : k = l.length - 1 := by have := of_decide_eq_true h4; omega
        subst h5
        unfold ioB at ho
        rw [hk] at ho
        simp [h3] at ho
      · cases h2
    · cases h2
  · split at h2
    · assumption
    · contradiction
def kmS (l : List Lg) : Int := (l.map kmL).sum
def miS (l : List Lg) : Int := (l.map miL).sum
theorem sum_step {α : Type} (f : α → Int) (l : List α) (k : Nat) (p : α) (hp : l[k]? = some p) : ((l.take (k + 1)).map f).sum = ((l.take k).map f).sum + f p := by
  rw [List.take_add_one, hp]
  simp
theorem sum_bnd {α : Type} (f : α → Int) (B : Int) (l : List α) (hb : ∀ x ∈ l, 0 ≤ f x ∧ f x ≤ B) : 0 ≤ (l.map f).sum ∧ (l.map f).sum ≤ B * (l.length : Int) := by
  induction l with
  | nil => simp
  | cons a r ih =>
    obtain ⟨h1, h2⟩ := ih (fun x hx => hb x (List.mem_cons_of_mem _ hx))
    obtain ⟨h3, h4⟩ := hb a List.mem_cons_self
    simp only [List.map_cons, List.sum_cons, List.length_cons]
    have e : B * ((r.length + 1 : Nat) : Int) = B * (r.length : Int) + B := by rw [Int.natCast_add, Int.mul_add]; simp
    rw [e]
    omega
theorem sum_take {α : Type} (f : α → Int) (B : Int) (l : List α) (hb : ∀ x ∈ l, 0 ≤ f x ∧ f x ≤ B) (hB : 0 ≤ B) (hB2 : B ≤ 1000000) (k : Nat) (hk : k ≤ 1000) : 0 ≤ ((l.take k).map f).sum ∧ ((l.take k).map f).sum ≤ 1000000000 := by
  obtain ⟨h1, h2⟩ := sum_bnd f B (l.take k) (fun x hx => hb x (List.mem_of_mem_take hx))
  have h3 : ((l.take k).length : Int) ≤ 1000 := by rw [List.length_take]; omega
  have h4 : B * ((l.take k).length : Int) ≤ 1000000 * 1000 := Int.mul_le_mul hB2 h3 (by omega) (by omega)
  omega
def HsuRel (w : World) (f : Lg → Int) (l : List Lg) (s i : Value) (wr : World) : Prop :=
  ∃ k : Nat, k ≤ l.length ∧ i = .int .i64 k ∧ s = .int .i64 ((l.take k).map f).sum ∧ G w wr none
end Go.Proofs.YtdcofbciebkfkaaDoor

/- With, HireWith. -/
namespace Go.Proofs.YtdcofbciebkfkaaDoor
open Go.RowKit

def wiAt (v : ByteArray) (t : Int) (l : List Lg) : Int := ixP (hasL v t) l 0
def IwRel (w : World) (l : List Lg) (v : ByteArray) (t : Int) (i : Value) (wr : World) : Prop :=
  ∃ k : Nat, k ≤ l.length ∧ i = .int .i64 k ∧ wiAt v t l = ixP (hasL v t) (l.drop k) k ∧ G w wr none
set_option maxRecDepth 100000 in
set_option maxHeartbeats 2000000 in
theorem indexW_c (u : Value) (l : List Lg) (v : ByteArray) (t : Int) (g1 g2 : Nat) (w : World) (hr : RdR w 9 lgC u l) (hn : l.length ≤ 1000) (hB : Bk w g1 9 #[.string v]) (hB2 : Bk w g2 3 #[.int .i64 t]) :
    Calls Tryd.prog 147 #[u, .func (.func 102) #[] #[.pointer (some ⟨g1, 0, none⟩), .pointer (some ⟨g2, 0, none⟩)]] w fun e w' => e = .returned (.int .i64 (wiAt v t l)) ∧ G w w' none := by
  have HR := Lib.hid hr
  obtain ⟨a, cap, rfl, hcap, hm⟩ := RdR.form hr
  clear hr
  go_enter Tryd.func147, Tryd.ntmps147
  go_wp2_with fail
  go_loopw [8] (IwRel w l v t) (fun i _ => l.length - (intOf i).toNat)
  case atStart => exact ⟨0, by omega, rfl, rfl, G.refl _ _⟩
  case round =>
    obtain ⟨k, hk, rfl, heq, hG⟩ := hrel
    have HE := Lib.hid heq
    clear heq
    by_cases hlt : k < l.length
    · obtain ⟨p, hp⟩ : ∃ p, l[k]? = some p := ⟨_, List.getElem?_eq_getElem hlt⟩
      have HD : Hid (wiAt v t l = if hasL v t p = true then (k : Int) else ixP (hasL v t) (l.drop (k + 1)) ((k : Int) + 1)) := Lib.hid (by
        rw [HE.out, List.drop_eq_getElem_cons hlt, (List.getElem?_eq_some_iff.1 hp).2]; rfl)
      obtain ⟨bb, bo, rfl, -, -⟩ := RdR.elem lgC_sz HR.out hG hp
      have HW := Lib.hid (lgRow HR.out hG hp)
      have HK := Lib.hid hlt
      clear hp
      go_wp2_with (refine wpList_load_at rfl 79 _ rfl ⟨bb, bo + k * 9, none⟩ rfl #[.string p.1, .int .i64 p.2.1.1, .string p.2.1.2.1, .int .i64 p.2.1.2.2.1, .int .i64 p.2.1.2.2.2, .int .i64 p.2.2.1, .string p.2.2.2.1, .int .i64 p.2.2.2.2.1, .int .i64 p.2.2.2.2.2] _ HW.out Tryd.underlying79 rfl (lg_info p) ?_)
      refine (with1_c p v t g1 g2 _ (hB.quiet hG) (hB2.quiet hG)).mono ?_; rintro e w1 ⟨rfl, hG1⟩
      cases he : hasL v t p with
      | true =>
        have HF : Hid (wiAt v t l = k) := Lib.hid (by rw [HD.out, if_pos he])
        clear he
        go_wp2_with fail
        go_ret
        exact ⟨ret_int HF.out.symm, hG.trans hG1⟩
      | false =>
        have HF : Hid (wiAt v t l = ixP (hasL v t) (l.drop (k + 1)) ((k + 1 : Nat) : Int)) := Lib.hid (by rw [HD.out, if_neg (by simp [he])]; rfl)
        clear he
        go_wp2_with fail
        go_roundw
        case rel => exact ⟨k + 1, by omega, by go_num, HF.out, hG.trans hG1⟩
        case measure => have := HK.out; simp [intOf]; omega
    · obtain rfl : k = l.length := by omega
      have HF : Hid (wiAt v t l = -1) := Lib.hid (by rw [HE.out, List.drop_length]; rfl)
      go_wp2_with fail
      go_ret
      exact ⟨ret_int HF.out.symm, hG⟩
set_option maxRecDepth 100000 in
set_option maxHeartbeats 2000000 in
theorem contW_c (u : Value) (l : List Lg) (v : ByteArray) (t : Int) (g1 g2 : Nat) (w : World) (hr : RdR w 9 lgC u l) (hn : l.length ≤ 1000) (hB : Bk w g1 9 #[.string v]) (hB2 : Bk w g2 3 #[.int .i64 t]) :
    Calls Tryd.prog 105 #[u, .func (.func 102) #[] #[.pointer (some ⟨g1, 0, none⟩), .pointer (some ⟨g2, 0, none⟩)]] w fun e w' => e = .returned (.bool (l.any (hasL v t))) ∧ G w w' none := by
  have hs := ixP_spec (hasL v t) l 0
  obtain ⟨a, cap, rfl, hcap, hm⟩ := RdR.form hr
  have HI := Lib.hid (fun w' (q : G w w' none) => indexW_c _ l v t g1 g2 w' (hr.quiet q) hn (hB.quiet q) (hB2.quiet q))
  clear hr hB hB2
  have hI : wiAt v t l = ixP (hasL v t) l ((0 : Nat) : Int) := rfl
  go_enter Tryd.func105, Tryd.ntmps105
  go_wp2_with fail
  refine (HI.out _ (G.refl _ _)).mono ?_; rintro e w1 ⟨rfl, hG1⟩
  rw [hI]
  clear hI HI
  rcases hs with ⟨h1, h2⟩ | ⟨i, p, h1, h2, h3⟩
  · rw [h1]
    have HF := Lib.hid h2
    clear h1 h2
    go_wp2_with fail
    go_ret
    exact ⟨ret_bool HF.out.symm, hG1⟩
  · have HF := Lib.hid (any_of_at (hasL v t) l i p h2 h3)
    rw [h1]
    clear h1 h2 h3
    have h0 : (0 : Int) ≤ ((0 + i : Nat) : Int) := by omega
    go_wp2_with fail
    go_ret
    exact ⟨ret_bool HF.out.symm, hG1⟩
/-- The hire that has a vehicle at a moment. -/
def wkO (v : ByteArray) (t : Int) : List Hx → Option ByteArray
  | [] => none
  | x :: r => if x.2.2.any (hasL v t) = true then some x.1.1 else wkO v t r
def wkE (v : ByteArray) (t : Int) (L : List Hx) : Int := if haE L = 0 then (if keyB v = true then (if momB t = true then 0 else 1) else 5) else haE L
def wkS (v : ByteArray) (t : Int) (L : List Hx) : ByteArray := if wkE v t L = 0 then (wkO v t L).getD ⟨#[]⟩ else ⟨#[]⟩
def wkB (v : ByteArray) (t : Int) (L : List Hx) : Bool := if wkE v t L = 0 then (wkO v t L).isSome else false
def WkRel (w : World) (v : ByteArray) (t : Int) (L : List Hx) (i : Value) (wr : World) : Prop :=
  ∃ k : Nat, k ≤ L.length ∧ i = .int .i64 k ∧ wkO v t L = wkO v t (L.drop k) ∧ G w wr none
theorem wkE_or (v : ByteArray) (t : Int) (L : List Hx) (e : wkE v t L ≠ 0) : wkS v t L = ⟨#[]⟩ ∧ wkB v t L = false := ⟨by unfold wkS; rw [if_neg e], by unfold wkB; rw [if_neg e]⟩
set_option maxRecDepth 100000 in
set_option maxHeartbeats 8000000 in
theorem with_c (u : Value) (L : List Hx) (v : ByteArray) (t : Int) (w : World) (hr : HxR w u L) (hl : HxOk L) (hn : L.length ≤ 1000) (hv : Small v) :
    Calls Tryd.prog 33 #[u, .string v, .int .i64 t] w fun e w' => e = .returned (.tuple #[.string (wkS v t L), .bool (wkB v t L), .int .i64 (wkE v t L)]) ∧ G w w' none := by
  have hV := (Bk.new w 9 #[.string v]).alloc (.cells #[.int .i64 t] 3)
  have hT := Bk.newAt (w := w.alloc (.cells #[.string v] 9)) (b := w.heap.size + 1) (by simp) 3 #[.int .i64 t]
  have hG := ((G.refl w none).alloc (.cells #[.string v] 9)).alloc (.cells #[.int .i64 t] 3)
  have hR := hr.quiet hG
  obtain ⟨a, cap, rfl, hcap, hm⟩ := RdR.form hr.1
  clear hr
  have HE := Lib.hid (show wkE v t L = if haE L = 0 then (if keyB v = true then (if momB t = true then 0 else 1) else 5) else haE L from rfl)
  have HNO := Lib.hid (wkE_or v t L)
  have HYS : Hid (wkE v t L = 0 → wkS v t L = (wkO v t L).getD ⟨#[]⟩ ∧ wkB v t L = (wkO v t L).isSome) := Lib.hid fun e => ⟨by unfold wkS; rw [if_pos e], by unfold wkB; rw [if_pos e]⟩
  generalize wkE v t L = E at HE HNO HYS ⊢
  generalize wkS v t L = S at HNO HYS ⊢
  generalize wkB v t L = B at HNO HYS ⊢
  unfold Small at hv
  go_enter Tryd.func33, Tryd.ntmps33
  go_upto_region 1 with fail
  generalize (w.alloc (.cells #[.string v] 9)).alloc (.cells #[.int .i64 t] 3) = w2 at hV hT hG hR ⊢
  go_wp2_with fail
  refine (checkAll_c _ L _ hR hl hn).mono ?_; rintro e w3 ⟨rfl, hh⟩
  replace hV := hV.quiet hh
  replace hT := hT.quiet hh
  replace hR := hR.quiet hh
  replace hG := hG.trans hh
  clear hh
  generalize haE L = HA at HE ⊢
  by_cases k1 : HA = 0
  · have HE1 : Hid (E = if keyB v = true then (if momB t = true then 0 else 1) else 5) := Lib.hid (by rw [HE.out, if_pos k1])
    clear HE
    subst k1
    have cv : w3.cell? ⟨w.heap.size, 0, none⟩ = some (.string v) := hV.cell 0
    have ct : w3.cell? ⟨w.heap.size + 1, 0, none⟩ = some (.int .i64 t) := hT.cell 0
    go_wp2_with fail
    refine (isKey_c _ _ hv).mono ?_; rintro e w' ⟨rfl, rfl⟩
    cases k2 : keyB v with
    | false =>
      have hE : E = 5 := by rw [HE1.out, if_neg (by simp [k2])]
      have hE0 : E ≠ 0 := by omega
      obtain ⟨rfl, rfl⟩ := HNO.out hE0
      subst hE
      clear HE1 HNO HYS k2 hE0
      go_wp2_with fail
      go_ret3
      exact ⟨rfl, hG⟩
    | true =>
      have HE2 : Hid (E = if momB t = true then 0 else 1) := Lib.hid (by rw [HE1.out, if_pos k2])
      clear HE1 k2
      go_wp2_with fail
      refine (isMoment_c _ _).mono ?_; rintro e w' ⟨rfl, rfl⟩
      cases k3 : momB t with
      | false =>
        have hE : E = 1 := by rw [HE2.out, if_neg (by simp [k3])]
        have hE0 : E ≠ 0 := by omega
        obtain ⟨rfl, rfl⟩ := HNO.out hE0
        subst hE
        clear HE2 HNO HYS k3 hE0
        go_wp2_with fail
        go_ret3
        exact ⟨rfl, hG⟩
      | true =>
        have hE : E = 0 := by rw [HE2.out, if_pos k3]
        obtain ⟨hS, hB⟩ := HYS.out hE
        subst hE
        have HS := Lib.hid hS
        have HBB := Lib.hid hB
        have HV := Lib.hid hV
        have HT := Lib.hid hT
        have HRR := Lib.hid hR.1
        have HX := Lib.hid hR.2
        clear HE2 HNO HYS k3 hS hB cv ct hV hT hR
        go_wp2_with fail
        go_loopw [27] (WkRel w3 v t L) (fun i _ => L.length - (intOf i).toNat)
        case atStart => exact ⟨0, by omega, rfl, rfl, G.refl _ _⟩
        case round =>
          obtain ⟨k, hk, rfl, heq, hGr⟩ := hrel
          have HEQ := Lib.hid heq
          clear heq
          by_cases hlt : k < L.length
          · obtain ⟨p, hp⟩ : ∃ p, L[k]? = some p := ⟨_, List.getElem?_eq_getElem hlt⟩
            have HD : Hid (wkO v t L = if p.2.2.any (hasL v t) = true then some p.1.1 else wkO v t (L.drop (k + 1))) := Lib.hid (by
              rw [HEQ.out, List.drop_eq_getElem_cons hlt, (List.getElem?_eq_some_iff.1 hp).2]; rfl)
            have hL := Rd.quiet (HX.out p (List.mem_of_getElem? hp)) hGr
            have hq6 := (hl p (List.mem_of_getElem? hp)).2.2.2.2.2
            obtain ⟨bb, bo, rfl, -, -⟩ := RdR.elem hxC_sz HRR.out hGr hp
            have HW := Lib.hid (hxRow HRR.out hGr hp)
            have HK := Lib.hid hlt
            have hB5 : Bk (wr.alloc (.cells #[.string p.1.1, .string p.1.2.1, .int .i64 p.1.2.2.1, .int .i64 p.1.2.2.2, .slice p.2.1.1 p.2.2.length p.2.1.2] 33)) wr.heap.size 33 #[.string p.1.1, .string p.1.2.1, .int .i64 p.1.2.2.1, .int .i64 p.1.2.2.2, .slice p.2.1.1 p.2.2.length p.2.1.2] := Bk.new _ _ _
            have hG5 := hGr.alloc (.cells #[.string p.1.1, .string p.1.2.1, .int .i64 p.1.2.2.1, .int .i64 p.1.2.2.2, .slice p.2.1.1 p.2.2.length p.2.1.2] 33)
            have hL5 := Rd.quiet hL ((G.refl wr none).alloc (.cells #[.string p.1.1, .string p.1.2.1, .int .i64 p.1.2.2.1, .int .i64 p.1.2.2.2, .slice p.2.1.1 p.2.2.length p.2.1.2] 33))
            clear hp hGr hL
            go_upto_region 12 with (refine wpList_load_at rfl 33 _ rfl ⟨bb, bo + k * 5, none⟩ rfl #[.string p.1.1, .string p.1.2.1, .int .i64 p.1.2.2.1, .int .i64 p.1.2.2.2, .slice p.2.1.1 p.2.2.length p.2.1.2] _ HW.out Tryd.underlying33 rfl (hi_info p.1 (hxV p)) ?_)
            generalize wr.alloc (.cells #[.string p.1.1, .string p.1.2.1, .int .i64 p.1.2.2.1, .int .i64 p.1.2.2.2, .slice p.2.1.1 p.2.2.length p.2.1.2] 33) = w5 at hB5 hG5 hL5 ⊢
            generalize wr.heap.size = g at hB5 ⊢
            have c4 : w5.cell? ⟨g, 4, none⟩ = some (.slice p.2.1.1 p.2.2.length p.2.1.2) := hB5.cell 4
            go_wp2_with fail
            refine (contW_c _ p.2.2 v t w.heap.size (w.heap.size + 1) _ hL5 (by omega) (HV.out.quiet hG5) (HT.out.quiet hG5)).mono ?_; rintro e w6 ⟨rfl, hh⟩
            have c0 : w6.cell? ⟨g, 0, none⟩ = some (.string p.1.1) := (hB5.quiet hh).cell 0
            have hG6 := hG5.trans hh
            clear hB5 hG5 hL5 hh c4
            cases he : p.2.2.any (hasL v t) with
            | true =>
              have hO : wkO v t L = some p.1.1 := by rw [HD.out, if_pos he]
              have hS : S = p.1.1 := by rw [HS.out, hO]; rfl
              have hB : B = true := by rw [HBB.out, hO]; rfl
              subst hS
              subst hB
              clear he HD HS HBB hO
              go_wp2_with fail
              go_ret3
              exact ⟨rfl, hG.trans hG6⟩
            | false =>
              have HF : Hid (wkO v t L = wkO v t (L.drop (k + 1))) := Lib.hid (by rw [HD.out, if_neg (by simp [he])])
              clear he HD
              go_wp2_with fail
              go_roundw
              case rel => exact ⟨k + 1, by omega, by go_num, HF.out, hG6⟩
              case measure => have := HK.out; simp [intOf]; omega
          · obtain rfl : k = L.length := by omega
            have hO : wkO v t L = none := by rw [HEQ.out, List.drop_length]; rfl
            have hS : S = ⟨#[]⟩ := by rw [HS.out, hO]; rfl
            have hB : B = false := by rw [HBB.out, hO]; rfl
            subst hS
            subst hB
            clear HS HBB hO
            go_wp2_with fail
            go_ret3
            exact ⟨rfl, hG.trans hGr⟩
  · have k1' : (HA != 0) = true := by simpa using k1
    have hE : E = HA := by rw [HE.out, if_neg k1]
    subst hE
    obtain ⟨rfl, rfl⟩ := HNO.out k1
    clear HE HNO HYS k1
    go_wp2_with fail
    go_ret3
    exact ⟨rfl, hG⟩
/-- The legs of a hire that is right begin and end at moments. -/
theorem leg_ends {h : Hh} {l : List Lg} (e : hiE h l = 0) : ∀ p ∈ l, 0 ≤ p.2.1.1 ∧ p.2.1.1 < 5761440 ∧ p.2.1.1 < toL p ∧ toL p ≤ 5761440 := by
  intro p hp
  obtain ⟨k, hk⟩ := List.getElem?_of_mem hp
  obtain ⟨h1, h2⟩ := lsE_legs l _ none (hiE_ls e).1 k p hk
  have m1 := (rgE_ok h1).1
  unfold momB at m1
  simp at m1
  unfold enE at h2
  unfold toL
  by_cases q : p.2.2.1 = -1
  · rw [if_pos q]; omega
  · rw [if_neg q] at h2 ⊢
    split at h2
    · next q2 =>
      have m2 := (rgE_ok q2).1
      unfold momB at m2
      simp at m2
      split at h2
      · cases h2
      · omega
    · contradiction
theorem hasB_in {x y t : Int} : inB t x (y - 1) = hasB x y t := by
  unfold inB hasB
  rw [show decide (t ≤ y - 1) = decide (t < y) from decide_eq_decide.2 (by omega)]
def HwRel (w : World) (v : ByteArray) (t : Int) (l : List Lg) (i : Value) (wr : World) : Prop :=
  ∃ j : Nat, j ≤ l.length ∧ i = .int .i64 j ∧ l.any (hasL v t) = (l.drop j).any (hasL v t) ∧ G w wr none
set_option maxRecDepth 100000 in
set_option maxHeartbeats 8000000 in
theorem hireWith_c (u : Value) (L : List Hx) (v : ByteArray) (t : Int) (w : World) (hr : HxR w u L) (hl : HxOk L) (hn : L.length ≤ 1000) (hall : ∀ x ∈ L, hxE x = 0) :
    Calls Tryd.prog 41 #[u, .string v, .int .i64 t] w fun e w' => e = .returned (.tuple #[.string ((wkO v t L).getD ⟨#[]⟩), .bool (wkO v t L).isSome]) ∧ G w w' none := by
  obtain ⟨a, cap, rfl, hcap, hm⟩ := RdR.form hr.1
  have HRR := Lib.hid hr.1
  have HX := Lib.hid hr.2
  obtain ⟨S, hS⟩ : ∃ S, (wkO v t L).getD ⟨#[]⟩ = S := ⟨_, rfl⟩
  obtain ⟨B, hB⟩ : ∃ B, (wkO v t L).isSome = B := ⟨_, rfl⟩
  have HS := Lib.hid hS.symm
  have HBB := Lib.hid hB.symm
  rw [hS, hB]
  clear hr hS hB
  go_enter Tryd.func41, Tryd.ntmps41
  go_wp2_with fail
  go_loopw [15] (WkRel w v t L) (fun i _ => L.length - (intOf i).toNat)
  case atStart => exact ⟨0, by omega, rfl, rfl, G.refl _ _⟩
  case round =>
    obtain ⟨k, hk, rfl, heq, hGr⟩ := hrel
    have HEQ := Lib.hid heq
    clear heq
    by_cases hlt : k < L.length
    · obtain ⟨p, hp⟩ : ∃ p, L[k]? = some p := ⟨_, List.getElem?_eq_getElem hlt⟩
      have HD : Hid (wkO v t L = if p.2.2.any (hasL v t) = true then some p.1.1 else wkO v t (L.drop (k + 1))) := Lib.hid (by
        rw [HEQ.out, List.drop_eq_getElem_cons hlt, (List.getElem?_eq_some_iff.1 hp).2]; rfl)
      have hL := Rd.quiet (HX.out p (List.mem_of_getElem? hp)) hGr
      have hq6 := (hl p (List.mem_of_getElem? hp)).2.2.2.2.2
      have HEND := Lib.hid (leg_ends (hall p (List.mem_of_getElem? hp)))
      obtain ⟨bb, bo, rfl, -, -⟩ := RdR.elem hxC_sz HRR.out hGr hp
      have HW := Lib.hid (hxRow HRR.out hGr hp)
      have HK := Lib.hid hlt
      have hB5 : Bk (wr.alloc (.cells #[.string p.1.1, .string p.1.2.1, .int .i64 p.1.2.2.1, .int .i64 p.1.2.2.2, .slice p.2.1.1 p.2.2.length p.2.1.2] 33)) wr.heap.size 33 #[.string p.1.1, .string p.1.2.1, .int .i64 p.1.2.2.1, .int .i64 p.1.2.2.2, .slice p.2.1.1 p.2.2.length p.2.1.2] := Bk.new _ _ _
      have hG5 := hGr.alloc (.cells #[.string p.1.1, .string p.1.2.1, .int .i64 p.1.2.2.1, .int .i64 p.1.2.2.2, .slice p.2.1.1 p.2.2.length p.2.1.2] 33)
      have hL5 := Rd.quiet hL ((G.refl wr none).alloc (.cells #[.string p.1.1, .string p.1.2.1, .int .i64 p.1.2.2.1, .int .i64 p.1.2.2.2, .slice p.2.1.1 p.2.2.length p.2.1.2] 33))
      clear hp hGr hL
      go_upto_region 4 with (refine wpList_load_at rfl 33 _ rfl ⟨bb, bo + k * 5, none⟩ rfl #[.string p.1.1, .string p.1.2.1, .int .i64 p.1.2.2.1, .int .i64 p.1.2.2.2, .slice p.2.1.1 p.2.2.length p.2.1.2] _ HW.out Tryd.underlying33 rfl (hi_info p.1 (hxV p)) ?_)
      generalize wr.alloc (.cells #[.string p.1.1, .string p.1.2.1, .int .i64 p.1.2.2.1, .int .i64 p.1.2.2.2, .slice p.2.1.1 p.2.2.length p.2.1.2] 33) = w5 at hB5 hG5 hL5 ⊢
      generalize wr.heap.size = g at hB5 ⊢
      have c4 : w5.cell? ⟨g, 4, none⟩ = some (.slice p.2.1.1 p.2.2.length p.2.1.2) := hB5.cell 4
      have HL5 := Lib.hid hL5
      have HB5 := Lib.hid hB5
      clear hL5 hB5
      go_wp2_with fail
      go_loopw [22] (HwRel w5 v t p.2.2) (fun i _ => p.2.2.length - (intOf i).toNat)
      case atStart => exact ⟨0, by omega, rfl, rfl, G.refl _ _⟩
      case round =>
        clear c4
        obtain ⟨j, hj, rfl, heq, hGi⟩ := hrel
        have HQ := Lib.hid heq
        clear heq
        by_cases hjl : j < p.2.2.length
        · obtain ⟨q, hq⟩ : ∃ q, p.2.2[j]? = some q := ⟨_, List.getElem?_eq_getElem hjl⟩
          have HDQ : Hid (p.2.2.any (hasL v t) = (hasL v t q || (p.2.2.drop (j + 1)).any (hasL v t))) := Lib.hid (by
            rw [HQ.out, List.drop_eq_getElem_cons hjl, (List.getElem?_eq_some_iff.1 hq).2]; rfl)
          have hend := HEND.out q (List.mem_of_getElem? hq)
          obtain ⟨b2, o2, hba, -, -⟩ := RdR.elem lgC_sz HL5.out hGi hq
          have HL6 : Hid (RdR w5 9 lgC (.slice (some ⟨b2, o2, none⟩) p.2.2.length p.2.1.2) p.2.2) := Lib.hid (by have := HL5.out; unfold hxV at this; rw [hba] at this; exact this)
          have HW2 := Lib.hid (lgRow HL6.out hGi hq)
          rw [hba]
          have HJ := Lib.hid hjl
          have hB6 : Bk (wr.alloc (.cells #[.string q.1, .int .i64 q.2.1.1, .string q.2.1.2.1, .int .i64 q.2.1.2.2.1, .int .i64 q.2.1.2.2.2, .int .i64 q.2.2.1, .string q.2.2.2.1, .int .i64 q.2.2.2.2.1, .int .i64 q.2.2.2.2.2] 79)) wr.heap.size 79 #[.string q.1, .int .i64 q.2.1.1, .string q.2.1.2.1, .int .i64 q.2.1.2.2.1, .int .i64 q.2.1.2.2.2, .int .i64 q.2.2.1, .string q.2.2.2.1, .int .i64 q.2.2.2.2.1, .int .i64 q.2.2.2.2.2] := Bk.new _ _ _
          have hG6 := hGi.alloc (.cells #[.string q.1, .int .i64 q.2.1.1, .string q.2.1.2.1, .int .i64 q.2.1.2.2.1, .int .i64 q.2.1.2.2.2, .int .i64 q.2.2.1, .string q.2.2.2.1, .int .i64 q.2.2.2.2.1, .int .i64 q.2.2.2.2.2] 79)
          clear hq hGi hba
          go_upto_region 7 with (refine wpList_load_at rfl 79 _ rfl ⟨b2, o2 + j * 9, none⟩ rfl #[.string q.1, .int .i64 q.2.1.1, .string q.2.1.2.1, .int .i64 q.2.1.2.2.1, .int .i64 q.2.1.2.2.2, .int .i64 q.2.2.1, .string q.2.2.2.1, .int .i64 q.2.2.2.2.1, .int .i64 q.2.2.2.2.2] _ HW2.out Tryd.underlying79 rfl (lg_info q) ?_)
          generalize wr.alloc (.cells #[.string q.1, .int .i64 q.2.1.1, .string q.2.1.2.1, .int .i64 q.2.1.2.2.1, .int .i64 q.2.1.2.2.2, .int .i64 q.2.2.1, .string q.2.2.2.1, .int .i64 q.2.2.2.2.1, .int .i64 q.2.2.2.2.2] 79) = w6 at hB6 hG6 ⊢
          generalize wr.heap.size = g6 at hB6 ⊢
          go_wp2_with (refine wpList_load_row rfl 79 _ rfl g6 rfl 79 #[.string q.1, .int .i64 q.2.1.1, .string q.2.1.2.1, .int .i64 q.2.1.2.2.1, .int .i64 q.2.1.2.2.2, .int .i64 q.2.2.1, .string q.2.2.2.1, .int .i64 q.2.2.2.2.1, .int .i64 q.2.2.2.2.2] (0, 0) _ hB6 Tryd.underlying79 rfl (lg_info q) ?_)
          refine (lastsR_c q _).mono ?_; rintro e w7 ⟨rfl, hh⟩
          have hB7 := (hB6.quiet hh).alloc (.cells #[.int .i64 q.2.1.1, .int .i64 (toL q)] 30)
          have hG7 := (hG6.trans hh).alloc (.cells #[.int .i64 q.2.1.1, .int .i64 (toL q)] 30)
          have hW7 := Bk.new w7 30 #[.int .i64 q.2.1.1, .int .i64 (toL q)]
          clear hB6 hG6 hh
          go_upto_region 8 with fail
          generalize w7.alloc (.cells #[.int .i64 q.2.1.1, .int .i64 (toL q)] 30) = w8 at hB7 hG7 hW7 ⊢
          generalize w7.heap.size = g7 at hW7 ⊢
          have c0 : w8.cell? ⟨g6, 0, none⟩ = some (.string q.1) := hB7.cell 0
          have d0 : w8.cell? ⟨g7, 0, none⟩ = some (.int .i64 q.2.1.1) := hW7.cell 0
          have d1 : w8.cell? ⟨g7, 1, none⟩ = some (.int .i64 (toL q)) := hW7.cell 1
          have hHas : inB t q.2.1.1 (toL q - 1) = hasB q.2.1.1 (toL q) t := hasB_in
          have hwr : IntKind.i64.wrap (toL q - 1) = toL q - 1 := by rw [IntKind.wrap_i64]; omega
          clear hend
          cases he : (q.1.toList == v.toList) with
          | false =>
            have HF : Hid (p.2.2.any (hasL v t) = (p.2.2.drop (j + 1)).any (hasL v t)) := Lib.hid (by rw [HDQ.out, hasL, he]; rfl)
            clear HDQ
            go_wp2_with fail
            go_roundw
            case rel => exact ⟨j + 1, by omega, by go_num, HF.out, hG7⟩
            case measure => have := HJ.out; simp [intOf]; omega
          | true =>
            have HDQ2 : Hid (p.2.2.any (hasL v t) = (hasB q.2.1.1 (toL q) t || (p.2.2.drop (j + 1)).any (hasL v t))) := Lib.hid (by rw [HDQ.out, hasL, he]; rfl)
            clear HDQ
            go_wp2_with fail
            refine (in_c _ _ _ _).mono ?_; rintro e w' ⟨rfl, rfl⟩
            rw [hHas]
            clear hHas
            cases hb : hasB q.2.1.1 (toL q) t with
            | true =>
              have hA : p.2.2.any (hasL v t) = true := by rw [HDQ2.out, hb]; rfl
              have hO : wkO v t L = some p.1.1 := by rw [HD.out, if_pos hA]
              have hS : S = p.1.1 := by rw [HS.out, hO]; rfl
              have hB : B = true := by rw [HBB.out, hO]; rfl
              have c1 : w8.cell? ⟨g, 0, none⟩ = some (.string p.1.1) := (HB5.out.quiet hG7).cell 0
              subst hS
              subst hB
              clear hb HDQ2 HD HS HBB hO hA
              go_wp2_with fail
              go_ret2
              exact ⟨rfl, hG5.trans hG7⟩
            | false =>
              have HF : Hid (p.2.2.any (hasL v t) = (p.2.2.drop (j + 1)).any (hasL v t)) := Lib.hid (by rw [HDQ2.out, hb]; rfl)
              clear hb HDQ2
              go_wp2_with fail
              go_roundw
              case rel => exact ⟨j + 1, by omega, by go_num, HF.out, hG7⟩
              case measure => have := HJ.out; simp [intOf]; omega
        · obtain rfl : j = p.2.2.length := by omega
          have HF : Hid (wkO v t L = wkO v t (L.drop (k + 1))) := Lib.hid (by rw [HD.out, if_neg (by rw [HQ.out, List.drop_length]; simp)])
          go_wp2_with fail
          go_roundw
          case rel => exact ⟨k + 1, by omega, by go_num, HF.out, hG5.trans hGi⟩
          case measure => have := HK.out; simp [intOf]; omega
    · obtain rfl : k = L.length := by omega
      have hO : wkO v t L = none := by rw [HEQ.out, List.drop_length]; rfl
      have hS : S = ⟨#[]⟩ := by rw [HS.out, hO]; rfl
      have hB : B = false := by rw [HBB.out, hO]; rfl
      subst hS
      subst hB
      clear HS HBB hO
      go_wp2_with fail
      go_ret2
      exact ⟨rfl, hGr⟩
end Go.Proofs.YtdcofbciebkfkaaDoor

/- Steps of a region that draws its order, by hand. No program. -/
namespace Go.Proofs.YtdcofbciebkfkaaDoor
open Go.RowKit
section
variable {P : Program} {ops : Array Oper} {o : Oper} {a : Act} {w : World} {K : Act → World → Prop} {Q : Exit → Act → World → Prop} {E : Prop}
theorem st_val (hg : o.guard = none) {v : Value} {w' : World} (hr : (execOp a.eval o).run P w = .ok (.value v) w') (hK : K (a.put o.dst v) w') : if Region.wanted o (yielded ops a.tmps) = true then Oper.wp P o a w K Q else E := by
  rw [if_pos (by simp [Region.wanted, hg])]
  unfold Oper.wp
  rw [hr]
  exact hK
theorem st_wp (hg : o.guard = none) (h : Oper.wp P o a w K Q) : if Region.wanted o (yielded ops a.tmps) = true then Oper.wp P o a w K Q else E := by
  rw [if_pos (by simp [Region.wanted, hg])]
  exact h
theorem st_call (hg : o.guard = none) {f : FuncId} {args : Array Value} {w1 : World} (hr : (execOp a.eval o).run P w = .ok (.enter f args) w1) (hc : Calls P f args w1 fun e w' => ∃ v, e = .returned v ∧ K (a.put o.dst v) w') : if Region.wanted o (yielded ops a.tmps) = true then Oper.wp P o a w K Q else E := by
  rw [if_pos (by simp [Region.wanted, hg])]
  unfold Oper.wp
  rw [hr]
  refine hc.mono ?_
  rintro e w' ⟨v, rfl, hK⟩
  exact hK
theorem run_load_row {ty : TypeId} {x : Operand} (ho : o.op = .load ty x) (g : Nat) (hx : a.eval x = .pointer (some ⟨g, 0, none⟩)) (t : TypeId) (cs : Array Value) (d : TypeDesc) (hg : Bk w g t cs)
    (hu : P.underlying ty = some d) (hd : (match d with | .struct _ | .array _ _ => true | _ => false) = true) (hi : (P.info? ty).map (·.size) = some cs.size) : (execOp a.eval o).run P w = .ok (.value (.agg cs)) w := by
  unfold execOp
  simp only [ho, hx, Instr.loadAt, Instr.sureAddr, Sem.run_bind, Sem.run_pure, Result.andThen_ok, run_loadVar_row w g t ty cs (0, 0) d hg hu hd hi]
/-- One that may come up, and it alone. -/
theorem ready_one {md : Region.Mode} {fuel : Nat} {listed : Array Bool} {i : Nat} (hr : Region.ready md ops listed = [i]) (ho : ops[i]? = some o)
    (h : ∀ K' : Act → World → Prop, (∀ a w, wpAny P md ops Q fuel (listed.setIfInBounds i true) a w → K' a w) → if Region.wanted o (yielded ops a.tmps) = true then Oper.wp P o a w K' Q else K' (a.put o.dst undef) w) : wpAny P md ops Q (fuel + 1) listed a w :=
  wpAny_ready hr (by simp) (AllReady.cons ho h AllReady.nil)
theorem ready_two {md : Region.Mode} {fuel : Nat} {listed : Array Bool} {i j : Nat} {o2 : Oper} (hr : Region.ready md ops listed = [i, j]) (ho : ops[i]? = some o) (ho2 : ops[j]? = some o2)
    (h : ∀ K' : Act → World → Prop, (∀ a w, wpAny P md ops Q fuel (listed.setIfInBounds i true) a w → K' a w) → if Region.wanted o (yielded ops a.tmps) = true then Oper.wp P o a w K' Q else K' (a.put o.dst undef) w)
    (h2 : ∀ K' : Act → World → Prop, (∀ a w, wpAny P md ops Q fuel (listed.setIfInBounds j true) a w → K' a w) → if Region.wanted o2 (yielded ops a.tmps) = true then Oper.wp P o2 a w K' Q else K' (a.put o2.dst undef) w) : wpAny P md ops Q (fuel + 1) listed a w :=
  wpAny_ready hr (by simp) (AllReady.cons ho h (AllReady.cons ho2 h2 AllReady.nil))
end
end Go.Proofs.YtdcofbciebkfkaaDoor

/- What was picked; a block as a row; 'when' at literals. -/
namespace Go.Proofs.YtdcofbciebkfkaaDoor
open Go.RowKit

theorem small_of {s : ByteArray} (h : s.size ≤ 100) : Small s := by unfold Small; omega
theorem bnd_pick {zs : List Int} {r : Int} (h : r ∈ zs) (hz : zs.all (fun z => decide (-1099511627776 ≤ z ∧ z ≤ 1099511627776)) = true) : bnd r := by
  unfold bnd
  exact of_decide_eq_true (List.all_eq_true.1 hz r h)
theorem small_pick {zs : List ByteArray} {r : ByteArray} (h : r ∈ zs) (hz : zs.all (fun z => decide (z.size ≤ 100)) = true) : Small r := small_of (of_decide_eq_true (List.all_eq_true.1 hz r h))
theorem Bk.rd {w : World} {g : Nat} {T : TypeId} {cs : Array Value} (h : Bk w g T cs) (z n : Nat) (hc : cs.size = n * z) (hn : n ≤ 1000) : Rd w z (.slice (some ⟨g, 0, none⟩) n n) n cs.toList := by
  refine ⟨_, n, rfl, Nat.le_refl _, by unfold maxLen; omega, by simpa using hc, (fun e => by cases e), fun b hb => ?_⟩
  obtain rfl := Option.some.inj hb
  refine ⟨rfl, h.lt, fun j u hj => ?_⟩
  rw [Nat.zero_add, h.cell]
  simpa using hj
theorem when_t (n : Int) (w : World) : Calls Tryd.prog 107 #[.bool true, .int .i64 n] w fun e w' => e = .returned (.int .i64 n) ∧ w = w' := by simpa using when_c true n w
theorem when_f (n : Int) (w : World) : Calls Tryd.prog 107 #[.bool false, .int .i64 n] w fun e w' => e = .returned (.int .i64 0) ∧ w = w' := by simpa using when_c false n w
end Go.Proofs.YtdcofbciebkfkaaDoor

/- Generator: a reading. -/
namespace Go.Proofs.YtdcofbciebkfkaaDoor
open Go.RowKit

def bnd2 (n : Int) : Prop := -2199023255552 ≤ n ∧ n ≤ 2199023255552
def rgB (x : Rg) : Prop := bnd2 x.1 ∧ Small x.2.1 ∧ bnd x.2.2.1 ∧ bnd x.2.2.2
def ReadingPost (s K : Nat) (w : World) (e : Ending) (w' : World) : Prop :=
  ∃ r : Rg, e = .returned (.agg (rgC r)) ∧ rgB r ∧ SB w' s (K + 12) ∧ G w w' (some s)
theorem rg_one (x : Rg) : (rgC x).all (·.oneCell') = true := by simp [rgC, Value.oneCell']
theorem reading_fin {w w3 : World} {s K : Nat} {r : Rg} (hs : s < w.heap.size) (hr : rgB r) (hSB : SB w3 s (K + 12)) (hG : G w w3 (some s)) :
    ReadingPost s K w (.returned (.agg (rgC r))) (w3.setRow w.heap.size (rgC r)) :=
  ⟨r, rfl, hr, hSB.setRow hs _, hG.setRow (.inl (Nat.le_refl _)) _⟩
set_option maxRecDepth 100000 in
set_option maxHeartbeats 4000000 in
theorem reading_c (t : Int) (w : World) (s : Nat) (K : Nat) (ht : bnd t) (hs : SB w s K) (hk : K ≤ 900000000000) :
    Calls Tryd.prog 13 #[.pointer (some ⟨s, 0, none⟩), .int .i64 t] w (ReadingPost s K w) := by
  have hslt := hs.lt
  unfold bnd at ht
  have HT := Lib.hid ht
  obtain ⟨ht0, ht1⟩ := ht
  go_enter Tryd.func13, Tryd.ntmps13
  go_wp2_with fail
  refine (some_c _ _ _ [⟨#[115, 49]⟩, ⟨#[115, 49]⟩, ⟨#[115, 50]⟩, ⟨#[115, 51]⟩] _ _ K ((hs.alloc _).alloc _) (by omega) (by decide) (by decide) (Rd.newAt _ (by simp) rfl (by decide)) (hs.newAt _ _ _ (by omega))).mono ?_
  rintro e w2 ⟨k, rfl, hp, hSB2, hG2⟩
  have HK := Lib.hid (small_pick hp (by decide))
  have hz2 : w.heap.size + 2 ≤ w2.heap.size := by have := hG2.size; simp at this; omega
  have hB2 := ((Bk.new w 37 #[.int .i64 0, .string ⟨#[]⟩, .int .i64 0, .int .i64 0]).alloc (.cells _ 9)).grown hG2 (by simp; omega)
  have hG02 : G w w2 (some s) := (((G.refl w (some s)).alloc _).alloc _).trans hG2
  clear hG2 hp
  go_wp2_with fail
  refine (pick_c _ _ _ [0, 5, 100, 500, 999990, 999999] _ _ _ (hSB2.alloc _) (by omega) (by decide) (by decide) (Rd.newAt _ rfl rfl (by decide)) (hSB2.newAt _ _ _ (Nat.le_refl _))).mono ?_
  rintro e w3 ⟨m, rfl, hp, hSB3, hG3⟩
  have HM := Lib.hid (bnd_pick hp (by decide))
  have hB3 := (hB2.alloc (.cells _ 3)).grown hG3 (by simp; omega)
  have hG03 := (hG02.alloc _).trans hG3
  clear hG3 hp hB2 hG02 hSB2 hz2
  go_wp2_with fail
  refine (range_c 0 8 _ _ _ hSB3 (by omega) (by omega) (by omega) (by omega)).mono ?_; rintro e w4 ⟨f, rfl, f0, f1, hSB4, hG4⟩
  have HF : Hid (bnd f) := Lib.hid (by unfold bnd; omega)
  have hB4 := hB3.grown hG4 (fun e => by have := Option.some.inj e; omega)
  have hG04 := hG03.trans hG4
  clear hG4 hB3 hG03 hSB3 f0 f1
  have hN5 := Bk.new w4 37 #[.int .i64 t, .string k, .int .i64 m, .int .i64 f]
  have hSB5 := hSB4.alloc (.cells #[.int .i64 t, .string k, .int .i64 m, .int .i64 f] 37)
  have hB5 := hB4.alloc (.cells #[.int .i64 t, .string k, .int .i64 m, .int .i64 f] 37)
  have hG05 := hG04.alloc (.cells #[.int .i64 t, .string k, .int .i64 m, .int .i64 f] 37)
  have hs4 := hSB4.lt
  have hl4 := hB4.lt
  have hgw : w.heap.size ≤ w4.heap.size := hG04.size
  clear hB4 hG04 hSB4
  go_wp2_with fail
  generalize w4.alloc (.cells #[.int .i64 t, .string k, .int .i64 m, .int .i64 f] 37) = w5 at hN5 hSB5 hB5 hG05 ⊢
  generalize w4.heap.size = g at hN5 hs4 hl4 hgw ⊢
  refine (flip_c _ _ _ _ hSB5 (by omega) (by omega)).mono ?_; rintro e w6 ⟨q, rfl, hSB6, hG6⟩
  have hN6 := hN5.grown hG6 (fun e => by have := Option.some.inj e; omega)
  have hB6 := hB5.grown hG6 (fun e => by have := Option.some.inj e; omega)
  have hG06 := hG05.trans hG6
  clear hN5 hB5 hG05 hG6 hSB5
  cases q with
  | false =>
    go_wp2_with (first | (refine wpList_load_row rfl 37 _ rfl g rfl 37 #[.int .i64 t, .string k, .int .i64 m, .int .i64 f] (0, 0) _ hN6 Tryd.underlying37 rfl (rg_info (t, k, m, f)) ?_) | (refine wpList_store_row rfl 37 _ _ rfl w.heap.size #[.int .i64 t, .string k, .int .i64 m, .int .i64 f] rfl rfl 37 _ hB6 (rg_info (t, k, m, f)) rfl (rg_one (t, k, m, f)) ?_))
    refine bodyPost_ret (results_cell_row rfl _ _ w.heap.size 37 #[.int .i64 t, .string k, .int .i64 m, .int .i64 f] (0, 0) _ rfl (hB6.setRow _) Tryd.underlying37 rfl (rg_info (t, k, m, f))) rfl ?_
    exact reading_fin (r := (t, k, m, f)) hslt ⟨by have := HT.out; unfold bnd2; dsimp only; omega, HK.out, HM.out, HF.out⟩ (hSB6.le (by omega)) hG06
  | true =>
    have hwr : IntKind.i64.wrap (t + 1) = t + 1 := by rw [IntKind.wrap_i64]; omega
    go_wp2_with fail
    refine (pick_c _ _ _ [t, t + 1, -1, 5761440] _ _ _ (hSB6.alloc _) (by omega) (by decide) (by decide) (Rd.newAt _ rfl rfl (by decide)) (hSB6.newAt _ _ _ (Nat.le_refl _))).mono ?_; rintro e w7 ⟨t2, rfl, hp, hSB7, hG7⟩
    have HT2 : Hid (bnd2 t2) := Lib.hid (by simp only [List.mem_cons, List.mem_nil_iff, or_false] at hp; unfold bnd2; omega)
    have hN7 := (hN6.alloc (.cells _ 3)).grown hG7 (fun e => by have := Option.some.inj e; omega)
    have hB7 := (hB6.alloc (.cells _ 3)).grown hG7 (fun e => by have := Option.some.inj e; omega)
    have hG07 := (hG06.alloc _).trans hG7
    clear hN6 hB6 hG06 hG7 hSB6 hp
    go_wp2_with fail
    refine (some_c _ _ _ [⟨#[115, 49]⟩, ⟨#[]⟩, ⟨#[65]⟩] _ _ _ (hSB7.alloc _) (by omega) (by decide) (by decide) (Rd.newAt _ rfl rfl (by decide)) (hSB7.newAt _ _ _ (Nat.le_refl _))).mono ?_; rintro e w8 ⟨k2, rfl, hp, hSB8, hG8⟩
    have HK2 := Lib.hid (small_pick hp (by decide))
    have hN8 := (hN7.alloc (.cells _ 9)).grown hG8 (fun e => by have := Option.some.inj e; omega)
    have hB8 := (hB7.alloc (.cells _ 9)).grown hG8 (fun e => by have := Option.some.inj e; omega)
    have hG08 := (hG07.alloc _).trans hG8
    clear hN7 hB7 hG07 hG8 hSB7 hp
    go_wp2_with fail
    refine (odd_c _ _ _ _ _ hSB8 (by omega) (by omega) (by omega) (by omega) (by omega)).mono ?_; rintro e w9 ⟨m2, rfl, m20, m21, hSB9, hG9⟩
    have HM2 : Hid (bnd m2) := Lib.hid ⟨m20, m21⟩
    have hN9 := hN8.grown hG9 (fun e => by have := Option.some.inj e; omega)
    have hB9 := hB8.grown hG9 (fun e => by have := Option.some.inj e; omega)
    have hG09 := hG08.trans hG9
    clear hN8 hB8 hG08 hG9 hSB8 m20 m21
    go_wp2_with fail
    refine (odd_c _ _ _ _ _ hSB9 (by omega) (by omega) (by omega) (by omega) (by omega)).mono ?_; rintro e wa ⟨f2, rfl, f20, f21, hSBa, hGa⟩
    have HF2 : Hid (bnd f2) := Lib.hid ⟨f20, f21⟩
    have hNa := hN9.grown hGa (fun e => by have := Option.some.inj e; omega)
    have hBa := hB9.grown hGa (fun e => by have := Option.some.inj e; omega)
    have hG0a := hG09.trans hGa
    clear hN9 hB9 hG09 hGa hSB9 f20 f21 hwr
    have n0 : wa.cell? ⟨g, 0, none⟩ = some (.int .i64 t) := hNa.cell 0
    have n1 : wa.cell? ⟨g, 1, none⟩ = some (.string k) := hNa.cell 1
    have n2 : wa.cell? ⟨g, 2, none⟩ = some (.int .i64 m) := hNa.cell 2
    have n3 : wa.cell? ⟨g, 3, none⟩ = some (.int .i64 f) := hNa.cell 3
    have x0 := hNa.free 0
    have x1 := hNa.free 1
    have x2 := hNa.free 2
    have x3 := hNa.free 3
    go_upto_region 4 with fail
    have hNb : Bk ((((wa.setCell ⟨g, 0, none⟩ (.int .i64 t2)).setCell ⟨g, 1, none⟩ (.string k2)).setCell ⟨g, 2, none⟩ (.int .i64 m2)).setCell ⟨g, 3, none⟩ (.int .i64 f2)) g 37 #[.int .i64 t2, .string k2, .int .i64 m2, .int .i64 f2] := (((hNa.set 0 _).set 1 _).set 2 _).set 3 _
    have hBb := (((hBa.far (p := ⟨g, 0, none⟩) (show w.heap.size ≠ g by omega) (.int .i64 t2)).far (p := ⟨g, 1, none⟩) (show w.heap.size ≠ g by omega) (.string k2)).far (p := ⟨g, 2, none⟩) (show w.heap.size ≠ g by omega) (.int .i64 m2)).far (p := ⟨g, 3, none⟩) (show w.heap.size ≠ g by omega) (.int .i64 f2)
    have hSBb := (((hSBa.setCell (p := ⟨g, 0, none⟩) hs4 (.int .i64 t2)).setCell (p := ⟨g, 1, none⟩) hs4 (.string k2)).setCell (p := ⟨g, 2, none⟩) hs4 (.int .i64 m2)).setCell (p := ⟨g, 3, none⟩) hs4 (.int .i64 f2)
    have hGb := (((hG0a.setCell (p := ⟨g, 0, none⟩) (.inl hgw) (.int .i64 t2)).setCell (p := ⟨g, 1, none⟩) (.inl hgw) (.string k2)).setCell (p := ⟨g, 2, none⟩) (.inl hgw) (.int .i64 m2)).setCell (p := ⟨g, 3, none⟩) (.inl hgw) (.int .i64 f2)
    generalize (((wa.setCell ⟨g, 0, none⟩ (.int .i64 t2)).setCell ⟨g, 1, none⟩ (.string k2)).setCell ⟨g, 2, none⟩ (.int .i64 m2)).setCell ⟨g, 3, none⟩ (.int .i64 f2) = wb at hNb hBb hSBb hGb ⊢
    go_wp2_with (first | (refine wpList_load_row rfl 37 _ rfl g rfl 37 #[.int .i64 t2, .string k2, .int .i64 m2, .int .i64 f2] (0, 0) _ hNb Tryd.underlying37 rfl (rg_info (t2, k2, m2, f2)) ?_) | (refine wpList_store_row rfl 37 _ _ rfl w.heap.size #[.int .i64 t2, .string k2, .int .i64 m2, .int .i64 f2] rfl rfl 37 _ hBb (rg_info (t2, k2, m2, f2)) rfl (rg_one (t2, k2, m2, f2)) ?_))
    refine bodyPost_ret (results_cell_row rfl _ _ w.heap.size 37 #[.int .i64 t2, .string k2, .int .i64 m2, .int .i64 f2] (0, 0) _ rfl (hBb.setRow _) Tryd.underlying37 rfl (rg_info (t2, k2, m2, f2))) rfl ?_
    exact reading_fin (r := (t2, k2, m2, f2)) hslt ⟨HT2.out, HK2.out, HM2.out, HF2.out⟩ (hSBb.le (by omega)) hGb
end Go.Proofs.YtdcofbciebkfkaaDoor

/- Hires: what a function that Close hands on does with a hire. Its regions are written by gench.py. -/
namespace Go.Proofs.YtdcofbciebkfkaaDoor
open Go.RowKit

/-- The last leg comes in so. -/
def inL (l : List Lg) (r : Rg) : List Lg := match l[l.length - 1]? with
  | some x => l.set (l.length - 1) (x.1, x.2.1, r)
  | none => l
theorem inL_len (l : List Lg) (r : Rg) : (inL l r).length = l.length := by
  unfold inL
  split
  · simp
  · rfl
theorem LgOk.inL {l : List Lg} {r : Rg} (h : LgOk l) (hr : Small r.2.1) : LgOk (inL l r) := by
  unfold Go.Proofs.YtdcofbciebkfkaaDoor.inL
  split
  · next x hx =>
    intro y hy
    rcases List.mem_or_eq_of_mem_set hy with hy | rfl
    · exact h y hy
    · have := h x (List.mem_of_getElem? hx)
      exact ⟨this.1, this.2.1, hr⟩
  · exact h
theorem G.setCells (b : Nat) : ∀ (vs : List Value) (o : Nat) (w : World), G w (w.setCells b o vs) (some b)
  | [], _, _ => G.refl _ _
  | v :: r, o, w => by
    rw [World.setCells]
    exact ((G.refl w (some b)).setCell (p := ⟨b, o, none⟩) (.inr rfl) v).trans (G.setCells b r (o + 1) _)
theorem OwnX.form {α : Type} {T : TypeId} {z : Nat} {c : α → Array Value} {w : World} {base : Nat} {v : Value} {l : List α} (h : OwnX T z c w base v l) (h0 : 0 < l.length) : ∃ g cap cur, v = .slice (some ⟨g, 0, none⟩) l.length cap ∧ Bk w g T cur ∧ base ≤ g := by
  rcases h.2 with ⟨rfl, h3⟩ | ⟨g, cap, cur, rfl, hb, hg, _⟩
  · omega
  · exact ⟨g, cap, cur, rfl, hg, hb⟩
theorem there_lg {w : World} {base g1 cap : Nat} {l : List Lg} {p : Lg} (h : OwnLg w base (.slice (some ⟨g1, 0, none⟩) l.length cap) l) (hp : l[l.length - 1]? = some p) : w.there g1 ((l.length - 1) * 9 + 5) 4 := by
  obtain ⟨g, cap', cur, e, hB, -⟩ := OwnX.form h (by have := (List.getElem?_eq_some_iff.1 hp).1; omega)
  cases e
  intro j hj
  refine ⟨?_, hB.free _⟩
  obtain ⟨u, hu⟩ : ∃ u, (lgC p).toList[5 + j]? = some u := ⟨_, List.getElem?_eq_getElem (by simp [lgC]; omega)⟩
  have := RdR.cell lgC_sz (Rd.of_owns h) (G.refl w none) hp (5 + j) u hu
  rw [← Nat.add_assoc, Nat.zero_add] at this
  rw [this]
  rfl
theorem own_inL {w : World} {base g1 cap : Nat} {l : List Lg} {p : Lg} (h : OwnLg w base (.slice (some ⟨g1, 0, none⟩) l.length cap) l) (hp : l[l.length - 1]? = some p) (r : Rg) :
    OwnLg (w.setCells g1 ((l.length - 1) * 9 + 5) (#[.int .i64 r.1, .string r.2.1, .int .i64 r.2.2.1, .int .i64 r.2.2.2] : Array Value).toList) base (.slice (some ⟨g1, 0, none⟩) l.length cap) (inL l r) := by
  have e : inL l r = l.set (l.length - 1) (p.1, p.2.1, r) := by unfold inL; rw [hp]
  have hk := (List.getElem?_eq_some_iff.1 hp).1
  show World.ownsRow _ _ _ _ _ (inL l r).length _
  rw [inL_len, e]
  generalize l.length - 1 = k at hp hk ⊢
  have hs : ∀ q : Lg, (l.set k q)[k]? = some q := fun q => by rw [List.getElem?_set_self hk]
  have h1 := OwnX.set lgC_sz h hp 5 (.int .i64 r.1) (by omega) (q := (p.1, p.2.1, (r.1, p.2.2.2))) rfl
  have h2 := OwnX.set lgC_sz h1 (hs _) 6 (.string r.2.1) (by omega) (q := (p.1, p.2.1, (r.1, r.2.1, p.2.2.2.2))) rfl
  rw [List.set_set] at h2
  have h3 := OwnX.set lgC_sz h2 (hs _) 7 (.int .i64 r.2.2.1) (by omega) (q := (p.1, p.2.1, (r.1, r.2.1, r.2.2.1, p.2.2.2.2.2))) rfl
  rw [List.set_set] at h3
  have h4 := OwnX.set lgC_sz h3 (hs _) 8 (.int .i64 r.2.2.2) (by omega) (q := (p.1, p.2.1, r)) rfl
  rw [List.set_set] at h4
  exact h4
theorem cf_close : ∀ (args : Array Value) (w : World), (callFunc 95 args).run Tryd.prog w = .ok (.enter 95 args) w := fun args w => by kernel_rfl
theorem cf_closeR : ∀ (args : Array Value) (w : World), (callFunc 99 args).run Tryd.prog w = .ok (.enter 99 args) w := fun args w => by kernel_rfl
set_option maxRecDepth 100000 in
set_option maxHeartbeats 4000000 in
theorem close1_c (h : Hh) (l : List Lg) (r : Rg) (b : Nat) (A : World) (hB : Bk A b 37 (rgC r)) (h0 : 0 < l.length) (hn : l.length ≤ 1000) :
    ChFn 95 #[.pointer (some ⟨b, 0, none⟩)] h l h (inL l r) A := by
  intro w1 g base v1 hG hown hH hg hgb hbs
  have hb := hB.lt
  have hB1 := hB.quiet hG
  obtain ⟨g1, cap, cur, rfl, -, hg1⟩ := OwnX.form hown h0
  obtain ⟨p, hp⟩ : ∃ p, l[l.length - 1]? = some p := ⟨_, List.getElem?_eq_getElem (by omega)⟩
  have HP := Lib.hid hp
  have hne : g ≠ g1 := by omega
  have hnb : b ≠ g1 := by omega
  clear hp hB
  simp only [hiC, rgC] at hH hB1 ⊢
  go_enter Tryd.func95, Tryd.ntmps95
  have hH2 := hH.quiet ((G.refl w1 none).drew)
  have hB2 := hB1.quiet ((G.refl w1 none).drew)
  have HO2 := Lib.hid (OwnX.drew hown)
  have hG02 : G w1 w1.drew none := (G.refl w1 none).drew
  -- @REGION1
  refine wp_region_held_drew (S := (fun w' => w'.cell? ⟨g, 0, none⟩ = some (.string h.1) ∧ w'.cell? ⟨g, 1, none⟩ = some (.string h.2.1) ∧ w'.cell? ⟨g, 2, none⟩ = some (.int .i64 h.2.2.1) ∧ w'.cell? ⟨g, 3, none⟩ = some (.int .i64 h.2.2.2) ∧ w'.cell? ⟨g, 4, none⟩ = some (.slice (some ⟨g1, 0, none⟩) l.length cap) ∧ w'.cell? ⟨b, 0, none⟩ = some (.int .i64 r.1) ∧ w'.cell? ⟨b, 1, none⟩ = some (.string r.2.1) ∧ w'.cell? ⟨b, 2, none⟩ = some (.int .i64 r.2.2.1) ∧ w'.cell? ⟨b, 3, none⟩ = some (.int .i64 r.2.2.2))) (by kernel_rfl) ?_ (fun hHeld => ?_)
  · exact ⟨hH2.cell 0, hH2.cell 1, hH2.cell 2, hH2.cell 3, hH2.cell 4, hB2.cell 0, hB2.cell 1, hB2.cell 2, hB2.cell 3⟩
  refine wpAnyH_take (i := 0) (oi := { dst := some 3, op := Op.move (Operand.tmp 0), type := 134, pos := _, after := #[], guard := none }) (v := ?_) rfl (by kernel_rfl) (by kernel_rfl) (by kernel_rfl) (fun _ _ _ h => h) (Or.inl ⟨by rfl, ?_⟩) (by assumption) ?_
  rotate_left
  · (intro w hSw; obtain ⟨s0, s1, s2, s3, s4, s5, s6, s7, s8⟩ := hSw; (go_simp <;> with_reducible rfl))
  try simp only [Act.put, List.setIfInBounds_toArray, List.set_cons_zero, List.set_cons_succ]
  refine wpAnyH_take (i := 1) (oi := { dst := some 4, op := Op.nilCheck (Operand.tmp 3), type := 0, pos := _, after := #[{ on := 0, ground := Ground.data }], guard := none }) (v := ?_) rfl (by kernel_rfl) (by kernel_rfl) (by kernel_rfl) (fun _ _ _ h => h) (Or.inl ⟨by rfl, ?_⟩) (by assumption) ?_
  rotate_left
  · (intro w hSw; obtain ⟨s0, s1, s2, s3, s4, s5, s6, s7, s8⟩ := hSw; (go_simp <;> with_reducible rfl))
  try simp only [Act.put, List.setIfInBounds_toArray, List.set_cons_zero, List.set_cons_succ]
  refine wpAnyH_take (i := 2) (oi := { dst := some 5, op := Op.load 33 (Operand.tmp 4), type := 33, pos := _, after := #[{ on := 1, ground := Ground.data }], guard := none }) (v := ?_) rfl (by kernel_rfl) (by kernel_rfl) (by kernel_rfl) (fun _ _ _ h => h) (Or.inl ⟨by rfl, ?_⟩) (by assumption) ?_
  rotate_left
  · (intro w hSw; obtain ⟨s0, s1, s2, s3, s4, s5, s6, s7, s8⟩ := hSw; (go_simp <;> with_reducible rfl))
  try simp only [Act.put, List.setIfInBounds_toArray, List.set_cons_zero, List.set_cons_succ]
  refine wpAnyH_take (i := 4) (oi := { dst := some 7, op := Op.load 37 (Operand.tmp 1), type := 37, pos := _, after := #[], guard := none }) (v := ?_) rfl (by kernel_rfl) (by kernel_rfl) (by kernel_rfl) (fun _ _ _ h => h) (Or.inl ⟨by rfl, ?_⟩) (by assumption) ?_
  rotate_left
  · (intro w hSw; obtain ⟨s0, s1, s2, s3, s4, s5, s6, s7, s8⟩ := hSw; (go_simp <;> with_reducible rfl))
  try simp only [Act.put, List.setIfInBounds_toArray, List.set_cons_zero, List.set_cons_succ]
  refine wpAnyH_ready (rs := [3]) (by kernel_rfl) (by simp) ?_
  refine AllReadyH.cons (o := { dst := some 6, op := Op.call { callee := Callee.value (Operand.func 93), args := #[Operand.tmp 5], argTypes := #[33] }, type := 123, pos := _, after := #[{ on := 2, ground := Ground.data }], guard := none }) rfl (fun K hK => ?_) AllReadyH.nil
  go_simp
  refine (lastOf_c h g1 0 l.length cap _ h0 hn).mono ?_
  rintro e w3 ⟨rfl, hG3⟩
  have hH3 := hH2.quiet hG3
  have hB3 := hB2.quiet hG3
  have HO := Lib.hid (OwnX.quiet HO2.out hG3)
  have hG03 := hG02.trans hG3
  clear hG3
  refine hK.out _ _ ?_ (fun hHeld => ?_)
  · exact ⟨hH3.cell 0, hH3.cell 1, hH3.cell 2, hH3.cell 3, hH3.cell 4, hB3.cell 0, hB3.cell 1, hB3.cell 2, hB3.cell 3⟩
  clear hK K
  try simp only [Act.put, List.setIfInBounds_toArray, List.set_cons_zero, List.set_cons_succ]
  refine wpAnyH_take (i := 5) (oi := { dst := some 8, op := Op.nilCheck (Operand.tmp 6), type := 0, pos := _, after := #[{ on := 3, ground := Ground.data }, { on := 0, ground := Ground.phase }, { on := 1, ground := Ground.phase }, { on := 2, ground := Ground.phase }, { on := 3, ground := Ground.phase }, { on := 4, ground := Ground.phase }], guard := none }) (v := ?_) rfl (by kernel_rfl) (by kernel_rfl) (by kernel_rfl) (fun _ _ _ h => h) (Or.inl ⟨by rfl, ?_⟩) (by assumption) ?_
  rotate_left
  · (intro w hSw; obtain ⟨s0, s1, s2, s3, s4, s5, s6, s7, s8⟩ := hSw; (go_simp <;> with_reducible rfl))
  try simp only [Act.put, List.setIfInBounds_toArray, List.set_cons_zero, List.set_cons_succ]
  refine wpAnyH_take (i := 6) (oi := { dst := some 9, op := Op.fieldAddr 79 (Operand.tmp 8) 2, type := 0, pos := _, after := #[{ on := 5, ground := Ground.data }, { on := 0, ground := Ground.phase }, { on := 1, ground := Ground.phase }, { on := 2, ground := Ground.phase }, { on := 3, ground := Ground.phase }, { on := 4, ground := Ground.phase }], guard := none }) (v := ?_) rfl (by kernel_rfl) (by kernel_rfl) (by kernel_rfl) (fun _ _ _ h => h) (Or.inl ⟨by rfl, ?_⟩) (by assumption) ?_
  rotate_left
  · (intro w hSw; obtain ⟨s0, s1, s2, s3, s4, s5, s6, s7, s8⟩ := hSw; (go_simp <;> with_reducible rfl))
  try simp only [Act.put, List.setIfInBounds_toArray, List.set_cons_zero, List.set_cons_succ]
  refine wpAnyH_ready (rs := [7]) (by kernel_rfl) (by simp) ?_
  refine AllReadyH.cons (o := { dst := none, op := Op.store 37 (Operand.tmp 9) (Operand.tmp 7), type := 0, pos := _, after := #[{ on := 6, ground := Ground.data }, { on := 4, ground := Ground.data }, { on := 3, ground := Ground.chain }, { on := 0, ground := Ground.phase }, { on := 1, ground := Ground.phase }, { on := 2, ground := Ground.phase }, { on := 3, ground := Ground.phase }, { on := 4, ground := Ground.phase }], guard := none }) rfl (fun K hK => ?_) AllReadyH.nil
  refine st_wp rfl (wp_store_mid 37 _ _ rfl g1 ((l.length - 1) * 9 + 5) #[.int .i64 r.1, .string r.2.1, .int .i64 r.2.2.1, .int .i64 r.2.2.2] rfl rfl (there_lg HO.out HP.out) (rg_info r) (rg_one r) ?_)
  have hQ := own_inL HO.out HP.out r
  have hGs := G.setCells g1 (#[.int .i64 r.1, .string r.2.1, .int .i64 r.2.2.1, .int .i64 r.2.2.2] : Array Value).toList ((l.length - 1) * 9 + 5) w3
  have hH4 := hH3.grown hGs (fun e => hne (Option.some.inj e))
  have hB4 := hB3.grown hGs (fun e => hnb (Option.some.inj e))
  refine hK.out _ _ ?_ (fun hHeld => ?_)
  · exact ⟨hH4.cell 0, hH4.cell 1, hH4.cell 2, hH4.cell 3, hH4.cell 4, hB4.cell 0, hB4.cell 1, hB4.cell 2, hB4.cell 3⟩
  clear hK K
  try simp only [Act.put, List.setIfInBounds_toArray, List.set_cons_zero, List.set_cons_succ]
  refine wpAnyH_done (by kernel_rfl) ?_ _
  -- @END1
  go_wp2_with fail
  (try simp only [Exit.inBlock, Exit.then])
  refine bodyPost_end (results_none rfl _ _ _) rfl ?_
  exact ⟨rfl, _, hH4, Rd.of_owns hQ, fun k e => by cases e; exact hg1, (GS.of_G hG03).trans (GS.of_Gs hGs (.inr rfl))⟩
set_option maxRecDepth 100000 in
set_option maxHeartbeats 4000000 in
theorem closeR1_c (h : Hh) (l : List Lg) (r : Rg) (b : Nat) (A : World) (hB : Bk A b 37 (rgC r)) (h0 : 0 < l.length) (hn : l.length ≤ 1000) :
    ChFn 99 #[.pointer (some ⟨b, 0, none⟩)] h l h (inL l r) A := by
  intro w1 g base v1 hG hown hH hg hgb hbs
  have hb := hB.lt
  have hB1 := hB.quiet hG
  obtain ⟨g1, cap, cur, rfl, -, hg1⟩ := OwnX.form hown h0
  obtain ⟨p, hp⟩ : ∃ p, l[l.length - 1]? = some p := ⟨_, List.getElem?_eq_getElem (by omega)⟩
  have hne : g ≠ g1 := by omega
  have hnb : b ≠ g1 := by omega
  clear hB
  simp only [hiC, rgC] at hH hB1 ⊢
  go_enter Tryd.func99, Tryd.ntmps99
  have hH2 := hH.quiet ((G.refl w1 none).drew)
  have hB2 := hB1.quiet ((G.refl w1 none).drew)
  have HTH := Lib.hid (there_lg (OwnX.drew hown) hp)
  have hQ := Lib.hid (own_inL (OwnX.drew hown) hp r)
  have hG02 : G w1 w1.drew none := (G.refl w1 none).drew
  obtain ⟨m, hm⟩ : ∃ m, l.length - 1 = m := ⟨_, rfl⟩
  have hw : IntKind.i64.wrap ((l.length : Int) - 1) = (m : Int) := by rw [IntKind.wrap_i64]; omega
  have hlt : m < l.length := by omega
  rw [hm] at HTH hQ
  clear hm hp
  -- @REGION2
  refine wp_region_held_drew (S := (fun w' => w'.cell? ⟨g, 0, none⟩ = some (.string h.1) ∧ w'.cell? ⟨g, 1, none⟩ = some (.string h.2.1) ∧ w'.cell? ⟨g, 2, none⟩ = some (.int .i64 h.2.2.1) ∧ w'.cell? ⟨g, 3, none⟩ = some (.int .i64 h.2.2.2) ∧ w'.cell? ⟨g, 4, none⟩ = some (.slice (some ⟨g1, 0, none⟩) l.length cap) ∧ w'.cell? ⟨b, 0, none⟩ = some (.int .i64 r.1) ∧ w'.cell? ⟨b, 1, none⟩ = some (.string r.2.1) ∧ w'.cell? ⟨b, 2, none⟩ = some (.int .i64 r.2.2.1) ∧ w'.cell? ⟨b, 3, none⟩ = some (.int .i64 r.2.2.2))) (by kernel_rfl) ?_ (fun hHeld => ?_)
  · exact ⟨hH2.cell 0, hH2.cell 1, hH2.cell 2, hH2.cell 3, hH2.cell 4, hB2.cell 0, hB2.cell 1, hB2.cell 2, hB2.cell 3⟩
  refine wpAnyH_take (i := 0) (oi := { dst := some 3, op := Op.move (Operand.tmp 0), type := 134, pos := _, after := #[], guard := none }) (v := ?_) rfl (by kernel_rfl) (by kernel_rfl) (by kernel_rfl) (fun _ _ _ h => h) (Or.inl ⟨by rfl, ?_⟩) (by assumption) ?_
  rotate_left
  · (intro w hSw; obtain ⟨s0, s1, s2, s3, s4, s5, s6, s7, s8⟩ := hSw; (go_simp <;> with_reducible rfl))
  try simp only [Act.put, List.setIfInBounds_toArray, List.set_cons_zero, List.set_cons_succ]
  refine wpAnyH_take (i := 1) (oi := { dst := some 4, op := Op.nilCheck (Operand.tmp 3), type := 0, pos := _, after := #[{ on := 0, ground := Ground.data }], guard := none }) (v := ?_) rfl (by kernel_rfl) (by kernel_rfl) (by kernel_rfl) (fun _ _ _ h => h) (Or.inl ⟨by rfl, ?_⟩) (by assumption) ?_
  rotate_left
  · (intro w hSw; obtain ⟨s0, s1, s2, s3, s4, s5, s6, s7, s8⟩ := hSw; (go_simp <;> with_reducible rfl))
  try simp only [Act.put, List.setIfInBounds_toArray, List.set_cons_zero, List.set_cons_succ]
  refine wpAnyH_take (i := 2) (oi := { dst := some 5, op := Op.fieldAddr 33 (Operand.tmp 4) 3, type := 0, pos := _, after := #[{ on := 1, ground := Ground.data }], guard := none }) (v := ?_) rfl (by kernel_rfl) (by kernel_rfl) (by kernel_rfl) (fun _ _ _ h => h) (Or.inl ⟨by rfl, ?_⟩) (by assumption) ?_
  rotate_left
  · (intro w hSw; obtain ⟨s0, s1, s2, s3, s4, s5, s6, s7, s8⟩ := hSw; (go_simp <;> with_reducible rfl))
  try simp only [Act.put, List.setIfInBounds_toArray, List.set_cons_zero, List.set_cons_succ]
  refine wpAnyH_take (i := 3) (oi := { dst := some 6, op := Op.load 31 (Operand.tmp 5), type := 31, pos := _, after := #[{ on := 2, ground := Ground.data }], guard := none }) (v := ?_) rfl (by kernel_rfl) (by kernel_rfl) (by kernel_rfl) (fun _ _ _ h => h) (Or.inl ⟨by rfl, ?_⟩) (by assumption) ?_
  rotate_left
  · (intro w hSw; obtain ⟨s0, s1, s2, s3, s4, s5, s6, s7, s8⟩ := hSw; (go_simp <;> with_reducible rfl))
  try simp only [Act.put, List.setIfInBounds_toArray, List.set_cons_zero, List.set_cons_succ]
  refine wpAnyH_take (i := 4) (oi := { dst := some 7, op := Op.move (Operand.tmp 0), type := 134, pos := _, after := #[], guard := none }) (v := ?_) rfl (by kernel_rfl) (by kernel_rfl) (by kernel_rfl) (fun _ _ _ h => h) (Or.inl ⟨by rfl, ?_⟩) (by assumption) ?_
  rotate_left
  · (intro w hSw; obtain ⟨s0, s1, s2, s3, s4, s5, s6, s7, s8⟩ := hSw; (go_simp <;> with_reducible rfl))
  try simp only [Act.put, List.setIfInBounds_toArray, List.set_cons_zero, List.set_cons_succ]
  refine wpAnyH_take (i := 5) (oi := { dst := some 8, op := Op.nilCheck (Operand.tmp 7), type := 0, pos := _, after := #[{ on := 4, ground := Ground.data }], guard := none }) (v := ?_) rfl (by kernel_rfl) (by kernel_rfl) (by kernel_rfl) (fun _ _ _ h => h) (Or.inl ⟨by rfl, ?_⟩) (by assumption) ?_
  rotate_left
  · (intro w hSw; obtain ⟨s0, s1, s2, s3, s4, s5, s6, s7, s8⟩ := hSw; (go_simp <;> with_reducible rfl))
  try simp only [Act.put, List.setIfInBounds_toArray, List.set_cons_zero, List.set_cons_succ]
  refine wpAnyH_take (i := 6) (oi := { dst := some 9, op := Op.fieldAddr 33 (Operand.tmp 8) 3, type := 0, pos := _, after := #[{ on := 5, ground := Ground.data }], guard := none }) (v := ?_) rfl (by kernel_rfl) (by kernel_rfl) (by kernel_rfl) (fun _ _ _ h => h) (Or.inl ⟨by rfl, ?_⟩) (by assumption) ?_
  rotate_left
  · (intro w hSw; obtain ⟨s0, s1, s2, s3, s4, s5, s6, s7, s8⟩ := hSw; (go_simp <;> with_reducible rfl))
  try simp only [Act.put, List.setIfInBounds_toArray, List.set_cons_zero, List.set_cons_succ]
  refine wpAnyH_take (i := 7) (oi := { dst := some 10, op := Op.load 31 (Operand.tmp 9), type := 31, pos := _, after := #[{ on := 6, ground := Ground.data }], guard := none }) (v := ?_) rfl (by kernel_rfl) (by kernel_rfl) (by kernel_rfl) (fun _ _ _ h => h) (Or.inl ⟨by rfl, ?_⟩) (by assumption) ?_
  rotate_left
  · (intro w hSw; obtain ⟨s0, s1, s2, s3, s4, s5, s6, s7, s8⟩ := hSw; (go_simp <;> with_reducible rfl))
  try simp only [Act.put, List.setIfInBounds_toArray, List.set_cons_zero, List.set_cons_succ]
  refine wpAnyH_take (i := 8) (oi := { dst := some 11, op := Op.call { callee := Callee.builtin Builtin.len, args := #[Operand.tmp 10], argTypes := #[31] }, type := 3, pos := _, after := #[{ on := 7, ground := Ground.data }], guard := none }) (v := ?_) rfl (by kernel_rfl) (by kernel_rfl) (by kernel_rfl) (fun _ _ _ h => h) (Or.inl ⟨by rfl, ?_⟩) (by assumption) ?_
  rotate_left
  · (intro w hSw; obtain ⟨s0, s1, s2, s3, s4, s5, s6, s7, s8⟩ := hSw; (go_simp <;> with_reducible rfl))
  try simp only [Act.put, List.setIfInBounds_toArray, List.set_cons_zero, List.set_cons_succ]
  refine wpAnyH_take (i := 9) (oi := { dst := some 12, op := Op.binOp BinOp.sub 3 (Operand.tmp 11) (Operand.const (Value.int IntKind.i64 1)) 3, type := 3, pos := _, after := #[{ on := 8, ground := Ground.data }], guard := none }) (v := ?_) rfl (by kernel_rfl) (by kernel_rfl) (by kernel_rfl) (fun _ _ _ h => h) (Or.inl ⟨by rfl, ?_⟩) (by assumption) ?_
  rotate_left
  · (intro w hSw; obtain ⟨s0, s1, s2, s3, s4, s5, s6, s7, s8⟩ := hSw; (go_simp <;> with_reducible rfl))
  try simp only [Act.put, List.setIfInBounds_toArray, List.set_cons_zero, List.set_cons_succ]
  refine wpAnyH_take (i := 10) (oi := { dst := some 13, op := Op.load 37 (Operand.tmp 1), type := 37, pos := _, after := #[], guard := none }) (v := ?_) rfl (by kernel_rfl) (by kernel_rfl) (by kernel_rfl) (fun _ _ _ h => h) (Or.inl ⟨by rfl, ?_⟩) (by assumption) ?_
  rotate_left
  · (intro w hSw; obtain ⟨s0, s1, s2, s3, s4, s5, s6, s7, s8⟩ := hSw; (go_simp <;> with_reducible rfl))
  try simp only [Act.put, List.setIfInBounds_toArray, List.set_cons_zero, List.set_cons_succ]
  refine wpAnyH_take (i := 11) (oi := { dst := some 14, op := Op.indexAddr 31 (Operand.tmp 6) (Operand.tmp 12), type := 0, pos := _, after := #[{ on := 3, ground := Ground.data }, { on := 9, ground := Ground.data }, { on := 0, ground := Ground.phase }, { on := 1, ground := Ground.phase }, { on := 2, ground := Ground.phase }, { on := 3, ground := Ground.phase }, { on := 4, ground := Ground.phase }, { on := 5, ground := Ground.phase }, { on := 6, ground := Ground.phase }, { on := 7, ground := Ground.phase }, { on := 8, ground := Ground.phase }, { on := 9, ground := Ground.phase }, { on := 10, ground := Ground.phase }], guard := none }) (v := ?_) rfl (by kernel_rfl) (by kernel_rfl) (by kernel_rfl) (fun _ _ _ h => h) (Or.inl ⟨by rfl, ?_⟩) (by assumption) ?_
  rotate_left
  · (intro w hSw; obtain ⟨s0, s1, s2, s3, s4, s5, s6, s7, s8⟩ := hSw; (go_simp <;> with_reducible rfl))
  try simp only [Act.put, List.setIfInBounds_toArray, List.set_cons_zero, List.set_cons_succ]
  refine wpAnyH_take (i := 12) (oi := { dst := some 15, op := Op.fieldAddr 79 (Operand.tmp 14) 2, type := 0, pos := _, after := #[{ on := 11, ground := Ground.data }, { on := 0, ground := Ground.phase }, { on := 1, ground := Ground.phase }, { on := 2, ground := Ground.phase }, { on := 3, ground := Ground.phase }, { on := 4, ground := Ground.phase }, { on := 5, ground := Ground.phase }, { on := 6, ground := Ground.phase }, { on := 7, ground := Ground.phase }, { on := 8, ground := Ground.phase }, { on := 9, ground := Ground.phase }, { on := 10, ground := Ground.phase }], guard := none }) (v := ?_) rfl (by kernel_rfl) (by kernel_rfl) (by kernel_rfl) (fun _ _ _ h => h) (Or.inl ⟨by rfl, ?_⟩) (by assumption) ?_
  rotate_left
  · (intro w hSw; obtain ⟨s0, s1, s2, s3, s4, s5, s6, s7, s8⟩ := hSw; (go_simp <;> with_reducible rfl))
  try simp only [Act.put, List.setIfInBounds_toArray, List.set_cons_zero, List.set_cons_succ]
  refine wpAnyH_ready (rs := [13]) (by kernel_rfl) (by simp) ?_
  refine AllReadyH.cons (o := { dst := none, op := Op.store 37 (Operand.tmp 15) (Operand.tmp 13), type := 0, pos := _, after := #[{ on := 12, ground := Ground.data }, { on := 10, ground := Ground.data }, { on := 0, ground := Ground.phase }, { on := 1, ground := Ground.phase }, { on := 2, ground := Ground.phase }, { on := 3, ground := Ground.phase }, { on := 4, ground := Ground.phase }, { on := 5, ground := Ground.phase }, { on := 6, ground := Ground.phase }, { on := 7, ground := Ground.phase }, { on := 8, ground := Ground.phase }, { on := 9, ground := Ground.phase }, { on := 10, ground := Ground.phase }], guard := none }) rfl (fun K hK => ?_) AllReadyH.nil
  refine st_wp rfl (wp_store_mid 37 _ _ rfl g1 (m * 9 + 5) #[.int .i64 r.1, .string r.2.1, .int .i64 r.2.2.1, .int .i64 r.2.2.2] rfl rfl (HTH.out) (rg_info r) (rg_one r) ?_)
  have hGs := G.setCells g1 (#[.int .i64 r.1, .string r.2.1, .int .i64 r.2.2.1, .int .i64 r.2.2.2] : Array Value).toList (m * 9 + 5) w1.drew
  have hH4 := hH2.grown hGs (fun e => hne (Option.some.inj e))
  have hB4 := hB2.grown hGs (fun e => hnb (Option.some.inj e))
  refine hK.out _ _ ?_ (fun hHeld => ?_)
  · exact ⟨hH4.cell 0, hH4.cell 1, hH4.cell 2, hH4.cell 3, hH4.cell 4, hB4.cell 0, hB4.cell 1, hB4.cell 2, hB4.cell 3⟩
  clear hK K
  try simp only [Act.put, List.setIfInBounds_toArray, List.set_cons_zero, List.set_cons_succ]
  refine wpAnyH_done (by kernel_rfl) ?_ _
  -- @END2
  go_wp2_with fail
  (try simp only [Exit.inBlock, Exit.then])
  refine bodyPost_end (results_none rfl _ _ _) rfl ?_
  exact ⟨rfl, _, hH4, Rd.of_owns hQ.out, fun k e => by cases e; exact hg1, (GS.of_G hG02).trans (GS.of_Gs hGs (.inr rfl))⟩
end Go.Proofs.YtdcofbciebkfkaaDoor

/- A region that draws its order, told operation by operation: each one's value is told once, whatever the order. No program. -/
namespace Go.Proofs.YtdcofbciebkfkaaDoor
open Go.RowKit

/-- What an operation left. -/
def valOf (a : Act) (o : Oper) : Value := match o.dst with | some d => a.tmps.getD d undef | none => undef
/-- Values put where the operations put theirs. -/
def putAll (f : Nat → Value) : Nat → List Oper → Act → Act
  | _, [], a => a
  | i, o :: r, a => putAll f (i + 1) r (a.put o.dst (f i))
def dstsOf (l : List Oper) : List Nat := l.filterMap (·.dst)
/-- No guards; who is waited for stands ahead; each writes a slot of its own, that there is. -/
def stepsB (md : Region.Mode) (l : List Oper) (n : Nat) : Bool :=
  (l.zipIdx.all fun p => p.1.guard.isNone && (p.1.after.all fun e => !Region.binds md e || decide (e.on < p.2)) && (match p.1.dst with | some d => decide (d < n) | none => true)) && decide (dstsOf l).Nodup
/-- Is number j waited for by o? -/
def predB (md : Region.Mode) (o : Oper) (j : Nat) : Bool := o.after.any fun e => Region.binds md e && e.on == j
def Same (ops : List Oper) (a0 a : Act) : Prop := a.defers = a0.defers ∧ a.tmps.size = a0.tmps.size ∧ ∀ d, d ∉ dstsOf ops → a.tmps.getD d undef = a0.tmps.getD d undef
theorem put_defers (a : Act) (d : Option Tmp) (v : Value) : (a.put d v).defers = a.defers := by cases d <;> rfl
theorem put_size (a : Act) (d : Option Tmp) (v : Value) : (a.put d v).tmps.size = a.tmps.size := by cases d <;> simp [Act.put]
theorem put_getD_ne (a : Act) (d : Option Tmp) (v : Value) (k : Nat) (h : d ≠ some k) : (a.put d v).tmps.getD k undef = a.tmps.getD k undef := by
  cases d with
  | none => rfl
  | some d =>
    have : d ≠ k := fun e => h (by rw [e])
    simp [Act.put, this]
theorem put_getD (a : Act) (d : Nat) (v : Value) (h : d < a.tmps.size) : (a.put (some d) v).tmps.getD d undef = v := by
  simp [Act.put, h]
section
variable {P : Program} {Q : Exit → Act → World → Prop} {md : Region.Mode}
/-- What an operation is asked for. -/
def StepOk (P : Program) (md : Region.Mode) (Q : Exit → Act → World → Prop) (ops : List Oper) (a0 : Act) (J : Nat → World → Prop) (V : Nat → Value → World → Prop) (Kp : World → World → Prop) (i : Nat) (o : Oper) : Prop :=
  ∀ n a w, J n w → Same ops a0 a → (∀ j oj, predB md o j = true → ops[j]? = some oj → V j (valOf a oj) w) → ∀ K : Act → World → Prop, (∀ v w', (o.dst = none → v = undef) → V i v w' → J (n + 1) w' → Kp w w' → K (a.put o.dst v) w') → Oper.wp P o a w K Q
def AllOk (P : Program) (md : Region.Mode) (Q : Exit → Act → World → Prop) (ops : List Oper) (a0 : Act) (J : Nat → World → Prop) (V : Nat → Value → World → Prop) (Kp : World → World → Prop) : Nat → List Oper → Prop
  | _, [] => True
  | i, o :: r => StepOk P md Q ops a0 J V Kp i o ∧ AllOk P md Q ops a0 J V Kp (i + 1) r
theorem allOk_at {ops : List Oper} {a0 : Act} {J : Nat → World → Prop} {V : Nat → Value → World → Prop} {Kp : World → World → Prop} : ∀ (l : List Oper) (b : Nat), AllOk P md Q ops a0 J V Kp b l → ∀ (i : Nat) (o : Oper), l[i]? = some o → StepOk P md Q ops a0 J V Kp (b + i) o
  | [], _, _, i, o, h => by simp at h
  | x :: r, b, hA, i, o, h => by
    cases i with
    | zero => obtain rfl : x = o := by simpa using h
              exact hA.1
    | succ i =>
      have := allOk_at r (b + 1) hA.2 i o (by simpa using h)
      rwa [show b + 1 + i = b + (i + 1) by omega] at this
theorem dst_mem {l : List Oper} {i : Nat} {o : Oper} {d : Nat} (h : l[i]? = some o) (hd : o.dst = some d) : d ∈ dstsOf l :=
  List.mem_filterMap.2 ⟨o, List.mem_of_getElem? h, hd⟩
theorem dst_inj : ∀ {l : List Oper}, (dstsOf l).Nodup → ∀ {i j : Nat} {o p : Oper} {d : Nat}, l[i]? = some o → l[j]? = some p → o.dst = some d → p.dst = some d → i = j
  | [], _, i, _, _, _, _, h, _, _, _ => by simp at h
  | x :: r, hn, i, j, o, p, d, hi, hj, ho, hp => by
    have hr : (dstsOf r).Nodup := by
      unfold dstsOf at hn ⊢
      rw [List.filterMap_cons] at hn
      split at hn
      · exact hn
      · exact (List.nodup_cons.1 hn).2
    have hx : ∀ {k : Nat} {q : Oper}, x.dst = some d → r[k]? = some q → q.dst = some d → False := fun {k q} h1 h2 h3 => by
      unfold dstsOf at hn
      rw [List.filterMap_cons, h1] at hn
      exact (List.nodup_cons.1 hn).1 (dst_mem h2 h3)
    cases i with
    | zero =>
      obtain rfl : x = o := by simpa using hi
      cases j with
      | zero => rfl
      | succ j => exact (hx ho (by simpa using hj) hp).elim
    | succ i =>
      cases j with
      | zero =>
        obtain rfl : x = p := by simpa using hj
        exact (hx hp (by simpa using hi) ho).elim
      | succ j => exact congrArg (· + 1) (dst_inj hr (i := i) (j := j) (by simpa using hi) (by simpa using hj) ho hp)
theorem putAll_same (f : Nat → Value) : ∀ (l : List Oper) (i : Nat) (a : Act), (putAll f i l a).defers = a.defers ∧ (putAll f i l a).tmps.size = a.tmps.size ∧ ∀ d, d ∉ dstsOf l → (putAll f i l a).tmps.getD d undef = a.tmps.getD d undef
  | [], _, a => ⟨rfl, rfl, fun _ _ => rfl⟩
  | o :: r, i, a => by
    obtain ⟨h1, h2, h3⟩ := putAll_same f r (i + 1) (a.put o.dst (f i))
    refine ⟨h1.trans (put_defers _ _ _), h2.trans (put_size _ _ _), fun d hd => ?_⟩
    have hd2 : d ∉ dstsOf r := fun h => hd (by
      unfold dstsOf at h ⊢
      rw [List.filterMap_cons]
      split
      · exact h
      · exact List.mem_cons_of_mem _ h)
    refine (h3 d hd2).trans (put_getD_ne _ _ _ _ fun e => hd ?_)
    unfold dstsOf
    rw [List.filterMap_cons, e]
    exact List.mem_cons_self ..
theorem putAll_at (f : Nat → Value) : ∀ (l : List Oper) (b : Nat) (a : Act), (dstsOf l).Nodup → (∀ d ∈ dstsOf l, d < a.tmps.size) → ∀ (i : Nat) (o : Oper) (d : Nat), l[i]? = some o → o.dst = some d → (putAll f b l a).tmps.getD d undef = f (b + i)
  | [], _, _, _, _, i, o, d, h, _ => by simp at h
  | x :: r, b, a, hn, hlt, i, o, d, h, hd => by
    have hr : (dstsOf r).Nodup := by
      unfold dstsOf at hn ⊢
      rw [List.filterMap_cons] at hn
      split at hn
      · exact hn
      · exact (List.nodup_cons.1 hn).2
    have hltr : ∀ d ∈ dstsOf r, d < (a.put x.dst (f b)).tmps.size := fun d hd => by
      rw [put_size]
      refine hlt d ?_
      unfold dstsOf at hd ⊢
      rw [List.filterMap_cons]
      split
      · exact hd
      · exact List.mem_cons_of_mem _ hd
    cases i with
    | zero =>
      obtain rfl : x = o := by simpa using h
      have hnd : d ∉ dstsOf r := fun hm => by
        unfold dstsOf at hn
        rw [List.filterMap_cons, hd] at hn
        exact (List.nodup_cons.1 hn).1 hm
      show (putAll f (b + 1) r (a.put x.dst (f b))).tmps.getD d undef = f b
      rw [(putAll_same f r (b + 1) _).2.2 d hnd, hd]
      exact put_getD _ _ _ (hlt d (dst_mem (l := x :: r) (i := 0) rfl hd))
    | succ i =>
      have := putAll_at f r (b + 1) (a.put x.dst (f b)) hr hltr i o d (by simpa using h) hd
      rw [show b + 1 + i = b + (i + 1) by omega] at this
      exact this
theorem act_ext {a b : Act} (h1 : a.defers = b.defers) (h2 : a.tmps.size = b.tmps.size) (h3 : ∀ d, a.tmps.getD d undef = b.tmps.getD d undef) : a = b := by
  obtain ⟨t, d⟩ := a
  obtain ⟨t', d'⟩ := b
  dsimp only at h1 h2 h3
  subst h1
  congr 1
  apply Array.ext h2
  intro i hi hj
  have := h3 i
  simpa [hi, hj] using this
theorem act_putAll {ops : List Oper} {a0 a : Act} (hn : (dstsOf ops).Nodup) (hlt : ∀ d ∈ dstsOf ops, d < a0.tmps.size) (h : Same ops a0 a) : a = putAll (fun i => match ops[i]? with | some o => valOf a o | none => undef) 0 ops a0 := by
  obtain ⟨h1, h2, h3⟩ := h
  obtain ⟨k1, k2, k3⟩ := putAll_same (fun i => match ops[i]? with | some o => valOf a o | none => undef) ops 0 a0
  refine act_ext (h1.trans k1.symm) (h2.trans k2.symm) fun d => ?_
  by_cases hd : d ∈ dstsOf ops
  · obtain ⟨o, ho, hod⟩ := List.mem_filterMap.1 hd
    obtain ⟨i, hi⟩ := List.getElem?_of_mem ho
    rw [putAll_at _ ops 0 a0 hn hlt i o d hi hod, Nat.zero_add]
    simp only [hi]
    unfold valOf
    rw [hod]
  · rw [h3 d hd, k3 d hd]
theorem count_set (listed : Array Bool) (i : Nat) (h : listed.getD i true = false) : (listed.setIfInBounds i true).toList.countP (fun b => !b) + 1 = listed.toList.countP (fun b => !b) := by
  have hi : i < listed.size := by
    rcases Nat.lt_or_ge i listed.size with h' | h'
    · exact h'
    · simp [Array.getElem?_eq_none h'] at h
  have hv : listed[i] = false := by simpa [hi] using h
  rw [Array.toList_setIfInBounds, List.countP_set (by simpa using hi)]
  have hp : 0 < listed.toList.countP (fun b => !b) := List.countP_pos_iff.2 ⟨listed[i], by simp, by simp [hv]⟩
  have e : listed.toList[i]'(by simpa using hi) = false := by simpa using hv
  rw [e]
  simp only [Bool.not_false, Bool.not_true, if_true, Bool.false_eq_true, if_false]
  omega
/-- The law. -/
theorem wpAny_steps {l : List Oper} {a0 : Act} (J : Nat → World → Prop) (V : Nat → Value → World → Prop) (Kp : World → World → Prop) (n : Nat) (hn : a0.tmps.size = n) (hB : stepsB md l n = true)
    (keep : ∀ i v w w', Kp w w' → V i v w → V i v w') (step : AllOk P md Q l a0 J V Kp 0 l)
    (fin : ∀ (f : Nat → Value) w, J l.length w → (∀ i, i < l.length → V i (f i) w) → Q .normal (putAll f 0 l a0) w) :
    ∀ (fuel : Nat) (listed : Array Bool) (a : Act) (w : World), listed.size = l.length → listed.toList.countP (fun b => !b) = fuel → Same l a0 a → J (l.length - fuel) w → (∀ i o, l[i]? = some o → listed.getD i true = true → V i (valOf a o) w) → wpAny P md l.toArray Q fuel listed a w := by
  unfold stepsB at hB
  rw [Bool.and_eq_true, decide_eq_true_iff, List.all_eq_true] at hB
  obtain ⟨hB1, hnd⟩ := hB
  have hat : ∀ (i : Nat) (o : Oper), l[i]? = some o → o.guard = none ∧ (∀ e ∈ o.after, Region.binds md e = true → e.on < i) ∧ ∀ d, o.dst = some d → d < n := fun i o h => by
    have := hB1 (o, i) (List.mem_zipIdx_iff_getElem?.2 (by simpa using h))
    simp only [Bool.and_eq_true, Array.all_eq_true', Bool.or_eq_true, Bool.not_eq_true', decide_eq_true_eq] at this
    obtain ⟨⟨h1, h2⟩, h3⟩ := this
    refine ⟨Option.isNone_iff_eq_none.1 h1, fun e he hb => ?_, fun d hd => ?_⟩
    · rcases h2 e he with h | h
      · rw [hb] at h; cases h
      · exact h
    · rw [hd] at h3
      simpa using h3
  have hlt : ∀ d ∈ dstsOf l, d < a0.tmps.size := fun d hd => by
    obtain ⟨o, ho, hod⟩ := List.mem_filterMap.1 hd
    obtain ⟨i, hi⟩ := List.getElem?_of_mem ho
    rw [hn]
    exact (hat i o hi).2.2 d hod
  have done : ∀ (listed : Array Bool) (a : Act) (w : World), listed.size = l.length → (∀ i, i < l.length → listed.getD i true = true) → Same l a0 a → J l.length w → (∀ i o, l[i]? = some o → listed.getD i true = true → V i (valOf a o) w) → Q .normal a w := by
    intro listed a w hs hall hsame hJ hV
    rw [act_putAll hnd hlt hsame]
    refine fin _ w hJ fun i hi => ?_
    have hg : l[i]? = some l[i] := List.getElem?_eq_getElem hi
    rw [hg]
    exact hV i _ hg (hall i hi)
  have alls : ∀ (listed : Array Bool), Region.ready md l.toArray listed = [] → ∀ i, i < l.length → listed.getD i true = true := by
    intro listed hr i
    induction i using Nat.strongRecOn with
    | ind i ih =>
      intro hi
      cases hb : listed.getD i true with
      | true => rfl
      | false =>
        exfalso
        have hg : l[i]? = some l[i] := List.getElem?_eq_getElem hi
        have hm : i ∈ Region.ready md l.toArray listed := mem_ready.2 ⟨hb, l[i], by simp, fun e he hbd => by
          have hlt := (hat i _ hg).2.1 e he hbd
          have h1 := ih e.on hlt (by omega)
          have h2 : i < listed.size := by
            rcases Nat.lt_or_ge i listed.size with h' | h'
            · exact h'
            · simp [Array.getElem?_eq_none h'] at hb
          have h3 : e.on < listed.size := by omega
          simpa [h3] using h1⟩
        rw [hr] at hm
        cases hm
  intro fuel
  induction fuel with
  | zero =>
    intro listed a w hs hc hsame hJ hV
    have hall : ∀ i, i < l.length → listed.getD i true = true := fun i hi => by
      cases hb : listed.getD i true with
      | true => rfl
      | false => have := count_set listed i hb; omega
    refine ⟨?_, done listed a w hs hall hsame hJ hV⟩
    refine List.eq_nil_iff_forall_not_mem.2 fun i hi => ?_
    obtain ⟨h1, o, h2, _⟩ := mem_ready.1 hi
    have h3 : i < l.length := by
      have := (Array.getElem?_eq_some_iff.1 h2).1
      simpa using this
    rw [hall i h3] at h1
    cases h1
  | succ fuel ih =>
    intro listed a w hs hc hsame hJ hV
    have hcl : listed.toList.countP (fun b => !b) ≤ l.length := by
      have := List.countP_le_length (p := fun b => !b) (l := listed.toList)
      simpa [hs] using this
    refine ⟨fun hr => ?_, fun i hi => ?_⟩
    · have hall := alls listed hr
      exfalso
      have h0 : listed.toList.countP (fun b => !b) = 0 := List.countP_eq_zero.2 fun b hb => by
        obtain ⟨k, hk, rfl⟩ := List.getElem_of_mem hb
        have hk' : k < listed.size := by simpa using hk
        have := hall k (by omega)
        simp [hk'] at this
        simp [this]
      omega
    · obtain ⟨hun, o, ho, hafter⟩ := mem_ready.1 hi
      have hol : l[i]? = some o := by simpa using ho
      obtain ⟨hg, hord, hd⟩ := hat i o hol
      have hil : i < listed.size := by
        rcases Nat.lt_or_ge i listed.size with h' | h'
        · exact h'
        · simp [Array.getElem?_eq_none h'] at hun
      refine wpOp_step ho fun K' hK => ?_
      rw [if_pos (by simp [Region.wanted, hg])]
      have hst := allOk_at l 0 step i o hol
      rw [Nat.zero_add] at hst
      refine hst (l.length - (fuel + 1)) a w hJ hsame (fun j oj hp hj => ?_) K' (fun v w' hvu hv hJ' hkp => hK _ _ ?_)
      · unfold predB at hp
        rw [Array.any_eq_true'] at hp
        obtain ⟨e, he, h2⟩ := hp
        rw [Bool.and_eq_true, beq_iff_eq] at h2
        obtain ⟨h2, rfl⟩ := h2
        refine hV e.on oj hj ?_
        have h3 := hafter e he h2
        have h4 : e.on < listed.size := by have := hord e he h2; omega
        simpa [h4] using h3
      · refine ih (listed.setIfInBounds i true) (a.put o.dst v) w' (by simpa using hs) (by have := count_set listed i hun; omega) ?_ ?_ ?_
        · obtain ⟨s1, s2, s3⟩ := hsame
          refine ⟨(put_defers _ _ _).trans s1, (put_size _ _ _).trans s2, fun d hdn => ?_⟩
          rw [put_getD_ne _ _ _ _ (fun e => hdn (dst_mem hol e))]
          exact s3 d hdn
        · rw [show l.length - fuel = l.length - (fuel + 1) + 1 by omega]
          exact hJ'
        · intro j oj hj hl
          by_cases hij : i = j
          · subst hij
            rw [hol] at hj
            obtain rfl := Option.some.inj hj
            cases hod : o.dst with
            | none =>
              have : valOf (a.put none v) o = undef := by unfold valOf; rw [hod]
              rw [this, ← hvu hod]
              exact hv
            | some d =>
              have : valOf (a.put (some d) v) o = v := by
                unfold valOf
                rw [hod]
                exact put_getD a d v (by rw [hsame.2.1, hn]; exact hd d hod)
              rw [this]
              exact hv
          · rw [getD_set_ne true hij] at hl
            have hold := keep j _ w w' hkp (hV j oj hj hl)
            have : valOf (a.put o.dst v) oj = valOf a oj := by
              unfold valOf
              cases hod : oj.dst with
              | none => rfl
              | some d =>
                exact put_getD_ne _ _ _ _ fun e => hij (dst_inj hnd hol hj e hod)
            rw [this]
            exact hold
end
end Go.Proofs.YtdcofbciebkfkaaDoor

/- Hires: Start, StartOf. -/
namespace Go.Proofs.YtdcofbciebkfkaaDoor
open Go.RowKit

theorem RdR.oneLg {w : World} {g : Nat} {b : Lg} (h : Bk w g 79 (lgC b)) : RdR w 9 lgC (.slice (some ⟨g, 0, none⟩) 1 1) [b] := h.rd 9 1 rfl (by omega)
theorem openLeg_l (s : ByteArray) (r : Rg) (w : World) : Calls Tryd.prog 90 #[.string s, .agg #[.int .i64 r.1, .string r.2.1, .int .i64 r.2.2.1, .int .i64 r.2.2.2]] w fun e w' => e = .returned (.agg #[.string s, .int .i64 r.1, .string r.2.1, .int .i64 r.2.2.1, .int .i64 r.2.2.2, .int .i64 (-1), .string ⟨#[]⟩, .int .i64 0, .int .i64 0]) ∧ G w w' none := openLeg_c s r w
set_option maxRecDepth 100000 in
set_option maxHeartbeats 4000000 in
theorem start_c (h : Hh) (s : ByteArray) (r : Rg) (w : World) (hs : Small s) (hsr : Small r.2.1) (hs1 : Small h.1) (hs2 : Small h.2.1) (hb1 : bnd h.2.2.1) (hb2 : bnd h.2.2.2) :
    Calls Tryd.prog 21 #[.string h.1, .string h.2.1, .agg #[.int .i64 h.2.2.1, .int .i64 h.2.2.2], .string s, .agg (rgC r)] w
      (MadePost h [(s, r, noIn)] (fun k => w.heap.size ≤ k) w) := by
  have hb0 : LgOk [(s, r, noIn)] := fun x hx => by
    obtain rfl := List.mem_singleton.1 hx
    exact ⟨hs, hsr, by show Small ⟨#[]⟩; unfold Small; decide⟩
  have hWi := ((Bk.new w 30 #[.int .i64 h.2.2.1, .int .i64 h.2.2.2]).alloc (.cells (rgC r) 37)).alloc (.cells hiZ 33)
  have hRe := (Bk.newAt (w := w.alloc (.cells #[.int .i64 h.2.2.1, .int .i64 h.2.2.2] 30)) (b := w.heap.size + 1) (by simp) 37 (rgC r)).alloc (.cells hiZ 33)
  have hZ := Bk.newAt (w := (w.alloc (.cells #[.int .i64 h.2.2.1, .int .i64 h.2.2.2] 30)).alloc (.cells (rgC r) 37)) (b := w.heap.size + 2) (by simp) 33 hiZ
  have hG := (((G.refl w none).alloc (.cells #[.int .i64 h.2.2.1, .int .i64 h.2.2.2] 30)).alloc (.cells (rgC r) 37)).alloc (.cells hiZ 33)
  simp only [rgC, hiZ, hiC] at hWi hRe hZ hG ⊢
  go_enter Tryd.func21, Tryd.ntmps21
  go_upto_region 1 with fail
  generalize ((w.alloc (.cells #[.int .i64 h.2.2.1, .int .i64 h.2.2.2] 30)).alloc (.cells #[.int .i64 r.1, .string r.2.1, .int .i64 r.2.2.1, .int .i64 r.2.2.2] 37)).alloc (.cells #[.string ⟨#[]⟩, .string ⟨#[]⟩, .int .i64 0, .int .i64 0, .slice none 0 0] 33) = w2 at hWi hRe hZ hG ⊢
  -- @REGION
  have hWi3 := hWi.quiet ((G.refl w2 none).drew)
  have hRe3 := hRe.quiet ((G.refl w2 none).drew)
  have hZ3 := hZ.quiet ((G.refl w2 none).drew)
  have hG3 := hG.drew
  clear hWi hRe hZ hG
  refine wp_region_held_drew (S := (fun w' => w'.cell? ⟨w.heap.size, 0, none⟩ = some (.int .i64 h.2.2.1) ∧ w'.cell? ⟨w.heap.size, 1, none⟩ = some (.int .i64 h.2.2.2) ∧ w'.cell? ⟨w.heap.size + 1, 0, none⟩ = some (.int .i64 r.1) ∧ w'.cell? ⟨w.heap.size + 1, 1, none⟩ = some (.string r.2.1) ∧ w'.cell? ⟨w.heap.size + 1, 2, none⟩ = some (.int .i64 r.2.2.1) ∧ w'.cell? ⟨w.heap.size + 1, 3, none⟩ = some (.int .i64 r.2.2.2))) (by kernel_rfl) ?_ (fun hHeld => ?_)
  · exact ⟨hWi3.cell 0, hWi3.cell 1, hRe3.cell 0, hRe3.cell 1, hRe3.cell 2, hRe3.cell 3⟩
  refine wpAnyH_take (i := 0) (oi := { dst := some 12, op := Op.move (Operand.tmp 0), type := 9, pos := _, after := #[], guard := none }) (v := ?_) rfl (by kernel_rfl) (by kernel_rfl) (by kernel_rfl) (fun _ _ _ h => h) (Or.inl ⟨by rfl, ?_⟩) (by assumption) ?_
  rotate_left
  · (intro w hSw; obtain ⟨s0, s1, s2, s3, s4, s5⟩ := hSw; (go_simp <;> with_reducible rfl))
  try simp only [Act.put, List.setIfInBounds_toArray, List.set_cons_zero, List.set_cons_succ]
  refine wpAnyH_take (i := 1) (oi := { dst := some 13, op := Op.move (Operand.tmp 1), type := 9, pos := _, after := #[], guard := none }) (v := ?_) rfl (by kernel_rfl) (by kernel_rfl) (by kernel_rfl) (fun _ _ _ h => h) (Or.inl ⟨by rfl, ?_⟩) (by assumption) ?_
  rotate_left
  · (intro w hSw; obtain ⟨s0, s1, s2, s3, s4, s5⟩ := hSw; (go_simp <;> with_reducible rfl))
  try simp only [Act.put, List.setIfInBounds_toArray, List.set_cons_zero, List.set_cons_succ]
  refine wpAnyH_take (i := 2) (oi := { dst := some 14, op := Op.load 30 (Operand.tmp 7), type := 30, pos := _, after := #[], guard := none }) (v := ?_) rfl (by kernel_rfl) (by kernel_rfl) (by kernel_rfl) (fun _ _ _ h => h) (Or.inl ⟨by rfl, ?_⟩) (by assumption) ?_
  rotate_left
  · (intro w hSw; obtain ⟨s0, s1, s2, s3, s4, s5⟩ := hSw; (go_simp <;> with_reducible rfl))
  try simp only [Act.put, List.setIfInBounds_toArray, List.set_cons_zero, List.set_cons_succ]
  refine wpAnyH_take (i := 3) (oi := { dst := some 15, op := Op.move (Operand.tmp 3), type := 9, pos := _, after := #[], guard := none }) (v := ?_) rfl (by kernel_rfl) (by kernel_rfl) (by kernel_rfl) (fun _ _ _ h => h) (Or.inl ⟨by rfl, ?_⟩) (by assumption) ?_
  rotate_left
  · (intro w hSw; obtain ⟨s0, s1, s2, s3, s4, s5⟩ := hSw; (go_simp <;> with_reducible rfl))
  try simp only [Act.put, List.setIfInBounds_toArray, List.set_cons_zero, List.set_cons_succ]
  refine wpAnyH_take (i := 4) (oi := { dst := some 16, op := Op.load 37 (Operand.tmp 9), type := 37, pos := _, after := #[], guard := none }) (v := ?_) rfl (by kernel_rfl) (by kernel_rfl) (by kernel_rfl) (fun _ _ _ h => h) (Or.inl ⟨by rfl, ?_⟩) (by assumption) ?_
  rotate_left
  · (intro w hSw; obtain ⟨s0, s1, s2, s3, s4, s5⟩ := hSw; (go_simp <;> with_reducible rfl))
  try simp only [Act.put, List.setIfInBounds_toArray, List.set_cons_zero, List.set_cons_succ]
  refine wpAnyH_ready (rs := [5]) (by kernel_rfl) (by simp) ?_
  refine AllReadyH.cons (o := { dst := some 17, op := Op.call { callee := Callee.value (Operand.func 90), args := #[Operand.tmp 15, Operand.tmp 16], argTypes := #[9, 37] }, type := 79, pos := _, after := #[{ on := 3, ground := Ground.data }, { on := 4, ground := Ground.data }], guard := none }) rfl (fun K hK => ?_) AllReadyH.nil
  go_simp
  refine (openLeg_l s r _).mono ?_
  rintro e w4 ⟨rfl, hH⟩
  have hWi4 := hWi3.quiet hH
  have hRe4 := hRe3.quiet hH
  have hZ4 := hZ3.quiet hH
  have hG4 := hG3.trans hH
  clear hH
  refine hK.out _ _ ?_ (fun hHeld => ?_)
  · exact ⟨hWi4.cell 0, hWi4.cell 1, hRe4.cell 0, hRe4.cell 1, hRe4.cell 2, hRe4.cell 3⟩
  clear hK K
  try simp only [Act.put, List.setIfInBounds_toArray, List.set_cons_zero, List.set_cons_succ]
  refine wpAnyH_ready (rs := [6]) (by kernel_rfl) (by simp) ?_
  refine AllReadyH.cons (o := { dst := some 18, op := Op.buildSlice 31 1 #[(0, Operand.tmp 17)], type := 31, pos := _, after := #[{ on := 5, ground := Ground.data }], guard := none }) rfl (fun K hK => ?_) AllReadyH.nil
  go_simp
  have hH := (G.refl w4 none).alloc (.cells #[.string s, .int .i64 r.1, .string r.2.1, .int .i64 r.2.2.1, .int .i64 r.2.2.2, .int .i64 (-1), .string ⟨#[]⟩, .int .i64 0, .int .i64 0] 79)
  have hWi5 := hWi4.quiet hH
  have hRe5 := hRe4.quiet hH
  have hZ5 := hZ4.quiet hH
  have hG5 := hG4.trans hH
  clear hH
  refine hK.out _ _ ?_ (fun hHeld => ?_)
  · exact ⟨hWi5.cell 0, hWi5.cell 1, hRe5.cell 0, hRe5.cell 1, hRe5.cell 2, hRe5.cell 3⟩
  clear hK K
  try simp only [Act.put, List.setIfInBounds_toArray, List.set_cons_zero, List.set_cons_succ]
  refine wpAnyH_take (i := 7) (oi := { dst := some 19, op := Op.build 33 #[(0, Operand.tmp 12), (1, Operand.tmp 13), (2, Operand.tmp 14), (3, Operand.tmp 18)], type := 33, pos := _, after := #[{ on := 0, ground := Ground.data }, { on := 1, ground := Ground.data }, { on := 2, ground := Ground.data }, { on := 6, ground := Ground.data }], guard := none }) (v := ?_) rfl (by kernel_rfl) (by kernel_rfl) (by kernel_rfl) (fun _ _ _ h => h) (Or.inl ⟨by rfl, ?_⟩) (by assumption) ?_
  rotate_left
  · (intro w hSw; obtain ⟨s0, s1, s2, s3, s4, s5⟩ := hSw; (go_simp <;> with_reducible rfl))
  try simp only [Act.put, List.setIfInBounds_toArray, List.set_cons_zero, List.set_cons_succ]
  refine wpAnyH_ready (rs := [8]) (by kernel_rfl) (by simp) ?_
  refine AllReadyH.cons (o := { dst := some 20, op := Op.call { callee := Callee.value (Operand.func 89), args := #[Operand.tmp 19], argTypes := #[33] }, type := 45, pos := _, after := #[{ on := 7, ground := Ground.data }, { on := 5, ground := Ground.chain }], guard := none }) rfl (fun K hK => ?_) AllReadyH.nil
  go_simp
  refine (right_c h (.slice (some ⟨w4.heap.size, 0, none⟩) 1 1) [(s, r, noIn)] _ (RdR.oneLg (b := (s, r, noIn)) (Bk.new w4 _ _)) hb0 hs1 hs2 hb1 hb2 (by simp)).mono ?_
  rintro e w6 ⟨H, a, n, c, rfl, hHH, hBB, hR6, hH⟩
  have HHH := Lib.hid hHH
  have HBB := Lib.hid hBB
  clear hHH hBB
  have hWi6 := hWi5.quiet hH
  have hRe6 := hRe5.quiet hH
  have hZ6 := hZ5.quiet hH
  have hG6 := hG5.trans hH
  clear hH
  refine hK.out _ _ ?_ (fun hHeld => ?_)
  · exact ⟨hWi6.cell 0, hWi6.cell 1, hRe6.cell 0, hRe6.cell 1, hRe6.cell 2, hRe6.cell 3⟩
  clear hK K
  try simp only [Act.put, List.setIfInBounds_toArray, List.set_cons_zero, List.set_cons_succ]
  refine wpAnyH_take (i := 9) (oi := { dst := some 21, op := Op.extract (Operand.tmp 20) 0, type := 33, pos := _, after := #[{ on := 8, ground := Ground.data }], guard := none }) (v := ?_) rfl (by kernel_rfl) (by kernel_rfl) (by kernel_rfl) (fun _ _ _ h => h) (Or.inl ⟨by rfl, ?_⟩) (by assumption) ?_
  rotate_left
  · (intro w hSw; obtain ⟨s0, s1, s2, s3, s4, s5⟩ := hSw; (go_simp <;> with_reducible rfl))
  try simp only [Act.put, List.setIfInBounds_toArray, List.set_cons_zero, List.set_cons_succ]
  refine wpAnyH_take (i := 10) (oi := { dst := some 22, op := Op.extract (Operand.tmp 20) 1, type := 40, pos := _, after := #[{ on := 8, ground := Ground.data }], guard := none }) (v := ?_) rfl (by kernel_rfl) (by kernel_rfl) (by kernel_rfl) (fun _ _ _ h => h) (Or.inl ⟨by rfl, ?_⟩) (by assumption) ?_
  rotate_left
  · (intro w hSw; obtain ⟨s0, s1, s2, s3, s4, s5⟩ := hSw; (go_simp <;> with_reducible rfl))
  try simp only [Act.put, List.setIfInBounds_toArray, List.set_cons_zero, List.set_cons_succ]
  refine wpAnyH_ready (rs := [11]) (by kernel_rfl) (by simp) ?_
  refine AllReadyH.cons (o := { dst := none, op := Op.store 33 (Operand.tmp 10) (Operand.tmp 21), type := 0, pos := _, after := #[{ on := 9, ground := Ground.data }, { on := 8, ground := Ground.chain }, { on := 0, ground := Ground.phase }, { on := 1, ground := Ground.phase }, { on := 2, ground := Ground.phase }, { on := 3, ground := Ground.phase }, { on := 4, ground := Ground.phase }, { on := 5, ground := Ground.phase }, { on := 6, ground := Ground.phase }, { on := 7, ground := Ground.phase }, { on := 8, ground := Ground.phase }, { on := 9, ground := Ground.phase }, { on := 10, ground := Ground.phase }], guard := none }) rfl (fun K hK => ?_) AllReadyH.nil
  refine st_wp rfl (wp_store_row 33 _ _ rfl (w.heap.size + 2) #[.string H.1, .string H.2.1, .int .i64 H.2.2.1, .int .i64 H.2.2.2, .slice a n c] rfl rfl 33 _ hZ6 (hi_info H _) rfl (hi_one H a n c) ?_)
  have hWi7 := hWi6.farRow (show w.heap.size ≠ w.heap.size + 2 by omega) #[.string H.1, .string H.2.1, .int .i64 H.2.2.1, .int .i64 H.2.2.2, .slice a n c]
  have hRe7 := hRe6.farRow (show w.heap.size + 1 ≠ w.heap.size + 2 by omega) #[.string H.1, .string H.2.1, .int .i64 H.2.2.1, .int .i64 H.2.2.2, .slice a n c]
  refine hK.out _ _ ?_ (fun hHeld => ?_)
  · exact ⟨hWi7.cell 0, hWi7.cell 1, hRe7.cell 0, hRe7.cell 1, hRe7.cell 2, hRe7.cell 3⟩
  clear hK K
  try simp only [Act.put]
  refine wpAnyH_take (i := 12) (oi := { dst := some 11, op := Op.assign (Operand.tmp 22), type := 40, pos := _, after := #[{ on := 10, ground := Ground.data }, { on := 11, ground := Ground.chain }, { on := 0, ground := Ground.phase }, { on := 1, ground := Ground.phase }, { on := 2, ground := Ground.phase }, { on := 3, ground := Ground.phase }, { on := 4, ground := Ground.phase }, { on := 5, ground := Ground.phase }, { on := 6, ground := Ground.phase }, { on := 7, ground := Ground.phase }, { on := 8, ground := Ground.phase }, { on := 9, ground := Ground.phase }, { on := 10, ground := Ground.phase }, { on := 11, ground := Ground.phase }], guard := none }) (v := ?_) rfl (by kernel_rfl) (by kernel_rfl) (by kernel_rfl) (fun _ _ _ h => h) (Or.inl ⟨by rfl, ?_⟩) (by assumption) ?_
  rotate_left
  · (intro w hSw; obtain ⟨s0, s1, s2, s3, s4, s5⟩ := hSw; (go_simp <;> with_reducible rfl))
  try simp only [Act.put, List.setIfInBounds_toArray, List.set_cons_zero, List.set_cons_succ]
  refine wpAnyH_done (by kernel_rfl) ?_ _
  -- @END
  go_wp2_with fail
  refine bodyPost_ret (results_cell_hi rfl _ _ (w.heap.size + 2) 33 #[.string H.1, .string H.2.1, .int .i64 H.2.2.1, .int .i64 H.2.2.2, .slice a n c] (0, 0) _ rfl (hZ6.setRow _) Tryd.underlying33 rfl (hi_info H _)) rfl ?_
  have hw4 := hZ4.lt
  have hk4 : ∀ k, (Value.slice a n c).ownBlock = some k → k = w4.heap.size := fun k hk => by have := HBB.out k hk; cases this; rfl
  exact ⟨H, a, n, c, rfl, HHH.out, fun k hk => by have := hk4 k hk; omega, Rd.grown hR6 ((G.refl w6 (some (w.heap.size + 2))).setRow (.inr rfl) _) (fun k e hk => by cases e; have := hk4 _ hk; omega), hG6.setRow (.inl (by omega)) _⟩
set_option maxRecDepth 100000 in
set_option maxHeartbeats 4000000 in
theorem startOf_c (h : Hh) (s : ByteArray) (r : Rg) (w : World) (hs : Small s) (hsr : Small r.2.1) (hs1 : Small h.1) (hs2 : Small h.2.1) (hb1 : bnd h.2.2.1) (hb2 : bnd h.2.2.2) :
    Calls Tryd.prog 136 #[.string h.1, .string h.2.1, .agg #[.int .i64 h.2.2.1, .int .i64 h.2.2.2], .string s, .agg (rgC r)] w
      (MadePost h [(s, r, noIn)] (fun k => w.heap.size ≤ k) w) := by
  have hb0 : LgOk [(s, r, noIn)] := fun x hx => by
    obtain rfl := List.mem_singleton.1 hx
    exact ⟨hs, hsr, by show Small ⟨#[]⟩; unfold Small; decide⟩
  have hWi := ((Bk.new w 30 #[.int .i64 h.2.2.1, .int .i64 h.2.2.2]).alloc (.cells (rgC r) 37)).alloc (.cells hiZ 33)
  have hRe := (Bk.newAt (w := w.alloc (.cells #[.int .i64 h.2.2.1, .int .i64 h.2.2.2] 30)) (b := w.heap.size + 1) (by simp) 37 (rgC r)).alloc (.cells hiZ 33)
  have hZ := Bk.newAt (w := (w.alloc (.cells #[.int .i64 h.2.2.1, .int .i64 h.2.2.2] 30)).alloc (.cells (rgC r) 37)) (b := w.heap.size + 2) (by simp) 33 hiZ
  have hG := (((G.refl w none).alloc (.cells #[.int .i64 h.2.2.1, .int .i64 h.2.2.2] 30)).alloc (.cells (rgC r) 37)).alloc (.cells hiZ 33)
  simp only [rgC, hiZ, hiC] at hWi hRe hZ hG ⊢
  go_enter Tryd.func136, Tryd.ntmps136
  go_upto_region 1 with fail
  generalize ((w.alloc (.cells #[.int .i64 h.2.2.1, .int .i64 h.2.2.2] 30)).alloc (.cells #[.int .i64 r.1, .string r.2.1, .int .i64 r.2.2.1, .int .i64 r.2.2.2] 37)).alloc (.cells #[.string ⟨#[]⟩, .string ⟨#[]⟩, .int .i64 0, .int .i64 0, .slice none 0 0] 33) = w2 at hWi hRe hZ hG ⊢
  go_wp2_with (first | (refine wpList_load_row rfl 30 _ rfl w.heap.size rfl 30 #[.int .i64 h.2.2.1, .int .i64 h.2.2.2] (0, 0) _ hWi Tryd.underlying30 rfl (wi_info _ _) ?_) | (refine wpList_load_row rfl 37 _ rfl (w.heap.size + 1) rfl 37 #[.int .i64 r.1, .string r.2.1, .int .i64 r.2.2.1, .int .i64 r.2.2.2] (0, 0) _ hRe Tryd.underlying37 rfl (rg_info r) ?_))
  have hZ2 := hZ.alloc (.cells #[.string s, .int .i64 r.1, .string r.2.1, .int .i64 r.2.2.1, .int .i64 r.2.2.2, .int .i64 (-1), .string ⟨#[]⟩, .int .i64 0, .int .i64 0] 79)
  have hG2 := hG.alloc (.cells #[.string s, .int .i64 r.1, .string r.2.1, .int .i64 r.2.2.1, .int .i64 r.2.2.2, .int .i64 (-1), .string ⟨#[]⟩, .int .i64 0, .int .i64 0] 79)
  have hw4 := hZ.lt
  clear hZ hG
  refine (made_c h (.slice (some ⟨w2.heap.size, 0, none⟩) 1 1) [(s, r, noIn)] _ (RdR.oneLg (b := (s, r, noIn)) (Bk.new w2 _ _)) hb0 hs1 hs2 hb1 hb2 (by simp)).mono ?_
  rintro e w6 ⟨H, a, n, c, rfl, hHH, hBB, hR6, hH⟩
  have HHH := Lib.hid hHH
  have HBB := Lib.hid hBB
  have hZ6 := hZ2.quiet hH
  have hG6 := hG2.trans hH
  clear hHH hBB hH hZ2 hG2
  go_wp2_with (refine wpList_store_row rfl 33 _ _ rfl (w.heap.size + 2) #[.string H.1, .string H.2.1, .int .i64 H.2.2.1, .int .i64 H.2.2.2, .slice a n c] rfl rfl 33 _ hZ6 (hi_info H _) rfl (hi_one H a n c) ?_)
  refine bodyPost_ret (results_cell_hi rfl _ _ (w.heap.size + 2) 33 #[.string H.1, .string H.2.1, .int .i64 H.2.2.1, .int .i64 H.2.2.2, .slice a n c] (0, 0) _ rfl (hZ6.setRow _) Tryd.underlying33 rfl (hi_info H _)) rfl ?_
  have hk4 : ∀ k, (Value.slice a n c).ownBlock = some k → k = w2.heap.size := fun k hk => by have := HBB.out k hk; cases this; rfl
  exact ⟨H, a, n, c, rfl, HHH.out, fun k hk => by have := hk4 k hk; omega, Rd.grown hR6 ((G.refl w6 (some (w.heap.size + 2))).setRow (.inr rfl) _) (fun k e hk => by cases e; have := hk4 _ hk; omega), hG6.setRow (.inl (by omega)) _⟩
end Go.Proofs.YtdcofbciebkfkaaDoor
