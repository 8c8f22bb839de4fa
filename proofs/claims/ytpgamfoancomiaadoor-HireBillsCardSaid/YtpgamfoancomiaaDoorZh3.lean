/- Dis, Pck, GenO, Bil, Blf, Hsm, Bof. -/
import Derived.Test.YtpgamfoancomiaaDoorZh2
import Derived.Test.YtpgamfoancomiaaDoorZh1
import Derived.Deep.AppendLies
/- What is due: distanceCents, checkBill. The drawn region is written by gendis.py. -/
namespace Go.Proofs.YtpgamfoancomiaaDoor
open Go.RowKit

/-- What is due for the kilometres that are not free. -/
def dcN (x : De) (h : Hh) (l : List Lg) : Int := x.km * max 0 (kmS l - x.free * tN h.2.2.1 h.2.2.2)
theorem tN_bnd {a z : Int} (e : tE a z = 0) : 1 ≤ tN a z ∧ tN a z ≤ 121 := by
  have h : 0 ≤ a ∧ a < z ∧ z ≤ 5761439 ∧ z - a ≤ 172800 := by
    unfold tE at e
    split at e
    · split at e
      · cases e
      · omega
    · cases e
  unfold tN
  rw [if_pos e]
  omega
theorem km_bnd {h : Hh} {l : List Lg} (e : hiE h l = 0) (ho : ioB l = false) : (∀ x ∈ l, 0 ≤ kmL x ∧ kmL x ≤ 999999) ∧ 0 ≤ kmS l ∧ kmS l ≤ 20000000 := by
  have h1 : ∀ x ∈ l, 0 ≤ kmL x ∧ kmL x ≤ 999999 := fun x _ => by unfold kmL; omega
  have h2 := sum_bnd kmL 999999 l h1
  have h3 := (hiE_pos0 e).2
  exact ⟨h1, h2.1, by have := h2.2; unfold kmS; omega⟩
theorem mi_bnd {h : Hh} {l : List Lg} (e : hiE h l = 0) (ho : ioB l = false) : (∀ x ∈ l, 0 ≤ miL x ∧ miL x ≤ 8) ∧ 0 ≤ miS l ∧ miS l ≤ 160 := by
  have h1 : ∀ x ∈ l, 0 ≤ miL x ∧ miL x ≤ 8 := fun x hx => by
    obtain ⟨q1, q2⟩ := ended_ok e ho x hx
    have := (rgE_ok q1).2.2.2
    have := (rgE_ok q2).2.2.2
    unfold miL
    omega
  have h2 := sum_bnd miL 8 l h1
  have h3 := (hiE_pos0 e).2
  exact ⟨h1, h2.1, by have := h2.2; unfold miS; omega⟩
theorem kmSum_c (h : Hh) (v : Value) (l : List Lg) (w : World) (hr : RdR w 9 lgC v l) (e : hiE h l = 0) (ho : ioB l = false) :
    Calls Tryd.prog 83 #[.agg (hiC h v), .func (.func 84) #[] #[]] w fun e w' => e = .returned (.int .i64 (kmS l)) ∧ G w w' none :=
  hsum_c 84 kmL 999999 h v l w cf_km (fun x hx w => by
    obtain ⟨q1, q2⟩ := ended_ok e ho x hx
    exact kmOf_c x w (rgE_ok q1).2.2.1 (rgE_ok q2).2.2.1) (km_bnd e ho).1 (by omega) (by omega) hr (by have := (hiE_pos0 e).2; omega)
theorem miSum_c (h : Hh) (v : Value) (l : List Lg) (w : World) (hr : RdR w 9 lgC v l) (e : hiE h l = 0) (ho : ioB l = false) :
    Calls Tryd.prog 83 #[.agg (hiC h v), .func (.func 85) #[] #[]] w fun e w' => e = .returned (.int .i64 (miS l)) ∧ G w w' none :=
  hsum_c 85 miL 8 h v l w cf_mi (fun x hx w => by
    obtain ⟨q1, q2⟩ := ended_ok e ho x hx
    exact missingOf_c x w (rgE_ok q1).2.2.2 (rgE_ok q2).2.2.2) (mi_bnd e ho).1 (by omega) (by omega) hr (by have := (hiE_pos0 e).2; omega)
set_option maxRecDepth 100000 in
set_option maxHeartbeats 2000000 in
theorem distanceCents_c (x : De) (h : Hh) (v : Value) (l : List Lg) (w : World) (hx : deE x = 0) (he : hiE h l = 0) (ho : ioB l = false) (hr : RdR w 9 lgC v l) (hb1 : bnd h.2.2.1) (hb2 : bnd h.2.2.2) :
    Calls Tryd.prog 91 #[.agg (deC x), .agg (hiC h v)] w fun e w' => e = .returned (.int .i64 (dcN x h l)) ∧ G w w' none := by
  obtain ⟨d0, d1, -⟩ := deE_ok hx
  obtain ⟨a0, a1, a2, a3, a4, a5, a6⟩ := x
  have H : Hid (dcN ⟨a0, a1, a2, a3, a4, a5, a6⟩ h l = a1 * max 0 (kmS l - a0 * tN h.2.2.1 h.2.2.2)) := Lib.hid rfl
  dsimp only at d0 d1
  generalize dcN ⟨a0, a1, a2, a3, a4, a5, a6⟩ h l = E at H ⊢
  have hte := (hiE_ls he).2
  have htn := tN_bnd hte
  have hkm := (km_bnd he ho).2
  have HKM := Lib.hid (fun w' (hr' : RdR w' 9 lgC v l) => kmSum_c h v l w' hr' he ho)
  have HDA := Lib.hid (fun w' => days_c h.2.2.1 h.2.2.2 w' hb1 hb2)
  rw [hte] at HDA
  obtain ⟨T, hT⟩ : ∃ T, tN h.2.2.1 h.2.2.2 = T := ⟨_, rfl⟩
  obtain ⟨S, hS⟩ : ∃ S, kmS l = S := ⟨_, rfl⟩
  rw [hT] at H HDA htn
  rw [hS] at H HKM hkm
  have p1 : 0 ≤ a0 * T := Int.mul_nonneg d0.1 (by omega)
  have p2 : a0 * T ≤ 10000 * 121 := Int.mul_le_mul d0.2 htn.2 (by omega) (by omega)
  obtain ⟨P, hP⟩ : ∃ P, a0 * T = P := ⟨_, rfl⟩
  have hw1 : IntKind.i64.wrap (a0 * T) = P := by rw [IntKind.wrap_i64]; omega
  have hw2 : IntKind.i64.wrap (S - P) = S - P := by rw [IntKind.wrap_i64]; omega
  rw [hP] at H p1 p2
  have q1 : 0 ≤ a1 * max 0 (S - P) := Int.mul_nonneg d1.1 (by omega)
  have q2 : a1 * max 0 (S - P) ≤ 100000 * 20000000 := Int.mul_le_mul d1.2 (by omega) (by omega) (by omega)
  have hw3 : IntKind.i64.wrap (a1 * max 0 (S - P)) = a1 * max 0 (S - P) := by rw [IntKind.wrap_i64]; omega
  clear hT hS hP hx he ho hte htn hkm q1 q2 p1 p2
  obtain ⟨a, cap, rfl, hcap, hm⟩ := RdR.form hr
  have hD := (Bk.new w 27 #[.int .i64 a0, .int .i64 a1, .int .i64 a2, .int .i64 a3, .int .i64 a4, .int .i64 a5, .int .i64 a6]).alloc (.cells (hiC h (.slice a l.length cap)) 33)
  have hH := Bk.newAt (w := w.alloc (.cells #[.int .i64 a0, .int .i64 a1, .int .i64 a2, .int .i64 a3, .int .i64 a4, .int .i64 a5, .int .i64 a6] 27)) (b := w.heap.size + 1) (by simp) 33 (hiC h (.slice a l.length cap))
  have hG := ((G.refl w none).alloc (.cells #[.int .i64 a0, .int .i64 a1, .int .i64 a2, .int .i64 a3, .int .i64 a4, .int .i64 a5, .int .i64 a6] 27)).alloc (.cells (hiC h (.slice a l.length cap)) 33)
  have hR := hr.quiet hG
  have HT := Lib.hid (hi_time h (.slice a l.length cap))
  clear hr
  rw [show deC ⟨a0, a1, a2, a3, a4, a5, a6⟩ = #[.int .i64 a0, .int .i64 a1, .int .i64 a2, .int .i64 a3, .int .i64 a4, .int .i64 a5, .int .i64 a6] from rfl]
  simp only [hiC] at hD hH hG hR HKM HT ⊢
  go_enter Tryd.func91, Tryd.ntmps91
  go_upto_region 1 with fail
  generalize (w.alloc (.cells #[.int .i64 a0, .int .i64 a1, .int .i64 a2, .int .i64 a3, .int .i64 a4, .int .i64 a5, .int .i64 a6] 27)).alloc (.cells #[.string h.1, .string h.2.1, .int .i64 h.2.2.1, .int .i64 h.2.2.2, .slice a l.length cap] 33) = w2 at hG hD hH hR ⊢
  go_wp2_with (refine wpList_load_at rfl 30 _ rfl ⟨w.heap.size + 1, 2, none⟩ rfl #[.int .i64 h.2.2.1, .int .i64 h.2.2.2] _ (hH.part 2 #[.int .i64 h.2.2.1, .int .i64 h.2.2.2] HT.out) Tryd.underlying30 rfl (wi_info _ _) ?_)
  refine (HDA.out _).mono ?_; rintro e w3 ⟨rfl, hG3⟩
  have hD3 := hD.quiet hG3
  have hH3 := hH.quiet hG3
  have hR3 := hR.quiet hG3
  have hG3 := hG.trans hG3
  clear hD hH hR hG
  go_upto_region 2 with fail
  have hD2 := hD3.quiet ((G.refl w3 none).drew)
  have hH2 := hH3.quiet ((G.refl w3 none).drew)
  have hR2 := hR3.quiet ((G.refl w3 none).drew)
  have hG2 := hG3.drew
  clear hD3 hH3 hR3 hG3
  -- @REGION1
  refine wp_region_held_drew (S := (fun w' => w'.cell? ⟨w.heap.size, 0, none⟩ = some (.int .i64 a0) ∧ w'.cell? ⟨w.heap.size, 1, none⟩ = some (.int .i64 a1) ∧ w'.cell? ⟨w.heap.size, 2, none⟩ = some (.int .i64 a2) ∧ w'.cell? ⟨w.heap.size, 3, none⟩ = some (.int .i64 a3) ∧ w'.cell? ⟨w.heap.size, 4, none⟩ = some (.int .i64 a4) ∧ w'.cell? ⟨w.heap.size, 5, none⟩ = some (.int .i64 a5) ∧ w'.cell? ⟨w.heap.size, 6, none⟩ = some (.int .i64 a6) ∧ w'.cell? ⟨w.heap.size + 1, 0, none⟩ = some (.string h.1) ∧ w'.cell? ⟨w.heap.size + 1, 1, none⟩ = some (.string h.2.1) ∧ w'.cell? ⟨w.heap.size + 1, 2, none⟩ = some (.int .i64 h.2.2.1) ∧ w'.cell? ⟨w.heap.size + 1, 3, none⟩ = some (.int .i64 h.2.2.2) ∧ w'.cell? ⟨w.heap.size + 1, 4, none⟩ = some (.slice a l.length cap))) (by kernel_rfl) ?_ (fun hHeld => ?_)
  · exact ⟨hD2.cell 0, hD2.cell 1, hD2.cell 2, hD2.cell 3, hD2.cell 4, hD2.cell 5, hD2.cell 6, hH2.cell 0, hH2.cell 1, hH2.cell 2, hH2.cell 3, hH2.cell 4⟩
  refine wpAnyH_take (i := 0) (oi := { dst := some 13, op := Op.fieldAddr 27 (Operand.tmp 2) 1, type := 0, pos := _, after := #[], guard := none }) (v := ?_) rfl (by kernel_rfl) (by kernel_rfl) (by kernel_rfl) (fun _ _ _ h => h) (Or.inl ⟨by rfl, ?_⟩) (by assumption) ?_
  rotate_left
  · (intro w hSw; obtain ⟨s0, s1, s2, s3, s4, s5, s6, s7, s8, s9, s10, s11⟩ := hSw; (go_simp <;> with_reducible rfl))
  try simp only [Act.put, List.setIfInBounds_toArray, List.set_cons_zero, List.set_cons_succ]
  refine wpAnyH_take (i := 1) (oi := { dst := some 14, op := Op.load 3 (Operand.tmp 13), type := 3, pos := _, after := #[{ on := 0, ground := Ground.data }], guard := none }) (v := ?_) rfl (by kernel_rfl) (by kernel_rfl) (by kernel_rfl) (fun _ _ _ h => h) (Or.inl ⟨by rfl, ?_⟩) (by assumption) ?_
  rotate_left
  · (intro w hSw; obtain ⟨s0, s1, s2, s3, s4, s5, s6, s7, s8, s9, s10, s11⟩ := hSw; (go_simp <;> with_reducible rfl))
  try simp only [Act.put, List.setIfInBounds_toArray, List.set_cons_zero, List.set_cons_succ]
  refine wpAnyH_take (i := 2) (oi := { dst := some 15, op := Op.load 33 (Operand.tmp 3), type := 33, pos := _, after := #[], guard := none }) (v := ?_) rfl (by kernel_rfl) (by kernel_rfl) (by kernel_rfl) (fun _ _ _ h => h) (Or.inl ⟨by rfl, ?_⟩) (by assumption) ?_
  rotate_left
  · (intro w hSw; obtain ⟨s0, s1, s2, s3, s4, s5, s6, s7, s8, s9, s10, s11⟩ := hSw; (go_simp <;> with_reducible rfl))
  try simp only [Act.put, List.setIfInBounds_toArray, List.set_cons_zero, List.set_cons_succ]
  refine wpAnyH_take (i := 4) (oi := { dst := some 17, op := Op.fieldAddr 27 (Operand.tmp 2) 0, type := 0, pos := _, after := #[], guard := none }) (v := ?_) rfl (by kernel_rfl) (by kernel_rfl) (by kernel_rfl) (fun _ _ _ h => h) (Or.inl ⟨by rfl, ?_⟩) (by assumption) ?_
  rotate_left
  · (intro w hSw; obtain ⟨s0, s1, s2, s3, s4, s5, s6, s7, s8, s9, s10, s11⟩ := hSw; (go_simp <;> with_reducible rfl))
  try simp only [Act.put, List.setIfInBounds_toArray, List.set_cons_zero, List.set_cons_succ]
  refine wpAnyH_take (i := 5) (oi := { dst := some 18, op := Op.load 3 (Operand.tmp 17), type := 3, pos := _, after := #[{ on := 4, ground := Ground.data }], guard := none }) (v := ?_) rfl (by kernel_rfl) (by kernel_rfl) (by kernel_rfl) (fun _ _ _ h => h) (Or.inl ⟨by rfl, ?_⟩) (by assumption) ?_
  rotate_left
  · (intro w hSw; obtain ⟨s0, s1, s2, s3, s4, s5, s6, s7, s8, s9, s10, s11⟩ := hSw; (go_simp <;> with_reducible rfl))
  try simp only [Act.put, List.setIfInBounds_toArray, List.set_cons_zero, List.set_cons_succ]
  refine wpAnyH_take (i := 6) (oi := { dst := some 19, op := Op.move (Operand.tmp 5), type := 3, pos := _, after := #[], guard := none }) (v := ?_) rfl (by kernel_rfl) (by kernel_rfl) (by kernel_rfl) (fun _ _ _ h => h) (Or.inl ⟨by rfl, ?_⟩) (by assumption) ?_
  rotate_left
  · (intro w hSw; obtain ⟨s0, s1, s2, s3, s4, s5, s6, s7, s8, s9, s10, s11⟩ := hSw; (go_simp <;> with_reducible rfl))
  try simp only [Act.put, List.setIfInBounds_toArray, List.set_cons_zero, List.set_cons_succ]
  refine wpAnyH_take (i := 7) (oi := { dst := some 20, op := Op.binOp BinOp.mul 3 (Operand.tmp 18) (Operand.tmp 19) 3, type := 3, pos := _, after := #[{ on := 5, ground := Ground.data }, { on := 6, ground := Ground.data }], guard := none }) (v := ?_) rfl (by kernel_rfl) (by kernel_rfl) (by kernel_rfl) (fun _ _ _ h => h) (Or.inl ⟨by rfl, ?_⟩) (by assumption) ?_
  rotate_left
  · (intro w hSw; obtain ⟨s0, s1, s2, s3, s4, s5, s6, s7, s8, s9, s10, s11⟩ := hSw; (go_simp <;> with_reducible rfl))
  try simp only [Act.put, List.setIfInBounds_toArray, List.set_cons_zero, List.set_cons_succ]
  refine wpAnyH_ready (rs := [3]) (by kernel_rfl) (by simp) ?_
  refine AllReadyH.cons (o := { dst := some 16, op := Op.call { callee := Callee.value (Operand.func 83), args := #[Operand.tmp 15, Operand.func 84], argTypes := #[33, 117] }, type := 3, pos := _, after := #[{ on := 2, ground := Ground.data }], guard := none }) rfl (fun K hK => ?_) AllReadyH.nil
  go_simp
  refine (HKM.out _ hR2).mono ?_
  rintro e w5 ⟨rfl, hG5⟩
  have hD5 := hD2.quiet hG5
  have hH5 := hH2.quiet hG5
  have hG5 := hG2.trans hG5
  refine hK.out _ _ ?_ (fun hHeld => ?_)
  · exact ⟨hD5.cell 0, hD5.cell 1, hD5.cell 2, hD5.cell 3, hD5.cell 4, hD5.cell 5, hD5.cell 6, hH5.cell 0, hH5.cell 1, hH5.cell 2, hH5.cell 3, hH5.cell 4⟩
  clear hK K
  try simp only [Act.put, List.setIfInBounds_toArray, List.set_cons_zero, List.set_cons_succ]
  refine wpAnyH_take (i := 8) (oi := { dst := some 21, op := Op.binOp BinOp.sub 3 (Operand.tmp 16) (Operand.tmp 20) 3, type := 3, pos := _, after := #[{ on := 3, ground := Ground.data }, { on := 7, ground := Ground.data }], guard := none }) (v := ?_) rfl (by kernel_rfl) (by kernel_rfl) (by kernel_rfl) (fun _ _ _ h => h) (Or.inl ⟨by rfl, ?_⟩) (by assumption) ?_
  rotate_left
  · (intro w hSw; obtain ⟨s0, s1, s2, s3, s4, s5, s6, s7, s8, s9, s10, s11⟩ := hSw; (go_simp <;> with_reducible rfl))
  try simp only [Act.put, List.setIfInBounds_toArray, List.set_cons_zero, List.set_cons_succ]
  refine wpAnyH_take (i := 9) (oi := { dst := some 22, op := Op.call { callee := Callee.builtin Builtin.max, args := #[Operand.const (Value.int IntKind.i64 0), Operand.tmp 21], argTypes := #[3, 3] }, type := 3, pos := _, after := #[{ on := 8, ground := Ground.data }], guard := none }) (v := ?_) rfl (by kernel_rfl) (by kernel_rfl) (by kernel_rfl) (fun _ _ _ h => h) (Or.inl ⟨by rfl, ?_⟩) (by assumption) ?_
  rotate_left
  · (intro w hSw; obtain ⟨s0, s1, s2, s3, s4, s5, s6, s7, s8, s9, s10, s11⟩ := hSw; (go_simp <;> with_reducible rfl))
  try simp only [Act.put, List.setIfInBounds_toArray, List.set_cons_zero, List.set_cons_succ]
  refine wpAnyH_take (i := 10) (oi := { dst := some 23, op := Op.binOp BinOp.mul 3 (Operand.tmp 14) (Operand.tmp 22) 3, type := 3, pos := _, after := #[{ on := 1, ground := Ground.data }, { on := 9, ground := Ground.data }], guard := none }) (v := ?_) rfl (by kernel_rfl) (by kernel_rfl) (by kernel_rfl) (fun _ _ _ h => h) (Or.inl ⟨by rfl, ?_⟩) (by assumption) ?_
  rotate_left
  · (intro w hSw; obtain ⟨s0, s1, s2, s3, s4, s5, s6, s7, s8, s9, s10, s11⟩ := hSw; (go_simp <;> with_reducible rfl))
  try simp only [Act.put, List.setIfInBounds_toArray, List.set_cons_zero, List.set_cons_succ]
  refine wpAnyH_take (i := 11) (oi := { dst := some 4, op := Op.assign (Operand.tmp 23), type := 3, pos := _, after := #[{ on := 10, ground := Ground.data }, { on := 3, ground := Ground.chain }, { on := 0, ground := Ground.phase }, { on := 1, ground := Ground.phase }, { on := 2, ground := Ground.phase }, { on := 3, ground := Ground.phase }, { on := 4, ground := Ground.phase }, { on := 5, ground := Ground.phase }, { on := 6, ground := Ground.phase }, { on := 7, ground := Ground.phase }, { on := 8, ground := Ground.phase }, { on := 9, ground := Ground.phase }, { on := 10, ground := Ground.phase }], guard := none }) (v := ?_) rfl (by kernel_rfl) (by kernel_rfl) (by kernel_rfl) (fun _ _ _ h => h) (Or.inl ⟨by rfl, ?_⟩) (by assumption) ?_
  rotate_left
  · (intro w hSw; obtain ⟨s0, s1, s2, s3, s4, s5, s6, s7, s8, s9, s10, s11⟩ := hSw; (go_simp <;> with_reducible rfl))
  try simp only [Act.put, List.setIfInBounds_toArray, List.set_cons_zero, List.set_cons_succ]
  refine wpAnyH_done (by kernel_rfl) ?_ _
  -- @END1
  go_wp2_with fail
  go_ret
  exact ⟨ret_int H.out.symm, hG5⟩
/-- The error of a bill, ahead of what is added. -/
def cbE (x : De) (h : Hh) (l : List Lg) (ls : List Li) : Int := if deE x = 0 then (if hiE h l = 0 then (if liE ls = 0 then (if ioB l = true then 11 else 0) else liE ls) else hiE h l) else deE x
theorem cbE_ok {x : De} {h : Hh} {l : List Lg} {ls : List Li} (e : cbE x h l ls = 0) : deE x = 0 ∧ hiE h l = 0 ∧ liE ls = 0 ∧ ioB l = false := by
  unfold cbE at e
  split at e
  · next h1 =>
    split at e
    · next h2 =>
      split at e
      · next h3 =>
        split at e
        · cases e
        · next h4 => exact ⟨h1, h2, h3, by simpa using h4⟩
      · contradiction
    · contradiction
  · contradiction
set_option maxRecDepth 100000 in
set_option maxHeartbeats 4000000 in
theorem checkBill_c (x : De) (h : Hh) (v : Value) (l : List Lg) (u : Value) (ls : List Li) (w : World) (hr : RdR w 9 lgC v l) (hl : LgOk l) (hs1 : Small h.1) (hs2 : Small h.2.1) (hb1 : bnd h.2.2.1) (hb2 : bnd h.2.2.2) (hn : l.length ≤ 1000)
    (hu : RdR w 3 liC u ls) (hls : LiOk ls) (hm : ls.length ≤ 2000) :
    Calls Tryd.prog 88 #[.agg (deC x), .agg (hiC h v), u] w fun e w' => e = .returned (.int .i64 (cbE x h l ls)) ∧ G w w' none := by
  obtain ⟨a, cap, rfl, hcap, hmm⟩ := RdR.form hr
  obtain ⟨D, hDE⟩ : ∃ D, deE x = D := ⟨_, rfl⟩
  obtain ⟨I, hIE⟩ : ∃ I, hiE h l = I := ⟨_, rfl⟩
  obtain ⟨L, hLE⟩ : ∃ L, liE ls = L := ⟨_, rfl⟩
  obtain ⟨B, hBE⟩ : ∃ B, ioB l = B := ⟨_, rfl⟩
  have H : Hid (cbE x h l ls = if D = 0 then (if I = 0 then (if L = 0 then (if B = true then 11 else 0) else L) else I) else D) := Lib.hid (by unfold cbE; rw [hDE, hIE, hLE, hBE])
  have HPOS : Hid (I = 0 → 0 < l.length) := Lib.hid fun e => (hiE_pos0 (hIE.trans e)).1
  have C1 := Lib.hid (fun w => checkDeal_c x w)
  have C2 := Lib.hid (fun w' (q : RdR w' 9 lgC (.slice a l.length cap) l) => check_c h _ l w' q hl hs1 hs2 hb1 hb2 hn)
  have C3 := Lib.hid (fun w' (q : RdR w' 3 liC u ls) => checkLines_c u ls w' q hls hm)
  have C4 := Lib.hid (fun w' (q : RdR w' 9 lgC (.slice a l.length cap) l) (q0 : 0 < l.length) => isOpen_h h _ l w' q q0 hn)
  rw [hDE] at C1
  rw [hIE] at C2
  rw [hLE] at C3
  rw [hBE] at C4
  clear hDE hIE hLE hBE hl hls
  generalize cbE x h l ls = E at H ⊢
  obtain ⟨a0, a1, a2, a3, a4, a5, a6⟩ := x
  rw [show deC ⟨a0, a1, a2, a3, a4, a5, a6⟩ = #[.int .i64 a0, .int .i64 a1, .int .i64 a2, .int .i64 a3, .int .i64 a4, .int .i64 a5, .int .i64 a6] from rfl] at *
  have hD := (Bk.new w 27 #[.int .i64 a0, .int .i64 a1, .int .i64 a2, .int .i64 a3, .int .i64 a4, .int .i64 a5, .int .i64 a6]).alloc (.cells (hiC h (.slice a l.length cap)) 33)
  have hH := Bk.newAt (w := w.alloc (.cells #[.int .i64 a0, .int .i64 a1, .int .i64 a2, .int .i64 a3, .int .i64 a4, .int .i64 a5, .int .i64 a6] 27)) (b := w.heap.size + 1) (by simp) 33 (hiC h (.slice a l.length cap))
  have hG := ((G.refl w none).alloc (.cells #[.int .i64 a0, .int .i64 a1, .int .i64 a2, .int .i64 a3, .int .i64 a4, .int .i64 a5, .int .i64 a6] 27)).alloc (.cells (hiC h (.slice a l.length cap)) 33)
  have HR := Lib.hid hr
  have HU := Lib.hid hu
  clear hr hu
  simp only [hiC] at hD hH hG C2 C4 ⊢
  go_enter Tryd.func88, Tryd.ntmps88
  go_upto_region 1 with fail
  generalize (w.alloc (.cells #[.int .i64 a0, .int .i64 a1, .int .i64 a2, .int .i64 a3, .int .i64 a4, .int .i64 a5, .int .i64 a6] 27)).alloc (.cells #[.string h.1, .string h.2.1, .int .i64 h.2.2.1, .int .i64 h.2.2.2, .slice a l.length cap] 33) = w2 at hG hD hH ⊢
  go_wp2_with (refine wpList_load_row rfl 27 _ rfl w.heap.size rfl 27 #[.int .i64 a0, .int .i64 a1, .int .i64 a2, .int .i64 a3, .int .i64 a4, .int .i64 a5, .int .i64 a6] (0, 0) _ hD Tryd.underlying27 rfl (de_info ⟨a0, a1, a2, a3, a4, a5, a6⟩) ?_)
  refine (C1.out _).mono ?_; rintro e w3 ⟨rfl, hG3⟩
  have hH := hH.quiet hG3
  have hG := hG.trans hG3
  clear hG3 hD
  by_cases k1 : D = 0
  · have H1 := Lib.hid (H.out.trans (if_pos k1))
    subst k1
    go_wp2_with (refine wpList_load_row rfl 33 _ rfl (w.heap.size + 1) rfl 33 #[.string h.1, .string h.2.1, .int .i64 h.2.2.1, .int .i64 h.2.2.2, .slice a l.length cap] (0, 0) _ hH Tryd.underlying33 rfl (hi_info h _) ?_)
    refine (C2.out _ (HR.out.quiet hG)).mono ?_; rintro e w4 ⟨rfl, hG4⟩
    have hH := hH.quiet hG4
    have hG := hG.trans hG4
    clear hG4
    by_cases k2 : I = 0
    · have H2 := Lib.hid (H1.out.trans (if_pos k2))
      subst k2
      have hpos := HPOS.out rfl
      clear H H1 HPOS
      go_wp2_with fail
      refine (C3.out _ (HU.out.quiet hG)).mono ?_; rintro e w5 ⟨rfl, hG5⟩
      have hH := hH.quiet hG5
      have hG := hG.trans hG5
      clear hG5
      by_cases k3 : L = 0
      · have H3 := Lib.hid (H2.out.trans (if_pos k3))
        subst k3
        clear H2
        go_wp2_with (refine wpList_load_row rfl 33 _ rfl (w.heap.size + 1) rfl 33 #[.string h.1, .string h.2.1, .int .i64 h.2.2.1, .int .i64 h.2.2.2, .slice a l.length cap] (0, 0) _ hH Tryd.underlying33 rfl (hi_info h _) ?_)
        refine (C4.out _ (HR.out.quiet hG) hpos).mono ?_; rintro e w6 ⟨rfl, hG6⟩
        cases B with
        | false =>
          have HY := Lib.hid (H3.out.trans (if_neg (by simp)))
          clear H3
          go_wp2_with fail
          go_ret
          exact ⟨ret_int HY.out.symm, hG.trans hG6⟩
        | true =>
          have HY := Lib.hid (H3.out.trans (if_pos rfl))
          clear H3
          go_wp2_with fail
          go_ret
          exact ⟨ret_int HY.out.symm, hG.trans hG6⟩
      · have k3' : (L != 0) = true := by simpa using k3
        have HY := Lib.hid (H2.out.trans (if_neg k3))
        clear k3 H2
        go_wp2_with fail
        go_ret
        exact ⟨ret_int HY.out.symm, hG⟩
    · have k2' : (I != 0) = true := by simpa using k2
      have HY := Lib.hid (H1.out.trans (if_neg k2))
      clear k2 H H1 HPOS
      go_wp2_with fail
      go_ret
      exact ⟨ret_int HY.out.symm, hG⟩
  · have k1' : (D != 0) = true := by simpa using k1
    have HY := Lib.hid (H.out.trans (if_neg k1))
    clear k1 H HPOS
    go_wp2_with fail
    go_ret
    exact ⟨ret_int HY.out.symm, hG⟩
end Go.Proofs.YtpgamfoancomiaaDoor

/- What was picked; a block as a row; 'when' at literals. -/
namespace Go.Proofs.YtpgamfoancomiaaDoor
open Go.RowKit

theorem small_of {s : ByteArray} (h : s.size ≤ 100) : Small s := by unfold Small; omega
theorem bnd_pick {zs : List Int} {r : Int} (h : r ∈ zs) (hz : zs.all (fun z => decide (-1099511627776 ≤ z ∧ z ≤ 1099511627776)) = true) : bnd r := by
  unfold bnd
  exact of_decide_eq_true (List.all_eq_true.1 hz r h)
theorem small_pick {zs : List ByteArray} {r : ByteArray} (h : r ∈ zs) (hz : zs.all (fun z => decide (z.size ≤ 100)) = true) : Small r := small_of (of_decide_eq_true (List.all_eq_true.1 hz r h))
theorem Bk.rd {w : World} {g : Nat} {T : TypeId} {cs : Array Value} (h : Bk w g T cs) (z n : Nat) (hc : cs.size = n * z) (hn : n ≤ 1000) : Rd w z (.slice (some ⟨g, 0, none⟩) n n) n cs.toList := by
  refine ⟨_, n, rfl, Nat.le_refl _, by unfold maxLen; omega, by simpa using hc, (fun e => by cases e), fun b hb => ?_⟩
  obtain rfl := Option.some.inj hb
  refine ⟨rfl, h.lt, fun j u hj => ?_⟩
  rw [Nat.zero_add, h.cell]
  simpa using hj
theorem when_t (n : Int) (w : World) : Calls Tryd.prog 32 #[.bool true, .int .i64 n] w fun e w' => e = .returned (.int .i64 n) ∧ w = w' := by simpa using when_c true n w
theorem when_f (n : Int) (w : World) : Calls Tryd.prog 32 #[.bool false, .int .i64 n] w fun e w' => e = .returned (.int .i64 0) ∧ w = w' := by simpa using when_c false n w
end Go.Proofs.YtpgamfoancomiaaDoor

/- Generator: the lines of a bill. Written by genlin.py. -/
namespace Go.Proofs.YtpgamfoancomiaaDoor
open Go.RowKit

theorem li_oneL (r : Li) : ∀ u ∈ (liC r).toList, u.oneCell' = true := by
  intro u hu
  simp [liC] at hu
  rcases hu with rfl | rfl | rfl <;> rfl
theorem li_rowOk : RowOk Tryd.prog 73 64 3 32 (.agg (liC (0, ⟨#[]⟩, 0))) liC := ⟨by kernel_rfl, Tryd.underlying64, li_oneL, liC_sz, rfl, by omega, by omega⟩
abbrev OwnLi (w : World) (base : Nat) (v : Value) (l : List Li) : Prop := OwnX 73 3 liC w base v l
theorem LiOk.snoc {l : List Li} {r : Li} (h : LiOk l) (hr : Small r.2.1) : LiOk (l ++ [r]) := fun p hp => by
  rcases List.mem_append.1 hp with hp | hp
  · exact h p hp
  · obtain rfl := List.mem_singleton.1 hp
    exact hr
theorem LiOk.set {l : List Li} (h : LiOk l) {r : Li} (hr : Small r.2.1) (k : Nat) : LiOk (l.set k r) := fun p hp => by
  rcases List.mem_or_eq_of_mem_set hp with hp | rfl
  · exact h p hp
  · exact hr
def BillPost (s K : Nat) (w : World) (e : Ending) (w' : World) : Prop :=
  ∃ (v : Value) (l : List Li), e = .returned v ∧ OwnLi w' w.heap.size v l ∧ LiOk l ∧ l.length ≤ 6 ∧ SB w' s (K + 30) ∧ G w w' (some s)
theorem bill_fin {w w' : World} {s K : Nat} {v : Value} {l : List Li} (hown : OwnLi w' w.heap.size v l) (hl : LiOk l) (hn : l.length ≤ 6) (hSB : SB w' s (K + 30)) (hG : G w w' (some s)) : BillPost s K w (.returned v) w' :=
  ⟨v, l, rfl, hown, hl, hn, hSB, hG⟩
def BlRel (w : World) (s K m : Nat) (s3 s7 : Value) (wr : World) : Prop :=
  ∃ (k : Nat) (l : List Li), k ≤ m ∧ l.length ≤ k ∧ s7 = .int .i64 k ∧ OwnLi wr w.heap.size s3 l ∧ LiOk l ∧ SB wr s (K + 1 + 3 * k) ∧ G w wr (some s)
set_option maxRecDepth 100000 in
set_option maxHeartbeats 8000000 in
theorem billLines_c (w : World) (s : Nat) (K : Nat) (hs : SB w s K) (hk : K ≤ 900000000000) :
    Calls Tryd.prog 37 #[.pointer (some ⟨s, 0, none⟩)] w (BillPost s K w) := by
  have hsb := hs.lt
  go_enter Tryd.func37, Tryd.ntmps37
  go_wp2_with fail
  refine (range_c 0 6 _ _ _ hs (by omega) (by omega) (by omega) (by omega)).mono ?_; rintro e w1 ⟨m, rfl, m0, m1, hSB1, hG1⟩
  obtain ⟨m, rfl⟩ := Int.eq_ofNat_of_zero_le m0
  have hm6 : m ≤ 6 := by omega
  clear m0 m1 hs
  go_wp2_with fail
  go_loopw [3, 7] (BlRel w s K m) (fun _ i _ => m - (intOf i).toNat)
  case atStart => exact ⟨0, [], by omega, by simp, rfl, World.ownsRow_nil _ _ _ _, fun p hp => (by cases hp), hSB1, hG1⟩
  case round =>
    obtain ⟨k, l, hkm, hlk, rfl, hown, hl, hSB, hG⟩ := hrel
    have HL := Lib.hid hl
    clear hl hSB1 hG1
    by_cases hk2 : k < m
    · have hki : (k : Int) < (m : Int) := by omega
      have HK := Lib.hid hk2
      go_wp2_with fail
      refine (pick_c _ _ _ [1, 1, 2, 3, 4, 6] _ _ _ (hSB.alloc _) (by omega) (by decide) (by decide) (Rd.newAt _ rfl rfl (by decide)) (hSB.newAt _ _ _ (Nat.le_refl _))).mono ?_; rintro e w4 ⟨q1, rfl, hp, hSB4, hg⟩
      have hown4 := OwnX.kept (OwnX.alloc hown (.cells _ 3)) hg hsb
      have hG4 := (hG.alloc (.cells _ 3)).trans hg
      clear hown hG hSB hg hp
      go_wp2_with fail
      refine (some_c _ _ _ [⟨#[100, 97, 121]⟩, ⟨#[119, 101, 101, 107]⟩, ⟨#[115, 101, 97, 116]⟩, ⟨#[108, 97, 116, 101]⟩] _ _ _ (hSB4.alloc _) (by omega) (by decide) (by decide) (Rd.newAt _ rfl rfl (by decide)) (hSB4.newAt _ _ _ (Nat.le_refl _))).mono ?_; rintro e w5 ⟨q2, rfl, hp, hSB5, hg⟩
      have HQ2 := Lib.hid (small_pick hp (by decide))
      have hown5 := OwnX.kept (OwnX.alloc hown4 (.cells _ 9)) hg hsb
      have hG5 := (hG4.alloc (.cells _ 9)).trans hg
      clear hown4 hG4 hSB4 hg hp
      go_wp2_with fail
      refine (pick_c _ _ _ [0, 5, 50, 105, 999, -10, -3, 1000000] _ _ _ (hSB5.alloc _) (by omega) (by decide) (by decide) (Rd.newAt _ rfl rfl (by decide)) (hSB5.newAt _ _ _ (Nat.le_refl _))).mono ?_; rintro e w6 ⟨q3, rfl, hp, hSB6, hg⟩
      have hown6 := OwnX.kept (OwnX.alloc hown5 (.cells _ 3)) hg hsb
      have hG6 := (hG5.alloc (.cells _ 3)).trans hg
      clear hown5 hG5 hSB5 hg hp
      have hsz := hG6.size
      have hownA := OwnX.alloc hown6 (.cells #[.int .i64 q1, .string q2, .int .i64 q3] 73)
      go_wp2_with (at_builtin; refine wpList_plain rfl fun K' hK' => wp_append_x li_rowOk _ _ rfl w.heap.size u3 l rfl hownA w6.heap.size (q1, q2, q3) rfl (Bk.new w6 _ _) (by omega) (by simp; omega) ?_; intro v8 w8 hown8 hgrow; refine hK' _ _ ?_)
      have hob := OwnX.low hown6
      go_roundw
      case rel => exact ⟨k + 1, l ++ [(q1, q2, q3)], by omega, by simp; omega, by go_num, hown8, HL.out.snoc HQ2.out, ((hSB6.alloc _).own hgrow (fun r e => Nat.lt_of_lt_of_le hsb (hob r e))).le (by omega), (hG6.alloc _).other hgrow (fun r e => .inl (hob r e))⟩
      case measure => have := HK.out; simp [intOf]; omega
    · obtain rfl : k = m := by omega
      have hf := hown.2
      have hnk : ¬ ((k : Int) < (k : Int)) := by omega
      rcases hf with ⟨rfl, hn0⟩ | ⟨g, cap, cur, rfl, hbg, _, hnc, hmc, _, _⟩
      · clear hn0
        go_wp2_with fail
        go_ret
        exact bill_fin hown HL.out (by omega) (hSB.le (by omega)) hG
      · by_cases h0 : l.length = 0
        · have h0i : ¬ ((0 : Int) < (l.length : Int)) := by omega
          clear h0
          go_wp2_with fail
          go_ret
          exact bill_fin hown HL.out (by omega) (hSB.le (by omega)) hG
        · have h0i : ((0 : Int) < (l.length : Int)) := by omega
          have hsg : s < g := by omega
          have hgw : w.heap.size ≤ g := by omega
          clear h0
          go_wp2_with fail
          refine (flip_c _ _ _ _ hSB (by omega) (by omega)).mono ?_; rintro e w2 ⟨b, rfl, hSB2, hG2⟩
          have hown2 := OwnX.kept hown hG2 hsb
          have hG02 := hG.trans hG2
          clear hown hG hG2 hSB
          cases b with
          | false =>
            go_wp2_with fail
            go_ret
            exact bill_fin hown2 HL.out (by omega) (hSB2.le (by omega)) hG02
          | true =>
            go_wp2_with fail
            refine (next_c _ _ _ _ hSB2 (by omega) (by omega)).mono ?_; rintro e w3 ⟨j, rfl, hj, hSB3, hG3⟩
            obtain ⟨j0, j1⟩ := hj
            obtain ⟨j, rfl⟩ := Int.eq_ofNat_of_zero_le j0
            have jl : j < l.length := by omega
            have jli : (j : Int) < (l.length : Int) := by omega
            clear j1
            have hown3 := OwnX.kept hown2 hG3 hsb
            have hG03 := hG02.trans hG3
            clear hown2 hG02 hG3 hSB2
            obtain ⟨p, hp⟩ : ∃ p, l[j]? = some p := ⟨_, List.getElem?_eq_getElem jl⟩
            have HP := Lib.hid hp
            clear hp
            go_wp2_with fail
            refine (pick_c _ _ _ [1, 5, 0, 7] _ _ _ (hSB3.alloc _) (by omega) (by decide) (by decide) (Rd.newAt _ rfl rfl (by decide)) (hSB3.newAt _ _ _ (Nat.le_refl _))).mono ?_; rintro e w5 ⟨y1, rfl, hr, hSB5, hG5⟩
            have hown5 := OwnX.kept (OwnX.alloc hown3 _) hG5 hsb
            have hG05 := (hG03.alloc _).trans hG5
            clear hr hown3 hSB3 hG03 hG5
            go_wp2_with fail
            refine (some_c _ _ _ [⟨#[100, 97, 121]⟩, ⟨#[]⟩, ⟨#[65]⟩] _ _ _ (hSB5.alloc _) (by omega) (by decide) (by decide) (Rd.newAt _ rfl rfl (by decide)) (hSB5.newAt _ _ _ (Nat.le_refl _))).mono ?_; rintro e w6 ⟨y2, rfl, hr, hSB6, hG6⟩
            have HY2 := Lib.hid (small_pick hr (by decide))
            have hown6 := OwnX.kept (OwnX.alloc hown5 _) hG6 hsb
            have hG06 := (hG05.alloc _).trans hG6
            clear hr hown5 hSB5 hG05 hG6
            go_wp2_with fail
            refine (odd_c _ _ _ _ _ hSB6 (by omega) (by omega) (by omega) (by omega) (by omega)).mono ?_; rintro e w7 ⟨y3, rfl, y30, y31, hSB7, hG7⟩
            have hown7 := OwnX.kept hown6 hG7 hsb
            have hG07 := hG06.trans hG7
            clear hown6 hSB6 hG06 hG7
            have c0 := RdR.cell liC_sz (Rd.of_owns hown7) (G.refl _ _) HP.out 0 (.int .i64 p.1) rfl
            have c1 := RdR.cell liC_sz (Rd.of_owns hown7) (G.refl _ _) HP.out 1 (.string p.2.1) rfl
            have c2 := RdR.cell liC_sz (Rd.of_owns hown7) (G.refl _ _) HP.out 2 (.int .i64 p.2.2) rfl
            have f0 := ownsRow_free hown7 (j * 3 + 0)
            have f1 := ownsRow_free hown7 (j * 3 + 1)
            have f2 := ownsRow_free hown7 (j * 3 + 2)
            have o1 := OwnX.set liC_sz hown7 HP.out (q := (y1, p.2)) 0 (.int .i64 y1) (by omega) rfl
            have o2 := OwnX.set liC_sz o1 (show (l.set j (y1, p.2))[j]? = some (y1, p.2) by rw [List.getElem?_set_self jl]) (q := (y1, y2, p.2.2)) 1 (.string y2) (by omega) rfl
            rw [List.set_set] at o2
            have o3 := OwnX.set liC_sz o2 (show (l.set j (y1, y2, p.2.2))[j]? = some (y1, y2, p.2.2) by rw [List.getElem?_set_self jl]) (q := (y1, y2, y3)) 2 (.int .i64 y3) (by omega) rfl
            rw [List.set_set] at o3
            simp only [Nat.zero_add, Nat.add_zero] at c0 c1 c2 f0 o3
            clear o1 o2
            go_wp2_with fail
            go_ret
            exact bill_fin (l := l.set j (y1, y2, y3)) (by unfold OwnLi OwnX; rw [List.length_set]; exact o3) (HL.out.set (r := (y1, y2, y3)) HY2.out j) (by rw [List.length_set]; omega) ((((hSB7.setCell (p := ⟨g, j * 3, none⟩) hsg _).setCell (p := ⟨g, j * 3 + 1, none⟩) hsg _).setCell (p := ⟨g, j * 3 + 2, none⟩) hsg _).le (by omega)) (((hG07.setCell (p := ⟨g, j * 3, none⟩) (.inl hgw) _).setCell (p := ⟨g, j * 3 + 1, none⟩) (.inl hgw) _).setCell (p := ⟨g, j * 3 + 2, none⟩) (.inl hgw) _)
end Go.Proofs.YtpgamfoancomiaaDoor

/- Bill: slices.Clone of lines, the function that adds a line. -/
namespace Go.Proofs.YtpgamfoancomiaaDoor
open Go.RowKit

/-- slices.Clone of lines. -/
theorem cloneLi_c (v : Value) (l : List Li) (w : World) (hr : RdR w 3 liC v l) (hn : l.length ≤ 2000) :
    Calls Tryd.prog 89 #[v] w fun e w' => ∃ v', e = .returned v' ∧ OwnLi w' w.heap.size v' l ∧ G w w' none := by
  have q22 : ∀ (w : World) (a : Option Addr) (n c n' c' : Nat), (binOp .eql 64 (.slice a n c) (.slice none n' c')).run Tryd.prog w = .ok (.bool a.isNone) w := fun w a n c n' c' => Lib.run_eql_slice_nil w _ _ a n c n' c' Tryd.underlying64
  obtain ⟨a, cap, rfl, h1, h2, h3, h4, h5⟩ := hr
  cases a with
  | none =>
    obtain ⟨hz, hc⟩ := h4 rfl
    subst hc
    have hl : l = [] := List.eq_nil_of_length_eq_zero hz
    subst hl
    clear h1 h2 h3 h4 h5 hn
    go_enter Tryd.func89, Tryd.ntmps89
    go_wp2_with fail
    go_ret
    exact ⟨_, rfl, World.ownsRow_nil _ _ _ _, G.refl _ _⟩
  | some ad =>
    obtain ⟨b, o, s⟩ := ad
    obtain ⟨e1, e2, e3⟩ := h5 _ rfl
    dsimp only at e1 e2 e3
    subst e1
    obtain ⟨i0, hi, hz0, hz1, hz2⟩ := info_parts li_rowOk.row
    have E3 := Lib.hid e3
    clear e3 h4 h5
    go_enter Tryd.func89, Tryd.ntmps89
    go_wp2_with (at_builtin; refine wpList_append_own _ rfl _ _ 64 rfl w.heap.size 73 i0 (.agg (liC (0, ⟨#[]⟩, 0))) 3 32 Tryd.underlying64 hi hz0 hz1 hz2 rfl (by omega) _ _ _ rfl (World.ownsRow_made w #[] 0 (Nat.le_refl _) (Nat.zero_le _) (by simp)) ⟨b, o, none⟩ l.length cap (rowL liC l) rfl ?qc1 ?qc2 ?qc3 ?qc4 ?qc5 ?qc6 ?_)
    case qc1 => exact h3
    case qc2 =>
      intro j u hj
      rw [add_at]
      exact Lib.cell?_alloc_some _ (E3.out j u hj)
    case qc3 => exact rowL_one li_oneL l
    case qc4 => unfold maxLen; omega
    case qc5 => omega
    case qc6 => simp
    intro v' w1 hown hgrow hnil
    go_wp2_with fail
    go_ret
    refine ⟨v', rfl, by simpa using hown, ?_⟩
    exact ((G.refl w none).alloc _).other hgrow (fun k hk => by simp [Value.ownBlock] at hk; omega)
theorem wp_append_li {w : World} {o : Oper} {a : Act} {K : Act → World → Prop} {Q : Exit → Act → World → Prop} (s x : Operand)
    (ho : o.op = .call { callee := .builtin .append, args := #[s, x], argTypes := #[64, 64] }) (base : Nat) (v : Value) (l : List Li) (hs : a.eval s = v) (hown : OwnLi w base v l)
    (g : Nat) (r : Li) (hx : a.eval x = .slice (some ⟨g, 0, none⟩) 1 1) (hb : Bk w g 73 (liC r)) (hl : l.length ≤ 3000) (hbase : base ≤ w.heap.size)
    (hK : ∀ v' w', OwnLi w' base v' (l ++ [r]) → w.grownBy w' v.ownBlock → K (a.put o.dst v') w') : o.wp Tryd.prog a w K Q := by
  obtain ⟨i0, hi, hz0, hz1, hz2⟩ := info_parts li_rowOk.row
  refine wp_append_own w s x 64 ho base 73 i0 (.agg (liC (0, ⟨#[]⟩, 0))) 3 32 li_rowOk.slice hi hz0 hz1 hz2 rfl (by omega) v l.length (rowL liC l) hs hown ⟨g, 0, none⟩ 1 1 (liC r).toList hx (by rw [Array.length_toList, liC_sz]) (bk_at hb) (li_oneL r) (by unfold maxLen; omega) (by omega) hbase ?_
  intro v' w' h1 h2 _
  refine hK v' w' ?_ h2
  show World.ownsRow _ _ _ _ _ (l ++ [r]).length _
  rw [List.length_append, rowL_snoc]
  exact h1
/-- A block of another type is not the row's. -/
theorem OwnX.bk_ne {α : Type} {T T' : TypeId} {z : Nat} {c : α → Array Value} {w : World} {base g : Nat} {v : Value} {l : List α} {cs : Array Value} (h : OwnX T z c w base v l) (hB : Bk w g T' cs) (hT : T ≠ T') : some g ≠ v.ownBlock := by
  rcases h.2 with ⟨rfl, h3⟩ | ⟨b, cap, cur, rfl, hb, hg, _⟩
  · intro e; cases e
  · intro e
    have e : g = b := Option.some.inj e
    subst e
    unfold Bk at hB
    rw [hB] at hg
    cases hg
    exact hT rfl
def liAdd (ls : List Li) (k : ByteArray) (c : Int) : List Li := if c = 0 then ls else ls ++ [(6, k, c)]
theorem liAdd_len (ls : List Li) (k : ByteArray) (c : Int) : ls.length ≤ (liAdd ls k c).length ∧ (liAdd ls k c).length ≤ ls.length + 1 := by
  unfold liAdd
  split
  · omega
  · simp
theorem LiOk.add {ls : List Li} {k : ByteArray} {c : Int} (h : LiOk ls) (hk : Small k) : LiOk (liAdd ls k c) := by
  unfold liAdd
  split
  · exact h
  · exact LiOk.snoc h hk
set_option maxRecDepth 100000 in
set_option maxHeartbeats 1000000 in
theorem add1_c (k : ByteArray) (c : Int) (ls : List Li) (g base : Nat) (v : Value) (w : World) (hbs : base ≤ w.heap.size) (hown : OwnLi w base v ls) (hB : Bk w g 64 #[v]) (hn : ls.length ≤ 2900) :
    Calls Tryd.prog 90 #[.string k, .int .i64 c, .pointer (some ⟨g, 0, none⟩)] w fun e w' => e = .returned (.tuple #[]) ∧ ∃ v', OwnLi w' base v' (liAdd ls k c) ∧ Bk w' g 64 #[v'] ∧ GS (fun j => j = g ∨ base ≤ j) w w' := by
  obtain ⟨a, cap, rfl, -, -⟩ := RdR.form (Rd.of_owns hown)
  by_cases h0 : c = 0
  · have HL : Hid (liAdd ls k c = ls) := Lib.hid (if_pos h0)
    subst h0
    go_enter Tryd.func90, Tryd.ntmps90
    go_wp2_with fail
    (try simp only [Exit.inBlock, Exit.then])
    refine bodyPost_end (results_none rfl _ _ _) rfl ?_
    exact ⟨rfl, _, by rw [HL.out]; exact hown, hB, GS.of_G (G.refl _ _)⟩
  · have HL : Hid (liAdd ls k c = ls ++ [(6, k, c)]) := Lib.hid (if_neg h0)
    have h0' : (c != 0) = true := by simpa using h0
    clear h0
    have c0 : w.cell? ⟨g, 0, none⟩ = some (.slice a ls.length cap) := hB.cell 0
    have hownA := OwnX.alloc hown (.cells (liC (6, k, c)) 73)
    have hBA := hB.alloc (.cells (liC (6, k, c)) 73)
    have hlow := OwnX.low hownA
    have hneA := OwnX.bk_ne hownA hBA (by decide)
    go_enter Tryd.func90, Tryd.ntmps90
    go_wp2_with (at_builtin; refine wpList_plain rfl fun K' hK' => wp_append_li _ _ rfl base (.slice a ls.length cap) ls rfl hownA w.heap.size (6, k, c) rfl (Bk.new w _ _) (by omega) (by simp; omega) ?_; intro v8 w8 hown8 hgrow; obtain ⟨a8, cap8, rfl, -, -⟩ := RdR.form (Rd.of_owns hown8); rw [List.length_append, show ([(6, k, c)] : List Li).length = 1 from rfl] at hown8 ⊢; have hB8 := hBA.grown hgrow hneA; have f8 := hB8.free 0; have d8 : w8.cell? ⟨g, 0, none⟩ = some (.slice a ls.length cap) := hB8.cell 0; refine hK' _ _ ?_)
    (try simp only [Exit.inBlock, Exit.then])
    refine bodyPost_end (results_none rfl _ _ _) rfl ?_
    have hgs : GS (fun j => j = g ∨ base ≤ j) w w8 := (GS.of_G ((G.refl w none).alloc (.cells (liC (6, k, c)) 73))).trans ⟨hgrow.os, hgrow.tape, hgrow.output, hgrow.size, fun j hj hS => hgrow.block j hj (fun e => hS (.inr (hlow _ e.symm)))⟩
    refine ⟨rfl, _, by rw [HL.out]; exact OwnX.far hown8 (p := ⟨g, 0, none⟩) (OwnX.bk_ne hown8 hB8 (by decide)) _, hB8.set 0 _, hgs.trans (GS.of_Gs ((G.refl w8 (some g)).setCell (p := ⟨g, 0, none⟩) (.inr rfl) _) (.inl rfl))⟩
end Go.Proofs.YtpgamfoancomiaaDoor

/- Bill. Its drawn regions are written by genblf.py. -/
namespace Go.Proofs.YtpgamfoancomiaaDoor
open Go.RowKit

def kLate : ByteArray := ⟨#[108, 97, 116, 101]⟩
def kDist : ByteArray := ⟨#[100, 105, 115, 116, 97, 110, 99, 101]⟩
def kFuel : ByteArray := ⟨#[102, 117, 101, 108]⟩
/-- The lines of a bill. -/
def billL (x : De) (h : Hh) (l : List Lg) (ls : List Li) : List Li := liAdd (liAdd (liAdd ls kLate (lcN x (laN h l))) kDist (dcN x h l)) kFuel (x.eighth * miS l)
def biE (x : De) (h : Hh) (l : List Lg) (ls : List Li) : Int := if cbE x h l ls = 0 then liE (billL x h l ls) else cbE x h l ls
def biL (x : De) (h : Hh) (l : List Lg) (ls : List Li) : List Li := if biE x h l ls = 0 then billL x h l ls else []
theorem small_late : Small kLate ∧ Small kDist ∧ Small kFuel := ⟨small_of (by decide), small_of (by decide), small_of (by decide)⟩
theorem billL_ok {x : De} {h : Hh} {l : List Lg} {ls : List Li} (hl : LiOk ls) : LiOk (billL x h l ls) := ((hl.add small_late.1).add small_late.2.1).add small_late.2.2
theorem last_ok {h : Hh} {l : List Lg} (e : hiE h l = 0) (ho : ioB l = false) : (∀ p, l[l.length - 1]? = some p → bnd p.2.2.1) ∧ 0 ≤ laN h l ∧ laN h l ≤ 5761440 := by
  obtain ⟨p, hp⟩ : ∃ p, l[l.length - 1]? = some p := ⟨_, List.getElem?_eq_getElem (by have := (hiE_pos0 e).1; omega)⟩
  have h1 := (ended_ok e ho p (List.mem_of_getElem? hp)).2
  have h2 := (rgE_ok h1).1
  have h3 := (hiE_ls e).2
  have h4 : 0 ≤ p.2.2.1 ∧ p.2.2.1 < 5761440 := by simpa [momB] using h2
  have h5 : 0 ≤ h.2.2.2 := by
    unfold tE at h3
    split at h3
    · omega
    · cases h3
  refine ⟨fun q hq => ?_, ?_⟩
  · rw [hp] at hq
    cases hq
    unfold bnd
    omega
  · unfold laN
    rw [hp]
    dsimp only
    omega
set_option maxRecDepth 100000 in
set_option maxHeartbeats 4000000 in
theorem bill_c (x : De) (h : Hh) (v : Value) (l : List Lg) (u : Value) (ls : List Li) (w : World) (hr : RdR w 9 lgC v l) (hl : LgOk l) (hs1 : Small h.1) (hs2 : Small h.2.1) (hb1 : bnd h.2.2.1) (hb2 : bnd h.2.2.2) (hn : l.length ≤ 1000)
    (hu : RdR w 3 liC u ls) (hls : LiOk ls) (hm : ls.length ≤ 1990) :
    Calls Tryd.prog 38 #[.agg (deC x), .agg (hiC h v), u] w fun e w' => ∃ v', e = .returned (.tuple #[v', .int .i64 (biE x h l ls)]) ∧ RdR w' 3 liC v' (biL x h l ls) ∧ G w w' none := by
  obtain ⟨a, cap, rfl, hcap, hmm⟩ := RdR.form hr
  have CB := Lib.hid (fun w' (q : RdR w' 9 lgC (.slice a l.length cap) l) (q2 : RdR w' 3 liC u ls) => checkBill_c x h _ l u ls w' q hl hs1 hs2 hb1 hb2 hn q2 hls (by omega))
  have HOK : Hid (cbE x h l ls = 0 → deE x = 0 ∧ hiE h l = 0 ∧ liE ls = 0 ∧ ioB l = false) := Lib.hid cbE_ok
  have HE1 : Hid (cbE x h l ls = 0 → biE x h l ls = liE (billL x h l ls)) := Lib.hid fun p => by unfold biE; rw [if_pos p]
  have HE2 : Hid (cbE x h l ls ≠ 0 → biE x h l ls = cbE x h l ls ∧ biL x h l ls = []) := Lib.hid fun p => by
    have q : biE x h l ls = cbE x h l ls := by unfold biE; rw [if_neg p]
    exact ⟨q, by unfold biL; rw [q, if_neg p]⟩
  have HR := Lib.hid hr
  have HU := Lib.hid hu
  have HLS := Lib.hid (billL_ok (x := x) (h := h) (l := l) hls)
  clear hr hu hls
  generalize hcb : cbE x h l ls = C at CB HOK HE1 HE2
  clear hcb
  have CDC := Lib.hid (fun (d : deE x = 0) (e : hiE h l = 0) (o : ioB l = false) w' (q : RdR w' 9 lgC (.slice a l.length cap) l) => distanceCents_c x h _ l w' d e o q hb1 hb2)
  have CLC := Lib.hid (fun (d : deE x = 0) (e : hiE h l = 0) (o : ioB l = false) w' => lateCents_c x (laN h l) w' d (last_ok e o).2.1 (by have := (last_ok e o).2.2; omega))
  have CLA := Lib.hid (fun (e : hiE h l = 0) (o : ioB l = false) w' (q : RdR w' 9 lgC (.slice a l.length cap) l) => lateness_c h _ l w' q (hiE_pos0 e).1 hn hb2 (last_ok e o).1)
  have CMI := Lib.hid (fun (e : hiE h l = 0) (o : ioB l = false) w' (q : RdR w' 9 lgC (.slice a l.length cap) l) => miSum_c h _ l w' q e o)
  have HMI := Lib.hid (fun (e : hiE h l = 0) (o : ioB l = false) => (mi_bnd e o).2)
  have HDE := Lib.hid (fun (d : deE x = 0) => (deE_ok d).2.2.1)
  have HBL : Hid (billL x h l ls = liAdd (liAdd (liAdd ls kLate (lcN x (laN h l))) kDist (dcN x h l)) kFuel (x.eighth * miS l)) := Lib.hid rfl
  have HBI : Hid (biL x h l ls = if biE x h l ls = 0 then billL x h l ls else []) := Lib.hid rfl
  generalize biL x h l ls = BIL at HE2 HBI ⊢
  generalize biE x h l ls = BIE at HE1 HE2 HBI ⊢
  generalize billL x h l ls = BL at HE1 HBI HBL HLS
  generalize lcN x (laN h l) = LC at HBL CLC
  generalize laN h l = LN at CLC CLA
  generalize dcN x h l = DC at HBL CDC
  generalize miS l = MI at HBL CMI HMI
  obtain ⟨a0, a1, a2, a3, a4, a5, a6⟩ := x
  dsimp only at HBL HDE
  rw [show deC ⟨a0, a1, a2, a3, a4, a5, a6⟩ = #[.int .i64 a0, .int .i64 a1, .int .i64 a2, .int .i64 a3, .int .i64 a4, .int .i64 a5, .int .i64 a6] from rfl] at *
  have hD := (Bk.new w 27 #[.int .i64 a0, .int .i64 a1, .int .i64 a2, .int .i64 a3, .int .i64 a4, .int .i64 a5, .int .i64 a6]).alloc (.cells (hiC h (.slice a l.length cap)) 33)
  have hH := Bk.newAt (w := w.alloc (.cells #[.int .i64 a0, .int .i64 a1, .int .i64 a2, .int .i64 a3, .int .i64 a4, .int .i64 a5, .int .i64 a6] 27)) (b := w.heap.size + 1) (by simp) 33 (hiC h (.slice a l.length cap))
  have hG := ((G.refl w none).alloc (.cells #[.int .i64 a0, .int .i64 a1, .int .i64 a2, .int .i64 a3, .int .i64 a4, .int .i64 a5, .int .i64 a6] 27)).alloc (.cells (hiC h (.slice a l.length cap)) 33)
  simp only [hiC] at hD hH hG CB CDC CLA CMI ⊢
  go_enter Tryd.func38, Tryd.ntmps38
  go_upto_region 1 with fail
  generalize (w.alloc (.cells #[.int .i64 a0, .int .i64 a1, .int .i64 a2, .int .i64 a3, .int .i64 a4, .int .i64 a5, .int .i64 a6] 27)).alloc (.cells #[.string h.1, .string h.2.1, .int .i64 h.2.2.1, .int .i64 h.2.2.2, .slice a l.length cap] 33) = w2 at hG hD hH ⊢
  go_wp2_with (first | (refine wpList_load_row rfl 27 _ rfl w.heap.size rfl 27 #[.int .i64 a0, .int .i64 a1, .int .i64 a2, .int .i64 a3, .int .i64 a4, .int .i64 a5, .int .i64 a6] (0, 0) _ hD Tryd.underlying27 rfl (de_info ⟨a0, a1, a2, a3, a4, a5, a6⟩) ?_) | (refine wpList_load_row rfl 33 _ rfl (w.heap.size + 1) rfl 33 #[.string h.1, .string h.2.1, .int .i64 h.2.2.1, .int .i64 h.2.2.2, .slice a l.length cap] (0, 0) _ hH Tryd.underlying33 rfl (hi_info h _) ?_))
  refine (CB.out _ (HR.out.quiet hG) (HU.out.quiet hG)).mono ?_; rintro e w3 ⟨rfl, hG3⟩
  have hD3 := hD.quiet hG3
  have hH3 := hH.quiet hG3
  have hG3 := hG.trans hG3
  clear hD hH hG CB
  by_cases k1 : C = 0
  · obtain ⟨o1, o2, -, o4⟩ := HOK.out k1
    have HX := Lib.hid (HE1.out k1)
    have hmi := HMI.out o2 o4
    have hde := HDE.out o1
    have CDC1 := Lib.hid (CDC.out o1 o2 o4)
    have CLC1 := Lib.hid (CLC.out o1 o2 o4)
    have CLA1 := Lib.hid (CLA.out o2 o4)
    have CMI1 := Lib.hid (CMI.out o2 o4)
    clear CDC CLC CLA CMI HMI HDE HE1 HE2 HOK o1 o2 o4
    subst k1
    have hwm : IntKind.i64.wrap (a2 * MI) = a2 * MI := by
      have q1 : 0 ≤ a2 * MI := Int.mul_nonneg hde.1 hmi.1
      have q2 : a2 * MI ≤ 100000 * 160 := Int.mul_le_mul hde.2 hmi.2 hmi.1 (by omega)
      rw [IntKind.wrap_i64]; omega
    clear hmi hde
    go_wp2_with fail
    refine (cloneLi_c u ls _ (HU.out.quiet hG3) (by omega)).mono ?_; rintro e w4 ⟨v1, rfl, hown4, hG4⟩
    have hsz4 : w3.heap.size ≤ w4.heap.size := hG4.size
    have hsz3 : w.heap.size + 2 ≤ w3.heap.size := by have := hH3.lt; omega
    have hD5 := (hD3.quiet hG4).alloc (.cells #[v1] 64)
    have hH5 := (hH3.quiet hG4).alloc (.cells #[v1] 64)
    have hG5 := (hG3.trans hG4).alloc (.cells #[v1] 64)
    have hown5 := OwnX.alloc hown4 (.cells #[v1] 64)
    have hL5 := Bk.new w4 64 #[v1]
    obtain ⟨b1, cap1, rfl, -, -⟩ := RdR.form (Rd.of_owns hown4)
    have hbs : w3.heap.size ≤ (w4.alloc (.cells #[.slice b1 ls.length cap1] 64)).heap.size := by simp; omega
    clear hD3 hH3 hG3 hown4 hG4
    go_upto_region 6 with fail
    generalize w4.alloc (.cells #[.slice b1 ls.length cap1] 64) = w5 at hD5 hH5 hG5 hown5 hL5 hbs ⊢
    have hgz : w.heap.size + 2 ≤ w4.heap.size := by omega
    generalize w4.heap.size = g at hL5 hgz ⊢
    have hz5 : w3.heap.size ≤ w5.heap.size := hbs
    clear hbs
    -- @REGION1
    have hq := (G.refl w5 none).drew
    have hD6 := hD5.quiet hq
    have hH6 := hH5.quiet hq
    have hL6 := hL5.quiet hq
    have hown6 := OwnX.quiet hown5 hq
    have hz6 := Nat.le_trans hz5 hq.size
    have hG6 := hG5.trans hq
    clear hq hD5 hH5 hL5 hown5 hz5 hG5
    refine wp_region_held_drew (S := (fun w' => w'.cell? ⟨w.heap.size, 0, none⟩ = some (.int .i64 a0) ∧ w'.cell? ⟨w.heap.size, 1, none⟩ = some (.int .i64 a1) ∧ w'.cell? ⟨w.heap.size, 2, none⟩ = some (.int .i64 a2) ∧ w'.cell? ⟨w.heap.size, 3, none⟩ = some (.int .i64 a3) ∧ w'.cell? ⟨w.heap.size, 4, none⟩ = some (.int .i64 a4) ∧ w'.cell? ⟨w.heap.size, 5, none⟩ = some (.int .i64 a5) ∧ w'.cell? ⟨w.heap.size, 6, none⟩ = some (.int .i64 a6) ∧ w'.cell? ⟨w.heap.size + 1, 0, none⟩ = some (.string h.1) ∧ w'.cell? ⟨w.heap.size + 1, 1, none⟩ = some (.string h.2.1) ∧ w'.cell? ⟨w.heap.size + 1, 2, none⟩ = some (.int .i64 h.2.2.1) ∧ w'.cell? ⟨w.heap.size + 1, 3, none⟩ = some (.int .i64 h.2.2.2) ∧ w'.cell? ⟨w.heap.size + 1, 4, none⟩ = some (.slice a l.length cap))) (by kernel_rfl) ?_ (fun hHeld => ?_)
    · exact ⟨hD6.cell 0, hD6.cell 1, hD6.cell 2, hD6.cell 3, hD6.cell 4, hD6.cell 5, hD6.cell 6, hH6.cell 0, hH6.cell 1, hH6.cell 2, hH6.cell 3, hH6.cell 4⟩
    refine wpAnyH_take (i := 0) (oi := { dst := some 22, op := Op.move (Operand.tmp 10), type := 123, pos := _, after := #[], guard := none }) (v := ?_) rfl (by kernel_rfl) (by kernel_rfl) (by kernel_rfl) (fun _ _ _ h => h) (Or.inl ⟨by rfl, ?_⟩) (by assumption) ?_
    rotate_left
    · (intro w hSw; obtain ⟨s0, s1, s2, s3, s4, s5, s6, s7, s8, s9, s10, s11⟩ := hSw; (go_simp <;> with_reducible rfl))
    try simp only [Act.put, List.setIfInBounds_toArray, List.set_cons_zero, List.set_cons_succ]
    refine wpAnyH_take (i := 1) (oi := { dst := some 23, op := Op.load 27 (Operand.tmp 3), type := 27, pos := _, after := #[], guard := none }) (v := ?_) rfl (by kernel_rfl) (by kernel_rfl) (by kernel_rfl) (fun _ _ _ h => h) (Or.inl ⟨by rfl, ?_⟩) (by assumption) ?_
    rotate_left
    · (intro w hSw; obtain ⟨s0, s1, s2, s3, s4, s5, s6, s7, s8, s9, s10, s11⟩ := hSw; (go_simp <;> with_reducible rfl))
    try simp only [Act.put, List.setIfInBounds_toArray, List.set_cons_zero, List.set_cons_succ]
    refine wpAnyH_take (i := 2) (oi := { dst := some 24, op := Op.load 33 (Operand.tmp 4), type := 33, pos := _, after := #[], guard := none }) (v := ?_) rfl (by kernel_rfl) (by kernel_rfl) (by kernel_rfl) (fun _ _ _ h => h) (Or.inl ⟨by rfl, ?_⟩) (by assumption) ?_
    rotate_left
    · (intro w hSw; obtain ⟨s0, s1, s2, s3, s4, s5, s6, s7, s8, s9, s10, s11⟩ := hSw; (go_simp <;> with_reducible rfl))
    try simp only [Act.put, List.setIfInBounds_toArray, List.set_cons_zero, List.set_cons_succ]
    refine wpAnyH_ready (rs := [3]) (by kernel_rfl) (by simp) ?_
    refine AllReadyH.cons (o := { dst := some 25, op := Op.call { callee := Callee.value (Operand.func 86), args := #[Operand.tmp 24], argTypes := #[33] }, type := 3, pos := _, after := #[{ on := 2, ground := Ground.data }], guard := none }) rfl (fun K hK => ?_) AllReadyH.nil
    go_simp
    refine (CLA1.out _ (HR.out.quiet hG6)).mono ?_
    rintro e w7 ⟨rfl, hh⟩
    have hD7 := hD6.quiet hh
    have hH7 := hH6.quiet hh
    have hL7 := hL6.quiet hh
    have hown7 := OwnX.quiet hown6 hh
    have hz7 := Nat.le_trans hz6 hh.size
    have hG7 := hG6.trans hh
    clear hh hD6 hH6 hL6 hown6 hz6 hG6
    refine hK.out _ _ ?_ (fun hHeld => ?_)
    · exact ⟨hD7.cell 0, hD7.cell 1, hD7.cell 2, hD7.cell 3, hD7.cell 4, hD7.cell 5, hD7.cell 6, hH7.cell 0, hH7.cell 1, hH7.cell 2, hH7.cell 3, hH7.cell 4⟩
    clear hK K
    try simp only [Act.put, List.setIfInBounds_toArray, List.set_cons_zero, List.set_cons_succ]
    refine wpAnyH_ready (rs := [4]) (by kernel_rfl) (by simp) ?_
    refine AllReadyH.cons (o := { dst := some 26, op := Op.call { callee := Callee.value (Operand.func 87), args := #[Operand.tmp 23, Operand.tmp 25], argTypes := #[27, 3] }, type := 3, pos := _, after := #[{ on := 1, ground := Ground.data }, { on := 3, ground := Ground.data }, { on := 3, ground := Ground.chain }], guard := none }) rfl (fun K hK => ?_) AllReadyH.nil
    go_simp
    refine (CLC1.out _).mono ?_
    rintro e w8 ⟨rfl, hh⟩
    have hD8 := hD7.quiet hh
    have hH8 := hH7.quiet hh
    have hL8 := hL7.quiet hh
    have hown8 := OwnX.quiet hown7 hh
    have hz8 := Nat.le_trans hz7 hh.size
    have hG8 := hG7.trans hh
    clear hh hD7 hH7 hL7 hown7 hz7 hG7
    refine hK.out _ _ ?_ (fun hHeld => ?_)
    · exact ⟨hD8.cell 0, hD8.cell 1, hD8.cell 2, hD8.cell 3, hD8.cell 4, hD8.cell 5, hD8.cell 6, hH8.cell 0, hH8.cell 1, hH8.cell 2, hH8.cell 3, hH8.cell 4⟩
    clear hK K
    try simp only [Act.put, List.setIfInBounds_toArray, List.set_cons_zero, List.set_cons_succ]
    refine wpAnyH_ready (rs := [5]) (by kernel_rfl) (by simp) ?_
    refine AllReadyH.cons (o := { dst := some 27, op := Op.call { callee := Callee.value (Operand.tmp 22), args := #[Operand.const (Value.string { data := #[108, 97, 116, 101] }), Operand.tmp 26], argTypes := #[9, 3] }, type := 0, pos := _, after := #[{ on := 0, ground := Ground.data }, { on := 4, ground := Ground.data }, { on := 4, ground := Ground.chain }], guard := none }) rfl (fun K hK => ?_) AllReadyH.nil
    go_simp
    refine (add1_c kLate LC ls g w3.heap.size _ _ hz8 hown8 hL8 (by omega)).mono ?_
    rintro e w9 ⟨rfl, v9, hown9, hL9, hS⟩
    have hD9 := hD8.gs hS (fun e => by rcases e with e | e <;> omega)
    have hH9 := hH8.gs hS (fun e => by rcases e with e | e <;> omega)
    have hz9 := Nat.le_trans hz8 hS.size
    have hG9 := GS.own hG8 hS (fun k e => by rcases e with rfl | e <;> omega)
    clear hS hD8 hH8 hL8 hown8 hz8 hG8
    refine hK.out _ _ ?_ (fun hHeld => ?_)
    · exact ⟨hD9.cell 0, hD9.cell 1, hD9.cell 2, hD9.cell 3, hD9.cell 4, hD9.cell 5, hD9.cell 6, hH9.cell 0, hH9.cell 1, hH9.cell 2, hH9.cell 3, hH9.cell 4⟩
    clear hK K
    try simp only [Act.put, List.setIfInBounds_toArray, List.set_cons_zero, List.set_cons_succ]
    refine wpAnyH_done (by kernel_rfl) ?_ _
    -- @END1
    -- @REGION2
    go_wp2_with (first | (refine wpList_load_row rfl 27 _ rfl w.heap.size rfl 27 #[.int .i64 a0, .int .i64 a1, .int .i64 a2, .int .i64 a3, .int .i64 a4, .int .i64 a5, .int .i64 a6] (0, 0) _ hD9 Tryd.underlying27 rfl (de_info ⟨a0, a1, a2, a3, a4, a5, a6⟩) ?_) | (refine wpList_load_row rfl 33 _ rfl (w.heap.size + 1) rfl 33 #[.string h.1, .string h.2.1, .int .i64 h.2.2.1, .int .i64 h.2.2.2, .slice a l.length cap] (0, 0) _ hH9 Tryd.underlying33 rfl (hi_info h _) ?_))
    refine (CDC1.out _ (HR.out.quiet hG9)).mono ?_
    rintro e w10 ⟨rfl, hh⟩
    have hD10 := hD9.quiet hh
    have hH10 := hH9.quiet hh
    have hL10 := hL9.quiet hh
    have hown10 := OwnX.quiet hown9 hh
    have hz10 := Nat.le_trans hz9 hh.size
    have hG10 := hG9.trans hh
    clear hh hD9 hH9 hL9 hown9 hz9 hG9
    go_wp2_with fail
    refine (add1_c kDist DC (liAdd ls kLate LC) g w3.heap.size _ _ hz10 hown10 hL10 (by have := (liAdd_len ls kLate LC).2; omega)).mono ?_
    rintro e w11 ⟨rfl, v11, hown11, hL11, hS⟩
    have hD11 := hD10.gs hS (fun e => by rcases e with e | e <;> omega)
    have hH11 := hH10.gs hS (fun e => by rcases e with e | e <;> omega)
    have hz11 := Nat.le_trans hz10 hS.size
    have hG11 := GS.own hG10 hS (fun k e => by rcases e with rfl | e <;> omega)
    clear hS hD10 hH10 hL10 hown10 hz10 hG10
    go_upto_region 8 with fail
    have hq := (G.refl w11 none).drew
    have hD12 := hD11.quiet hq
    have hH12 := hH11.quiet hq
    have hL12 := hL11.quiet hq
    have hown12 := OwnX.quiet hown11 hq
    have hz12 := Nat.le_trans hz11 hq.size
    have hG12 := hG11.trans hq
    clear hq hD11 hH11 hL11 hown11 hz11 hG11
    refine wp_region_held_drew (S := (fun w' => w'.cell? ⟨w.heap.size, 0, none⟩ = some (.int .i64 a0) ∧ w'.cell? ⟨w.heap.size, 1, none⟩ = some (.int .i64 a1) ∧ w'.cell? ⟨w.heap.size, 2, none⟩ = some (.int .i64 a2) ∧ w'.cell? ⟨w.heap.size, 3, none⟩ = some (.int .i64 a3) ∧ w'.cell? ⟨w.heap.size, 4, none⟩ = some (.int .i64 a4) ∧ w'.cell? ⟨w.heap.size, 5, none⟩ = some (.int .i64 a5) ∧ w'.cell? ⟨w.heap.size, 6, none⟩ = some (.int .i64 a6) ∧ w'.cell? ⟨w.heap.size + 1, 0, none⟩ = some (.string h.1) ∧ w'.cell? ⟨w.heap.size + 1, 1, none⟩ = some (.string h.2.1) ∧ w'.cell? ⟨w.heap.size + 1, 2, none⟩ = some (.int .i64 h.2.2.1) ∧ w'.cell? ⟨w.heap.size + 1, 3, none⟩ = some (.int .i64 h.2.2.2) ∧ w'.cell? ⟨w.heap.size + 1, 4, none⟩ = some (.slice a l.length cap))) (by kernel_rfl) ?_ (fun hHeld => ?_)
    · exact ⟨hD12.cell 0, hD12.cell 1, hD12.cell 2, hD12.cell 3, hD12.cell 4, hD12.cell 5, hD12.cell 6, hH12.cell 0, hH12.cell 1, hH12.cell 2, hH12.cell 3, hH12.cell 4⟩
    refine wpAnyH_take (i := 0) (oi := { dst := some 33, op := Op.move (Operand.tmp 10), type := 123, pos := _, after := #[], guard := none }) (v := ?_) rfl (by kernel_rfl) (by kernel_rfl) (by kernel_rfl) (fun _ _ _ h => h) (Or.inl ⟨by rfl, ?_⟩) (by assumption) ?_
    rotate_left
    · (intro w hSw; obtain ⟨s0, s1, s2, s3, s4, s5, s6, s7, s8, s9, s10, s11⟩ := hSw; (go_simp <;> with_reducible rfl))
    try simp only [Act.put, List.setIfInBounds_toArray, List.set_cons_zero, List.set_cons_succ]
    refine wpAnyH_take (i := 1) (oi := { dst := some 34, op := Op.fieldAddr 27 (Operand.tmp 3) 2, type := 0, pos := _, after := #[], guard := none }) (v := ?_) rfl (by kernel_rfl) (by kernel_rfl) (by kernel_rfl) (fun _ _ _ h => h) (Or.inl ⟨by rfl, ?_⟩) (by assumption) ?_
    rotate_left
    · (intro w hSw; obtain ⟨s0, s1, s2, s3, s4, s5, s6, s7, s8, s9, s10, s11⟩ := hSw; (go_simp <;> with_reducible rfl))
    try simp only [Act.put, List.setIfInBounds_toArray, List.set_cons_zero, List.set_cons_succ]
    refine wpAnyH_take (i := 2) (oi := { dst := some 35, op := Op.load 3 (Operand.tmp 34), type := 3, pos := _, after := #[{ on := 1, ground := Ground.data }], guard := none }) (v := ?_) rfl (by kernel_rfl) (by kernel_rfl) (by kernel_rfl) (fun _ _ _ h => h) (Or.inl ⟨by rfl, ?_⟩) (by assumption) ?_
    rotate_left
    · (intro w hSw; obtain ⟨s0, s1, s2, s3, s4, s5, s6, s7, s8, s9, s10, s11⟩ := hSw; (go_simp <;> with_reducible rfl))
    try simp only [Act.put, List.setIfInBounds_toArray, List.set_cons_zero, List.set_cons_succ]
    refine wpAnyH_take (i := 3) (oi := { dst := some 36, op := Op.load 33 (Operand.tmp 4), type := 33, pos := _, after := #[], guard := none }) (v := ?_) rfl (by kernel_rfl) (by kernel_rfl) (by kernel_rfl) (fun _ _ _ h => h) (Or.inl ⟨by rfl, ?_⟩) (by assumption) ?_
    rotate_left
    · (intro w hSw; obtain ⟨s0, s1, s2, s3, s4, s5, s6, s7, s8, s9, s10, s11⟩ := hSw; (go_simp <;> with_reducible rfl))
    try simp only [Act.put, List.setIfInBounds_toArray, List.set_cons_zero, List.set_cons_succ]
    refine wpAnyH_ready (rs := [4]) (by kernel_rfl) (by simp) ?_
    refine AllReadyH.cons (o := { dst := some 37, op := Op.call { callee := Callee.value (Operand.func 83), args := #[Operand.tmp 36, Operand.func 85], argTypes := #[33, 117] }, type := 3, pos := _, after := #[{ on := 3, ground := Ground.data }], guard := none }) rfl (fun K hK => ?_) AllReadyH.nil
    go_simp
    refine (CMI1.out _ (HR.out.quiet hG12)).mono ?_
    rintro e w13 ⟨rfl, hh⟩
    have hD13 := hD12.quiet hh
    have hH13 := hH12.quiet hh
    have hL13 := hL12.quiet hh
    have hown13 := OwnX.quiet hown12 hh
    have hz13 := Nat.le_trans hz12 hh.size
    have hG13 := hG12.trans hh
    clear hh hD12 hH12 hL12 hown12 hz12 hG12
    refine hK.out _ _ ?_ (fun hHeld => ?_)
    · exact ⟨hD13.cell 0, hD13.cell 1, hD13.cell 2, hD13.cell 3, hD13.cell 4, hD13.cell 5, hD13.cell 6, hH13.cell 0, hH13.cell 1, hH13.cell 2, hH13.cell 3, hH13.cell 4⟩
    clear hK K
    try simp only [Act.put, List.setIfInBounds_toArray, List.set_cons_zero, List.set_cons_succ]
    refine wpAnyH_take (i := 5) (oi := { dst := some 38, op := Op.binOp BinOp.mul 3 (Operand.tmp 35) (Operand.tmp 37) 3, type := 3, pos := _, after := #[{ on := 2, ground := Ground.data }, { on := 4, ground := Ground.data }], guard := none }) (v := ?_) rfl (by kernel_rfl) (by kernel_rfl) (by kernel_rfl) (fun _ _ _ h => h) (Or.inl ⟨by rfl, ?_⟩) (by assumption) ?_
    rotate_left
    · (intro w hSw; obtain ⟨s0, s1, s2, s3, s4, s5, s6, s7, s8, s9, s10, s11⟩ := hSw; (go_simp <;> with_reducible rfl))
    try simp only [Act.put, List.setIfInBounds_toArray, List.set_cons_zero, List.set_cons_succ]
    refine wpAnyH_ready (rs := [6]) (by kernel_rfl) (by simp) ?_
    refine AllReadyH.cons (o := { dst := some 39, op := Op.call { callee := Callee.value (Operand.tmp 33), args := #[Operand.const (Value.string { data := #[102, 117, 101, 108] }), Operand.tmp 38], argTypes := #[9, 3] }, type := 0, pos := _, after := #[{ on := 0, ground := Ground.data }, { on := 5, ground := Ground.data }, { on := 4, ground := Ground.chain }], guard := none }) rfl (fun K hK => ?_) AllReadyH.nil
    go_simp
    refine (add1_c kFuel (a2 * MI) (liAdd (liAdd ls kLate LC) kDist DC) g w3.heap.size _ _ hz13 hown13 hL13 (by have := (liAdd_len ls kLate LC).2; have := (liAdd_len (liAdd ls kLate LC) kDist DC).2; omega)).mono ?_
    rintro e w14 ⟨rfl, v14, hown14, hL14, hS⟩
    have hD14 := hD13.gs hS (fun e => by rcases e with e | e <;> omega)
    have hH14 := hH13.gs hS (fun e => by rcases e with e | e <;> omega)
    have hz14 := Nat.le_trans hz13 hS.size
    have hG14 := GS.own hG13 hS (fun k e => by rcases e with rfl | e <;> omega)
    clear hS hD13 hH13 hL13 hown13 hz13 hG13
    refine hK.out _ _ ?_ (fun hHeld => ?_)
    · exact ⟨hD14.cell 0, hD14.cell 1, hD14.cell 2, hD14.cell 3, hD14.cell 4, hD14.cell 5, hD14.cell 6, hH14.cell 0, hH14.cell 1, hH14.cell 2, hH14.cell 3, hH14.cell 4⟩
    clear hK K
    try simp only [Act.put, List.setIfInBounds_toArray, List.set_cons_zero, List.set_cons_succ]
    refine wpAnyH_done (by kernel_rfl) ?_ _
    -- @END2
    have hlen : (liAdd (liAdd (liAdd ls kLate LC) kDist DC) kFuel (a2 * MI)).length ≤ 1993 := by
      have := (liAdd_len ls kLate LC).2
      have := (liAdd_len (liAdd ls kLate LC) kDist DC).2
      have := (liAdd_len (liAdd (liAdd ls kLate LC) kDist DC) kFuel (a2 * MI)).2
      omega
    rw [← HBL.out] at hown14 hlen
    obtain ⟨b2, cap2, rfl, -, -⟩ := RdR.form (Rd.of_owns hown14)
    have c14 : w14.cell? ⟨g, 0, none⟩ = some (.slice b2 BL.length cap2) := hL14.cell 0
    go_wp2_with fail
    refine (checkLines_c _ BL _ (Rd.of_owns hown14) HLS.out (by omega)).mono ?_; rintro e w15 ⟨rfl, hh⟩
    have hR15 := Rd.quiet (Rd.of_owns hown14) hh
    have hL15 := hL14.quiet hh
    have hG15 := hG14.trans hh
    have c15 : w15.cell? ⟨g, 0, none⟩ = some (.slice b2 BL.length cap2) := hL15.cell 0
    clear hh hD14 hH14 hL14 hown14 hG14 c14
    obtain ⟨LE, hLE⟩ : ∃ LE, liE BL = LE := ⟨_, rfl⟩
    have HY := Lib.hid (HX.out.trans hLE)
    rw [hLE]
    clear hLE HX
    by_cases k2 : LE = 0
    · have HZ := Lib.hid (HBI.out.trans (if_pos (HY.out.trans k2)))
      subst k2
      go_wp2_with fail
      go_ret2
      exact ⟨_, by rw [HY.out]; rfl, by rw [HZ.out]; exact hR15, hG15⟩
    · have k2' : (LE != 0) = true := by simpa using k2
      have HZ := Lib.hid (HBI.out.trans (if_neg (fun e => k2 (HY.out.symm.trans e))))
      clear k2
      go_wp2_with fail
      go_ret2
      exact ⟨_, by rw [HY.out]; rfl, by rw [HZ.out]; exact RdR.nil _ _ _, hG15⟩
  · have k1' : (C != 0) = true := by simpa using k1
    obtain ⟨q1, q2⟩ := HE2.out k1
    have HY := Lib.hid q1
    have HZ := Lib.hid q2
    clear q1 q2 k1 HE1 HE2 HOK
    go_wp2_with fail
    go_ret2
    exact ⟨_, by rw [HY.out]; rfl, by rw [HZ.out]; exact RdR.nil _ _ _, hG3⟩
end Go.Proofs.YtpgamfoancomiaaDoor

/- Km, Missing, Late; KmOf, MissingOf, LateOf. The drawn region is written by genhsm.py. -/
namespace Go.Proofs.YtpgamfoancomiaaDoor
open Go.RowKit

def kmN (h : Hh) (l : List Lg) : Int := if ceE h l = 0 then kmS l else 0
def miN (h : Hh) (l : List Lg) : Int := if ceE h l = 0 then miS l else 0
set_option maxRecDepth 100000 in
set_option maxHeartbeats 1000000 in
theorem km_c (h : Hh) (v : Value) (l : List Lg) (w : World) (hr : RdR w 9 lgC v l) (hl : LgOk l) (hs1 : Small h.1) (hs2 : Small h.2.1) (hb1 : bnd h.2.2.1) (hb2 : bnd h.2.2.2) (hn : l.length ≤ 1000) :
    Calls Tryd.prog 29 #[.agg (hiC h v)] w fun e w' => e = .returned (.tuple #[.int .i64 (kmN h l), .int .i64 (ceE h l)]) ∧ G w w' none := by
  have hH := Bk.new w 33 (hiC h v)
  have hG := (G.refl w none).alloc (.cells (hiC h v) 33)
  have hR := hr.quiet hG
  obtain ⟨a, cap, rfl, hcap, hm⟩ := RdR.form hr
  obtain ⟨I, hIE⟩ : ∃ I, ceE h l = I := ⟨_, rfl⟩
  have C2 := Lib.hid (fun w' (q : RdR w' 9 lgC (.slice a l.length cap) l) => checkEnded_c h _ l w' q hl hs1 hs2 hb1 hb2 hn)
  have C3 := Lib.hid (fun (p : I = 0) w' (q : RdR w' 9 lgC (.slice a l.length cap) l) => kmSum_c h _ l w' q (ceE_ok (hIE.trans p)).1 (ceE_ok (hIE.trans p)).2)
  have H1 : Hid (I = 0 → kmN h l = kmS l) := Lib.hid fun p => by unfold kmN; rw [hIE, if_pos p]
  have H2 : Hid (I ≠ 0 → kmN h l = 0) := Lib.hid fun p => by unfold kmN; rw [hIE, if_neg p]
  rw [hIE] at C2 ⊢
  clear hr hl hIE
  simp only [hiC] at hH hG hR C2 C3 ⊢
  go_enter Tryd.func29, Tryd.ntmps29
  go_upto_region 1 with fail
  generalize w.alloc (.cells #[.string h.1, .string h.2.1, .int .i64 h.2.2.1, .int .i64 h.2.2.2, .slice a l.length cap] 33) = w2 at hG hH hR ⊢
  go_wp2_with (refine wpList_load_row rfl 33 _ rfl w.heap.size rfl 33 #[.string h.1, .string h.2.1, .int .i64 h.2.2.1, .int .i64 h.2.2.2, .slice a l.length cap] (0, 0) _ hH Tryd.underlying33 rfl (hi_info h _) ?_)
  refine (C2.out _ hR).mono ?_; rintro e w3 ⟨rfl, hG3⟩
  have hH := hH.quiet hG3
  have hG := hG.trans hG3
  have hR := hR.quiet hG3
  clear hG3 C2
  by_cases k1 : I = 0
  · have HX := Lib.hid (H1.out k1)
    have C31 := Lib.hid (C3.out k1)
    subst k1
    clear H1 H2 C3
    go_wp2_with (refine wpList_load_row rfl 33 _ rfl w.heap.size rfl 33 #[.string h.1, .string h.2.1, .int .i64 h.2.2.1, .int .i64 h.2.2.2, .slice a l.length cap] (0, 0) _ hH Tryd.underlying33 rfl (hi_info h _) ?_)
    refine (C31.out _ hR).mono ?_; rintro e w4 ⟨rfl, hG4⟩
    go_wp2_with fail
    go_ret2
    exact ⟨by rw [HX.out]; rfl, hG.trans hG4⟩
  · have k1' : (I != 0) = true := by simpa using k1
    have HX := Lib.hid (H2.out k1)
    clear k1 H1 H2 C3
    go_wp2_with fail
    go_ret2
    exact ⟨by rw [HX.out]; rfl, hG⟩
set_option maxRecDepth 100000 in
set_option maxHeartbeats 1000000 in
theorem missing_c (h : Hh) (v : Value) (l : List Lg) (w : World) (hr : RdR w 9 lgC v l) (hl : LgOk l) (hs1 : Small h.1) (hs2 : Small h.2.1) (hb1 : bnd h.2.2.1) (hb2 : bnd h.2.2.2) (hn : l.length ≤ 1000) :
    Calls Tryd.prog 30 #[.agg (hiC h v)] w fun e w' => e = .returned (.tuple #[.int .i64 (miN h l), .int .i64 (ceE h l)]) ∧ G w w' none := by
  have hH := Bk.new w 33 (hiC h v)
  have hG := (G.refl w none).alloc (.cells (hiC h v) 33)
  have hR := hr.quiet hG
  obtain ⟨a, cap, rfl, hcap, hm⟩ := RdR.form hr
  obtain ⟨I, hIE⟩ : ∃ I, ceE h l = I := ⟨_, rfl⟩
  have C2 := Lib.hid (fun w' (q : RdR w' 9 lgC (.slice a l.length cap) l) => checkEnded_c h _ l w' q hl hs1 hs2 hb1 hb2 hn)
  have C3 := Lib.hid (fun (p : I = 0) w' (q : RdR w' 9 lgC (.slice a l.length cap) l) => miSum_c h _ l w' q (ceE_ok (hIE.trans p)).1 (ceE_ok (hIE.trans p)).2)
  have H1 : Hid (I = 0 → miN h l = miS l) := Lib.hid fun p => by unfold miN; rw [hIE, if_pos p]
  have H2 : Hid (I ≠ 0 → miN h l = 0) := Lib.hid fun p => by unfold miN; rw [hIE, if_neg p]
  rw [hIE] at C2 ⊢
  clear hr hl hIE
  simp only [hiC] at hH hG hR C2 C3 ⊢
  go_enter Tryd.func30, Tryd.ntmps30
  go_upto_region 1 with fail
  generalize w.alloc (.cells #[.string h.1, .string h.2.1, .int .i64 h.2.2.1, .int .i64 h.2.2.2, .slice a l.length cap] 33) = w2 at hG hH hR ⊢
  go_wp2_with (refine wpList_load_row rfl 33 _ rfl w.heap.size rfl 33 #[.string h.1, .string h.2.1, .int .i64 h.2.2.1, .int .i64 h.2.2.2, .slice a l.length cap] (0, 0) _ hH Tryd.underlying33 rfl (hi_info h _) ?_)
  refine (C2.out _ hR).mono ?_; rintro e w3 ⟨rfl, hG3⟩
  have hH := hH.quiet hG3
  have hG := hG.trans hG3
  have hR := hR.quiet hG3
  clear hG3 C2
  by_cases k1 : I = 0
  · have HX := Lib.hid (H1.out k1)
    have C31 := Lib.hid (C3.out k1)
    subst k1
    clear H1 H2 C3
    go_wp2_with (refine wpList_load_row rfl 33 _ rfl w.heap.size rfl 33 #[.string h.1, .string h.2.1, .int .i64 h.2.2.1, .int .i64 h.2.2.2, .slice a l.length cap] (0, 0) _ hH Tryd.underlying33 rfl (hi_info h _) ?_)
    refine (C31.out _ hR).mono ?_; rintro e w4 ⟨rfl, hG4⟩
    go_wp2_with fail
    go_ret2
    exact ⟨by rw [HX.out]; rfl, hG.trans hG4⟩
  · have k1' : (I != 0) = true := by simpa using k1
    have HX := Lib.hid (H2.out k1)
    clear k1 H1 H2 C3
    go_wp2_with fail
    go_ret2
    exact ⟨by rw [HX.out]; rfl, hG⟩
/-- Late: its error, its sums. -/
def ltE (x : De) (h : Hh) (l : List Lg) : Int := if deE x = 0 then ceE h l else deE x
theorem ltE_ok {x : De} {h : Hh} {l : List Lg} (e : ltE x h l = 0) : deE x = 0 ∧ hiE h l = 0 ∧ ioB l = false := by
  unfold ltE at e
  split at e
  · next h1 => exact ⟨h1, ceE_ok e⟩
  · contradiction
theorem last_ok2 {h : Hh} {l : List Lg} (e : hiE h l = 0) (ho : ioB l = false) : (∀ p, l[l.length - 1]? = some p → bnd p.2.2.1) ∧ 0 ≤ laN h l ∧ laN h l ≤ 5761440 := by
  obtain ⟨p, hp⟩ : ∃ p, l[l.length - 1]? = some p := ⟨_, List.getElem?_eq_getElem (by have := (hiE_pos0 e).1; omega)⟩
  have h1 := (ended_ok e ho p (List.mem_of_getElem? hp)).2
  have h2 := (rgE_ok h1).1
  have h3 := (hiE_ls e).2
  have h4 : 0 ≤ p.2.2.1 ∧ p.2.2.1 < 5761440 := by simpa [momB] using h2
  have h5 : 0 ≤ h.2.2.2 := by
    unfold tE at h3
    split at h3
    · omega
    · cases h3
  refine ⟨fun q hq => ?_, ?_⟩
  · rw [hp] at hq
    cases hq
    unfold bnd
    omega
  · unfold laN
    rw [hp]
    dsimp only
    omega
def ltM (x : De) (h : Hh) (l : List Lg) : Int := if ltE x h l = 0 then laN h l else 0
def ltC (x : De) (h : Hh) (l : List Lg) : Int := if ltE x h l = 0 then lcN x (laN h l) else 0
set_option maxRecDepth 100000 in
set_option maxHeartbeats 4000000 in
theorem late_c (x : De) (h : Hh) (v : Value) (l : List Lg) (w : World) (hr : RdR w 9 lgC v l) (hl : LgOk l) (hs1 : Small h.1) (hs2 : Small h.2.1) (hb1 : bnd h.2.2.1) (hb2 : bnd h.2.2.2) (hn : l.length ≤ 1000) :
    Calls Tryd.prog 31 #[.agg (deC x), .agg (hiC h v)] w fun e w' => e = .returned (.tuple #[.int .i64 (ltM x h l), .int .i64 (ltC x h l), .int .i64 (ltE x h l)]) ∧ G w w' none := by
  obtain ⟨a, cap, rfl, hcap, hmm⟩ := RdR.form hr
  obtain ⟨D, hDE⟩ : ∃ D, deE x = D := ⟨_, rfl⟩
  obtain ⟨I, hIE⟩ : ∃ I, ceE h l = I := ⟨_, rfl⟩
  have H1 : Hid (D = 0 → I = 0 → ltE x h l = 0 ∧ ltM x h l = laN h l ∧ ltC x h l = lcN x (laN h l)) := Lib.hid fun p q => by
    have e : ltE x h l = 0 := by unfold ltE; rw [hDE, if_pos p, hIE, q]
    exact ⟨e, by unfold ltM; rw [if_pos e], by unfold ltC; rw [if_pos e]⟩
  have H2 : Hid (D = 0 → I ≠ 0 → ltE x h l = I ∧ ltM x h l = 0 ∧ ltC x h l = 0) := Lib.hid fun p q => by
    have e : ltE x h l = I := by unfold ltE; rw [hDE, if_pos p, hIE]
    exact ⟨e, by unfold ltM; rw [e, if_neg q], by unfold ltC; rw [e, if_neg q]⟩
  have H3 : Hid (D ≠ 0 → ltE x h l = D ∧ ltM x h l = 0 ∧ ltC x h l = 0) := Lib.hid fun p => by
    have e : ltE x h l = D := by unfold ltE; rw [hDE, if_neg p]
    exact ⟨e, by unfold ltM; rw [e, if_neg p], by unfold ltC; rw [e, if_neg p]⟩
  have C1 := Lib.hid (fun w => checkDeal_c x w)
  have C2 := Lib.hid (fun w' (q : RdR w' 9 lgC (.slice a l.length cap) l) => checkEnded_c h _ l w' q hl hs1 hs2 hb1 hb2 hn)
  have C3 := Lib.hid (fun (p : I = 0) w' (q : RdR w' 9 lgC (.slice a l.length cap) l) => lateness_c h _ l w' q (hiE_pos0 (ceE_ok (hIE.trans p)).1).1 hn hb2 (last_ok2 (ceE_ok (hIE.trans p)).1 (ceE_ok (hIE.trans p)).2).1)
  have C4 := Lib.hid (fun (d : D = 0) (p : I = 0) w' => lateCents_c x (laN h l) w' (hDE.trans d) (last_ok2 (ceE_ok (hIE.trans p)).1 (ceE_ok (hIE.trans p)).2).2.1 (by have := (last_ok2 (ceE_ok (hIE.trans p)).1 (ceE_ok (hIE.trans p)).2).2.2; omega))
  rw [hDE] at C1
  rw [hIE] at C2
  clear hDE hIE hl
  have HR := Lib.hid hr
  clear hr
  generalize ltE x h l = E at H1 H2 H3 ⊢
  generalize ltM x h l = M at H1 H2 H3 ⊢
  generalize ltC x h l = C at H1 H2 H3 ⊢
  generalize lcN x (laN h l) = LC at H1 C4
  generalize laN h l = LN at H1 C3 C4
  obtain ⟨a0, a1, a2, a3, a4, a5, a6⟩ := x
  rw [show deC ⟨a0, a1, a2, a3, a4, a5, a6⟩ = #[.int .i64 a0, .int .i64 a1, .int .i64 a2, .int .i64 a3, .int .i64 a4, .int .i64 a5, .int .i64 a6] from rfl] at *
  have hD := (Bk.new w 27 #[.int .i64 a0, .int .i64 a1, .int .i64 a2, .int .i64 a3, .int .i64 a4, .int .i64 a5, .int .i64 a6]).alloc (.cells (hiC h (.slice a l.length cap)) 33)
  have hH := Bk.newAt (w := w.alloc (.cells #[.int .i64 a0, .int .i64 a1, .int .i64 a2, .int .i64 a3, .int .i64 a4, .int .i64 a5, .int .i64 a6] 27)) (b := w.heap.size + 1) (by simp) 33 (hiC h (.slice a l.length cap))
  have hG := ((G.refl w none).alloc (.cells #[.int .i64 a0, .int .i64 a1, .int .i64 a2, .int .i64 a3, .int .i64 a4, .int .i64 a5, .int .i64 a6] 27)).alloc (.cells (hiC h (.slice a l.length cap)) 33)
  simp only [hiC] at hD hH hG C2 C3 ⊢
  go_enter Tryd.func31, Tryd.ntmps31
  go_upto_region 1 with fail
  generalize (w.alloc (.cells #[.int .i64 a0, .int .i64 a1, .int .i64 a2, .int .i64 a3, .int .i64 a4, .int .i64 a5, .int .i64 a6] 27)).alloc (.cells #[.string h.1, .string h.2.1, .int .i64 h.2.2.1, .int .i64 h.2.2.2, .slice a l.length cap] 33) = w2 at hG hD hH ⊢
  go_wp2_with (refine wpList_load_row rfl 27 _ rfl w.heap.size rfl 27 #[.int .i64 a0, .int .i64 a1, .int .i64 a2, .int .i64 a3, .int .i64 a4, .int .i64 a5, .int .i64 a6] (0, 0) _ hD Tryd.underlying27 rfl (de_info ⟨a0, a1, a2, a3, a4, a5, a6⟩) ?_)
  refine (C1.out _).mono ?_; rintro e w3 ⟨rfl, hG3⟩
  have hH := hH.quiet hG3
  have hD := hD.quiet hG3
  have hG := hG.trans hG3
  clear hG3
  by_cases k1 : D = 0
  · have Q1 := Lib.hid (H1.out k1)
    have Q2 := Lib.hid (H2.out k1)
    have C41 := Lib.hid (C4.out k1)
    subst k1
    clear H1 H2 H3 C4
    go_wp2_with (refine wpList_load_row rfl 33 _ rfl (w.heap.size + 1) rfl 33 #[.string h.1, .string h.2.1, .int .i64 h.2.2.1, .int .i64 h.2.2.2, .slice a l.length cap] (0, 0) _ hH Tryd.underlying33 rfl (hi_info h _) ?_)
    refine (C2.out _ (HR.out.quiet hG)).mono ?_; rintro e w4 ⟨rfl, hG4⟩
    have hH := hH.quiet hG4
    have hD := hD.quiet hG4
    have hG := hG.trans hG4
    clear hG4
    by_cases k2 : I = 0
    · obtain ⟨e1, e2, e3⟩ := Q1.out k2
      have E1 := Lib.hid e1
      have E2 := Lib.hid e2
      have E3 := Lib.hid e3
      have C31 := Lib.hid (C3.out k2)
      have C42 := Lib.hid (C41.out k2)
      subst k2
      clear Q1 Q2 C3 C41 e1 e2 e3
      go_wp2_with (refine wpList_load_row rfl 33 _ rfl (w.heap.size + 1) rfl 33 #[.string h.1, .string h.2.1, .int .i64 h.2.2.1, .int .i64 h.2.2.2, .slice a l.length cap] (0, 0) _ hH Tryd.underlying33 rfl (hi_info h _) ?_)
      refine (C31.out _ (HR.out.quiet hG)).mono ?_; rintro e w5 ⟨rfl, hG5⟩
      have hD := hD.quiet hG5
      have hG := hG.trans hG5
      clear hG5
      go_wp2_with (refine wpList_load_row rfl 27 _ rfl w.heap.size rfl 27 #[.int .i64 a0, .int .i64 a1, .int .i64 a2, .int .i64 a3, .int .i64 a4, .int .i64 a5, .int .i64 a6] (0, 0) _ hD Tryd.underlying27 rfl (de_info ⟨a0, a1, a2, a3, a4, a5, a6⟩) ?_)
      refine (C42.out _).mono ?_; rintro e w6 ⟨rfl, hG6⟩
      go_wp2_with fail
      refine bodyPost_ret (results_tmp3 rfl _ _ _) rfl ?_
      exact ⟨by rw [E1.out, E2.out, E3.out]; rfl, hG.trans hG6⟩
    · obtain ⟨e1, e2, e3⟩ := Q2.out k2
      have E1 := Lib.hid e1
      have E2 := Lib.hid e2
      have E3 := Lib.hid e3
      have k2' : (I != 0) = true := by simpa using k2
      clear k2 Q1 Q2 e1 e2 e3 C3 C41
      go_wp2_with fail
      refine bodyPost_ret (results_tmp3 rfl _ _ _) rfl ?_
      exact ⟨by rw [E1.out, E2.out, E3.out]; rfl, hG⟩
  · obtain ⟨e1, e2, e3⟩ := H3.out k1
    have E1 := Lib.hid e1
    have E2 := Lib.hid e2
    have E3 := Lib.hid e3
    have k1' : (D != 0) = true := by simpa using k1
    clear k1 H1 H2 H3 e1 e2 e3 C3 C4
    go_wp2_with fail
    refine bodyPost_ret (results_tmp3 rfl _ _ _) rfl ?_
    exact ⟨by rw [E1.out, E2.out, E3.out]; rfl, hG⟩
set_option maxRecDepth 100000 in
set_option maxHeartbeats 2000000 in
theorem kmOf_r (h : Hh) (v : Value) (l : List Lg) (w : World) (hr : RdR w 9 lgC v l) (he : hiE h l = 0) (ho : ioB l = false) :
    Calls Tryd.prog 34 #[.agg (hiC h v)] w fun e w' => e = .returned (.int .i64 (kmS l)) ∧ G w w' none := by
  have HEN := Lib.hid (ended_ok he ho)
  have hn : l.length ≤ 1000 := by have := (hiE_pos0 he).2; omega
  have HBB := Lib.hid (km_bnd he ho).1
  have HSS : Hid (kmS l = (l.map kmL).sum) := Lib.hid rfl
  clear he ho
  obtain ⟨a, cap, rfl, hcap, hm⟩ := RdR.form hr
  have hH := Bk.new w 33 (hiC h (.slice a l.length cap))
  have hG := (G.refl w none).alloc (.cells (hiC h (.slice a l.length cap)) 33)
  have HR := Lib.hid (hr.quiet hG)
  clear hr
  simp only [hiC] at hH hG HR ⊢
  go_enter Tryd.func34, Tryd.ntmps34
  go_upto_region 1 with fail
  generalize w.alloc (.cells #[.string h.1, .string h.2.1, .int .i64 h.2.2.1, .int .i64 h.2.2.2, .slice a l.length cap] 33) = w2 at hG hH HR ⊢
  have c4 : w2.cell? ⟨w.heap.size, 4, none⟩ = some (.slice a l.length cap) := hH.cell 4
  go_wp2_with fail
  clear c4 hH
  go_loopw [3, 9] (HsuRel w2 kmL l) (fun _ i _ => l.length - (intOf i).toNat)
  case atStart => exact ⟨0, by omega, rfl, rfl, G.refl _ _⟩
  case round =>
    obtain ⟨k, hkl, rfl, rfl, hGr⟩ := hrel
    have hbk := sum_take kmL 999999 l HBB.out (by omega) (by omega) k (by omega)
    by_cases hk : k < l.length
    · obtain ⟨p, hp⟩ : ∃ p, l[k]? = some p := ⟨_, List.getElem?_eq_getElem hk⟩
      have hst := sum_step kmL l k p hp
      have hpb := HBB.out p (List.mem_of_getElem? hp)
      obtain ⟨r1, r2⟩ := HEN.out p (List.mem_of_getElem? hp)
      have r1 := (rgE_ok r1).2.2.1
      have r2 := (rgE_ok r2).2.2.1
      obtain ⟨bb, bo, rfl, -, -⟩ := RdR.elem lgC_sz HR.out hGr hp
      have HW := Lib.hid (lgRow HR.out hGr hp)
      have HK := Lib.hid hk
      have hGr5 := hGr.alloc (.cells #[.string p.1, .int .i64 p.2.1.1, .string p.2.1.2.1, .int .i64 p.2.1.2.2.1, .int .i64 p.2.1.2.2.2, .int .i64 p.2.2.1, .string p.2.2.2.1, .int .i64 p.2.2.2.2.1, .int .i64 p.2.2.2.2.2] 99)
      obtain ⟨S, hS⟩ : ∃ S, ((l.take k).map kmL).sum = S := ⟨_, rfl⟩
      rw [hS] at hst hbk ⊢
      have HST := Lib.hid hst
      have HLL : Hid (kmL p = (p.2.2.2.2.1 - p.2.1.2.2.1 + 1000000) % 1000000) := Lib.hid rfl
      generalize kmL p = V at HST HLL hpb
      have hw1 : IntKind.i64.wrap (p.2.2.2.2.1 - p.2.1.2.2.1) = p.2.2.2.2.1 - p.2.1.2.2.1 := by rw [IntKind.wrap_i64]; omega
      have hw2 : IntKind.i64.wrap (p.2.2.2.2.1 - p.2.1.2.2.1 + 999999) = p.2.2.2.2.1 - p.2.1.2.2.1 + 999999 := by rw [IntKind.wrap_i64]; omega
      have hw3 : IntKind.i64.wrap (p.2.2.2.2.1 - p.2.1.2.2.1 + 999999 + 1) = p.2.2.2.2.1 - p.2.1.2.2.1 + 1000000 := by rw [IntKind.wrap_i64]; omega
      have hm1 : (p.2.2.2.2.1 - p.2.1.2.2.1 + 1000000).tmod 1000000 = V := by rw [HLL.out, Int.tmod_eq_emod_of_nonneg (by omega)]
      have hw : IntKind.i64.wrap (S + V) = S + V := by rw [IntKind.wrap_i64]; omega
      clear hp hGr hS hst
      go_wp2_with (refine wpList_load_at rfl 99 _ rfl ⟨bb, bo + k * 9, none⟩ rfl #[.string p.1, .int .i64 p.2.1.1, .string p.2.1.2.1, .int .i64 p.2.1.2.2.1, .int .i64 p.2.1.2.2.2, .int .i64 p.2.2.1, .string p.2.2.2.1, .int .i64 p.2.2.2.2.1, .int .i64 p.2.2.2.2.2] _ HW.out Tryd.underlying99 rfl (lg_info p) ?_)
      go_roundw
      case rel => exact ⟨k + 1, by omega, by go_num, by rw [HST.out], hGr5⟩
      case measure => have := HK.out; simp [intOf]; omega
    · obtain rfl : k = l.length := by omega
      have HF : Hid (((l.take l.length).map kmL).sum = kmS l) := Lib.hid (by rw [List.take_length, HSS.out])
      go_wp2_with fail
      go_ret
      exact ⟨ret_int HF.out, hG.trans hGr⟩
set_option maxRecDepth 100000 in
set_option maxHeartbeats 2000000 in
theorem missingOf_r (h : Hh) (v : Value) (l : List Lg) (w : World) (hr : RdR w 9 lgC v l) (he : hiE h l = 0) (ho : ioB l = false) :
    Calls Tryd.prog 35 #[.agg (hiC h v)] w fun e w' => e = .returned (.int .i64 (miS l)) ∧ G w w' none := by
  have HEN := Lib.hid (ended_ok he ho)
  have hn : l.length ≤ 1000 := by have := (hiE_pos0 he).2; omega
  have HBB := Lib.hid (mi_bnd he ho).1
  have HSS : Hid (miS l = (l.map miL).sum) := Lib.hid rfl
  clear he ho
  obtain ⟨a, cap, rfl, hcap, hm⟩ := RdR.form hr
  have hH := Bk.new w 33 (hiC h (.slice a l.length cap))
  have hG := (G.refl w none).alloc (.cells (hiC h (.slice a l.length cap)) 33)
  have HR := Lib.hid (hr.quiet hG)
  clear hr
  simp only [hiC] at hH hG HR ⊢
  go_enter Tryd.func35, Tryd.ntmps35
  go_upto_region 1 with fail
  generalize w.alloc (.cells #[.string h.1, .string h.2.1, .int .i64 h.2.2.1, .int .i64 h.2.2.2, .slice a l.length cap] 33) = w2 at hG hH HR ⊢
  have c4 : w2.cell? ⟨w.heap.size, 4, none⟩ = some (.slice a l.length cap) := hH.cell 4
  go_wp2_with fail
  clear c4 hH
  go_loopw [3, 9] (HsuRel w2 miL l) (fun _ i _ => l.length - (intOf i).toNat)
  case atStart => exact ⟨0, by omega, rfl, rfl, G.refl _ _⟩
  case round =>
    obtain ⟨k, hkl, rfl, rfl, hGr⟩ := hrel
    have hbk := sum_take miL 8 l HBB.out (by omega) (by omega) k (by omega)
    by_cases hk : k < l.length
    · obtain ⟨p, hp⟩ : ∃ p, l[k]? = some p := ⟨_, List.getElem?_eq_getElem hk⟩
      have hst := sum_step miL l k p hp
      have hpb := HBB.out p (List.mem_of_getElem? hp)
      obtain ⟨r1, r2⟩ := HEN.out p (List.mem_of_getElem? hp)
      have r1 := (rgE_ok r1).2.2.2
      have r2 := (rgE_ok r2).2.2.2
      obtain ⟨bb, bo, rfl, -, -⟩ := RdR.elem lgC_sz HR.out hGr hp
      have HW := Lib.hid (lgRow HR.out hGr hp)
      have HK := Lib.hid hk
      have hGr5 := hGr.alloc (.cells #[.string p.1, .int .i64 p.2.1.1, .string p.2.1.2.1, .int .i64 p.2.1.2.2.1, .int .i64 p.2.1.2.2.2, .int .i64 p.2.2.1, .string p.2.2.2.1, .int .i64 p.2.2.2.2.1, .int .i64 p.2.2.2.2.2] 99)
      obtain ⟨S, hS⟩ : ∃ S, ((l.take k).map miL).sum = S := ⟨_, rfl⟩
      rw [hS] at hst hbk ⊢
      have HST := Lib.hid hst
      have HLL : Hid (miL p = max 0 (p.2.1.2.2.2 - p.2.2.2.2.2)) := Lib.hid rfl
      generalize miL p = V at HST HLL hpb
      have hw1 : IntKind.i64.wrap (p.2.1.2.2.2 - p.2.2.2.2.2) = p.2.1.2.2.2 - p.2.2.2.2.2 := by rw [IntKind.wrap_i64]; omega
      have hVV := HLL.out
      have hw : IntKind.i64.wrap (S + max 0 (p.2.1.2.2.2 - p.2.2.2.2.2)) = S + max 0 (p.2.1.2.2.2 - p.2.2.2.2.2) := by rw [← hVV, IntKind.wrap_i64]; omega
      clear hVV
      clear hp hGr hS hst
      go_wp2_with (refine wpList_load_at rfl 99 _ rfl ⟨bb, bo + k * 9, none⟩ rfl #[.string p.1, .int .i64 p.2.1.1, .string p.2.1.2.1, .int .i64 p.2.1.2.2.1, .int .i64 p.2.1.2.2.2, .int .i64 p.2.2.1, .string p.2.2.2.1, .int .i64 p.2.2.2.2.1, .int .i64 p.2.2.2.2.2] _ HW.out Tryd.underlying99 rfl (lg_info p) ?_)
      go_roundw
      case rel => exact ⟨k + 1, by omega, by go_num, by rw [HST.out, HLL.out], hGr5⟩
      case measure => have := HK.out; simp [intOf]; omega
    · obtain rfl : k = l.length := by omega
      have HF : Hid (((l.take l.length).map miL).sum = miS l) := Lib.hid (by rw [List.take_length, HSS.out])
      go_wp2_with fail
      go_ret
      exact ⟨ret_int HF.out, hG.trans hGr⟩
def LhRel (d m q : Int) (s7 s9 : Value) (w wr : World) : Prop := ∃ k : Nat, (k : Int) ≤ (m + q - 1) / q ∧ s7 = .int .i64 (d * k) ∧ s9 = .int .i64 (q * k) ∧ wr = w
set_option maxRecDepth 100000 in
set_option maxHeartbeats 4000000 in
theorem lateOf_c (x : De) (h : Hh) (v : Value) (l : List Lg) (w : World) (hx : deE x = 0) (he : hiE h l = 0) (ho : ioB l = false) (hr : RdR w 9 lgC v l) :
    Calls Tryd.prog 36 #[.agg (deC x), .agg (hiC h v)] w fun e w' => e = .returned (.tuple #[.int .i64 (laN h l), .int .i64 (lcN x (laN h l))]) ∧ G w w' none := by
  obtain ⟨-, -, -, d4, d5, d6, -⟩ := deE_ok hx
  obtain ⟨hlb, hl0, hl1⟩ := last_ok2 he ho
  obtain ⟨p, hp⟩ : ∃ p, l[l.length - 1]? = some p := ⟨_, List.getElem?_eq_getElem (by have := (hiE_pos0 he).1; omega)⟩
  have hpb := hlb p hp
  have hte := (hiE_ls he).2
  have hto : 0 ≤ h.2.2.2 ∧ h.2.2.2 ≤ 5761440 := by
    unfold tE at hte
    split at hte
    · omega
    · cases hte
  have hlen := hiE_pos0 he
  obtain ⟨a, cap, rfl, hcap, hm⟩ := RdR.form hr
  obtain ⟨bb, bo, rfl, hbb, -⟩ := RdR.elem lgC_sz hr (G.refl w none) hp
  have HLA : Hid (laN h l = max 0 (p.2.2.1 - h.2.2.2)) := Lib.hid (by unfold laN; rw [hp])
  unfold bnd at hpb
  have hw1 : IntKind.i64.wrap (p.2.2.1 - h.2.2.2) = p.2.2.1 - h.2.2.2 := by rw [IntKind.wrap_i64]; omega
  have hw2 : IntKind.i64.wrap ((l.length : Int) - 1) = ((l.length - 1 : Nat) : Int) := by rw [IntKind.wrap_i64]; omega
  have hlt : l.length - 1 < l.length := by omega
  obtain ⟨a0, a1, a2, a3, a4, a5, a6⟩ := x
  have HLC : Hid (lcN ⟨a0, a1, a2, a3, a4, a5, a6⟩ (laN h l) = if laN h l ≤ a3 then 0 else min (a4 * ((laN h l + 60 - 1) / 60)) (a5 * ((laN h l + 1440 - 1) / 1440))) := Lib.hid rfl
  dsimp only at d4 d5 d6
  generalize lcN ⟨a0, a1, a2, a3, a4, a5, a6⟩ (laN h l) = LC at HLC ⊢
  clear hx he ho hlb hte
  have hD := (Bk.new w 27 #[.int .i64 a0, .int .i64 a1, .int .i64 a2, .int .i64 a3, .int .i64 a4, .int .i64 a5, .int .i64 a6]).alloc (.cells (hiC h (.slice (some ⟨bb, bo, none⟩) l.length cap)) 33)
  have hH := Bk.newAt (w := w.alloc (.cells #[.int .i64 a0, .int .i64 a1, .int .i64 a2, .int .i64 a3, .int .i64 a4, .int .i64 a5, .int .i64 a6] 27)) (b := w.heap.size + 1) (by simp) 33 (hiC h (.slice (some ⟨bb, bo, none⟩) l.length cap))
  have hG := ((G.refl w none).alloc (.cells #[.int .i64 a0, .int .i64 a1, .int .i64 a2, .int .i64 a3, .int .i64 a4, .int .i64 a5, .int .i64 a6] 27)).alloc (.cells (hiC h (.slice (some ⟨bb, bo, none⟩) l.length cap)) 33)
  have hR := hr.quiet hG
  have HP := Lib.hid hp
  rw [show deC ⟨a0, a1, a2, a3, a4, a5, a6⟩ = #[.int .i64 a0, .int .i64 a1, .int .i64 a2, .int .i64 a3, .int .i64 a4, .int .i64 a5, .int .i64 a6] from rfl]
  simp only [hiC] at hD hH hG hR ⊢
  clear hr hp
  go_enter Tryd.func36, Tryd.ntmps36
  go_upto_region 1 with fail
  generalize (w.alloc (.cells #[.int .i64 a0, .int .i64 a1, .int .i64 a2, .int .i64 a3, .int .i64 a4, .int .i64 a5, .int .i64 a6] 27)).alloc (.cells #[.string h.1, .string h.2.1, .int .i64 h.2.2.1, .int .i64 h.2.2.2, .slice (some ⟨bb, bo, none⟩) l.length cap] 33) = w2 at hG hD hH hR ⊢
  have hD2 := hD.quiet ((G.refl w2 none).drew)
  have hH2 := hH.quiet ((G.refl w2 none).drew)
  have hR2 := hR.quiet ((G.refl w2 none).drew)
  have hG2 := hG.drew
  clear hD hH hR hG
  have hd2 := RdR.cell lgC_sz hR2 (G.refl _ none) HP.out 5 (.int .i64 p.2.2.1) rfl
  generalize hM : l.length - 1 = mm at hw2 hlt hd2
  -- @REGION1
  refine wp_region_held_drew (S := (fun w' => w'.cell? ⟨w.heap.size + 1, 0, none⟩ = some (.string h.1) ∧ w'.cell? ⟨w.heap.size + 1, 1, none⟩ = some (.string h.2.1) ∧ w'.cell? ⟨w.heap.size + 1, 2, none⟩ = some (.int .i64 h.2.2.1) ∧ w'.cell? ⟨w.heap.size + 1, 3, none⟩ = some (.int .i64 h.2.2.2) ∧ w'.cell? ⟨w.heap.size + 1, 4, none⟩ = some (.slice (some ⟨bb, bo, none⟩) l.length cap) ∧ w'.cell? ⟨bb, bo + mm * 9 + 5, none⟩ = some (.int .i64 p.2.2.1))) (by kernel_rfl) ?_ (fun hHeld => ?_)
  · exact ⟨hH2.cell 0, hH2.cell 1, hH2.cell 2, hH2.cell 3, hH2.cell 4, hd2⟩
  refine wpAnyH_take (i := 0) (oi := { dst := some 11, op := Op.fieldAddr 33 (Operand.tmp 3) 3, type := 0, pos := _, after := #[], guard := none }) (v := ?_) rfl (by kernel_rfl) (by kernel_rfl) (by kernel_rfl) (fun _ _ _ h => h) (Or.inl ⟨by rfl, ?_⟩) (by assumption) ?_
  rotate_left
  · (intro w hSw; obtain ⟨s0, s1, s2, s3, s4, s5⟩ := hSw; (go_simp <;> with_reducible rfl))
  try simp only [Act.put, List.setIfInBounds_toArray, List.set_cons_zero, List.set_cons_succ]
  refine wpAnyH_take (i := 1) (oi := { dst := some 12, op := Op.load 31 (Operand.tmp 11), type := 31, pos := _, after := #[{ on := 0, ground := Ground.data }], guard := none }) (v := ?_) rfl (by kernel_rfl) (by kernel_rfl) (by kernel_rfl) (fun _ _ _ h => h) (Or.inl ⟨by rfl, ?_⟩) (by assumption) ?_
  rotate_left
  · (intro w hSw; obtain ⟨s0, s1, s2, s3, s4, s5⟩ := hSw; (go_simp <;> with_reducible rfl))
  try simp only [Act.put, List.setIfInBounds_toArray, List.set_cons_zero, List.set_cons_succ]
  refine wpAnyH_take (i := 2) (oi := { dst := some 13, op := Op.fieldAddr 33 (Operand.tmp 3) 3, type := 0, pos := _, after := #[], guard := none }) (v := ?_) rfl (by kernel_rfl) (by kernel_rfl) (by kernel_rfl) (fun _ _ _ h => h) (Or.inl ⟨by rfl, ?_⟩) (by assumption) ?_
  rotate_left
  · (intro w hSw; obtain ⟨s0, s1, s2, s3, s4, s5⟩ := hSw; (go_simp <;> with_reducible rfl))
  try simp only [Act.put, List.setIfInBounds_toArray, List.set_cons_zero, List.set_cons_succ]
  refine wpAnyH_take (i := 3) (oi := { dst := some 14, op := Op.load 31 (Operand.tmp 13), type := 31, pos := _, after := #[{ on := 2, ground := Ground.data }], guard := none }) (v := ?_) rfl (by kernel_rfl) (by kernel_rfl) (by kernel_rfl) (fun _ _ _ h => h) (Or.inl ⟨by rfl, ?_⟩) (by assumption) ?_
  rotate_left
  · (intro w hSw; obtain ⟨s0, s1, s2, s3, s4, s5⟩ := hSw; (go_simp <;> with_reducible rfl))
  try simp only [Act.put, List.setIfInBounds_toArray, List.set_cons_zero, List.set_cons_succ]
  refine wpAnyH_take (i := 4) (oi := { dst := some 15, op := Op.call { callee := Callee.builtin Builtin.len, args := #[Operand.tmp 14], argTypes := #[31] }, type := 3, pos := _, after := #[{ on := 3, ground := Ground.data }], guard := none }) (v := ?_) rfl (by kernel_rfl) (by kernel_rfl) (by kernel_rfl) (fun _ _ _ h => h) (Or.inl ⟨by rfl, ?_⟩) (by assumption) ?_
  rotate_left
  · (intro w hSw; obtain ⟨s0, s1, s2, s3, s4, s5⟩ := hSw; (go_simp <;> with_reducible rfl))
  try simp only [Act.put, List.setIfInBounds_toArray, List.set_cons_zero, List.set_cons_succ]
  refine wpAnyH_take (i := 5) (oi := { dst := some 16, op := Op.binOp BinOp.sub 3 (Operand.tmp 15) (Operand.const (Value.int IntKind.i64 1)) 3, type := 3, pos := _, after := #[{ on := 4, ground := Ground.data }], guard := none }) (v := ?_) rfl (by kernel_rfl) (by kernel_rfl) (by kernel_rfl) (fun _ _ _ h => h) (Or.inl ⟨by rfl, ?_⟩) (by assumption) ?_
  rotate_left
  · (intro w hSw; obtain ⟨s0, s1, s2, s3, s4, s5⟩ := hSw; (go_simp <;> with_reducible rfl))
  try simp only [Act.put, List.setIfInBounds_toArray, List.set_cons_zero, List.set_cons_succ]
  refine wpAnyH_take (i := 6) (oi := { dst := some 17, op := Op.indexAddr 31 (Operand.tmp 12) (Operand.tmp 16), type := 0, pos := _, after := #[{ on := 1, ground := Ground.data }, { on := 5, ground := Ground.data }], guard := none }) (v := ?_) rfl (by kernel_rfl) (by kernel_rfl) (by kernel_rfl) (fun _ _ _ h => h) (Or.inl ⟨by rfl, ?_⟩) (by assumption) ?_
  rotate_left
  · (intro w hSw; obtain ⟨s0, s1, s2, s3, s4, s5⟩ := hSw; (go_simp <;> with_reducible rfl))
  try simp only [Act.put, List.setIfInBounds_toArray, List.set_cons_zero, List.set_cons_succ]
  refine wpAnyH_take (i := 7) (oi := { dst := some 18, op := Op.fieldAddr 99 (Operand.tmp 17) 2, type := 0, pos := _, after := #[{ on := 6, ground := Ground.data }], guard := none }) (v := ?_) rfl (by kernel_rfl) (by kernel_rfl) (by kernel_rfl) (fun _ _ _ h => h) (Or.inl ⟨by rfl, ?_⟩) (by assumption) ?_
  rotate_left
  · (intro w hSw; obtain ⟨s0, s1, s2, s3, s4, s5⟩ := hSw; (go_simp <;> with_reducible rfl))
  try simp only [Act.put, List.setIfInBounds_toArray, List.set_cons_zero, List.set_cons_succ]
  refine wpAnyH_take (i := 8) (oi := { dst := some 19, op := Op.fieldAddr 37 (Operand.tmp 18) 0, type := 0, pos := _, after := #[{ on := 7, ground := Ground.data }], guard := none }) (v := ?_) rfl (by kernel_rfl) (by kernel_rfl) (by kernel_rfl) (fun _ _ _ h => h) (Or.inl ⟨by rfl, ?_⟩) (by assumption) ?_
  rotate_left
  · (intro w hSw; obtain ⟨s0, s1, s2, s3, s4, s5⟩ := hSw; (go_simp <;> with_reducible rfl))
  try simp only [Act.put, List.setIfInBounds_toArray, List.set_cons_zero, List.set_cons_succ]
  refine wpAnyH_take (i := 9) (oi := { dst := some 20, op := Op.load 3 (Operand.tmp 19), type := 3, pos := _, after := #[{ on := 8, ground := Ground.data }], guard := none }) (v := ?_) rfl (by kernel_rfl) (by kernel_rfl) (by kernel_rfl) (fun _ _ _ h => h) (Or.inl ⟨by rfl, ?_⟩) (by assumption) ?_
  rotate_left
  · (intro w hSw; obtain ⟨s0, s1, s2, s3, s4, s5⟩ := hSw; (go_simp <;> with_reducible rfl))
  try simp only [Act.put, List.setIfInBounds_toArray, List.set_cons_zero, List.set_cons_succ]
  refine wpAnyH_take (i := 10) (oi := { dst := some 21, op := Op.fieldAddr 33 (Operand.tmp 3) 2, type := 0, pos := _, after := #[], guard := none }) (v := ?_) rfl (by kernel_rfl) (by kernel_rfl) (by kernel_rfl) (fun _ _ _ h => h) (Or.inl ⟨by rfl, ?_⟩) (by assumption) ?_
  rotate_left
  · (intro w hSw; obtain ⟨s0, s1, s2, s3, s4, s5⟩ := hSw; (go_simp <;> with_reducible rfl))
  try simp only [Act.put, List.setIfInBounds_toArray, List.set_cons_zero, List.set_cons_succ]
  refine wpAnyH_take (i := 11) (oi := { dst := some 22, op := Op.fieldAddr 30 (Operand.tmp 21) 1, type := 0, pos := _, after := #[{ on := 10, ground := Ground.data }], guard := none }) (v := ?_) rfl (by kernel_rfl) (by kernel_rfl) (by kernel_rfl) (fun _ _ _ h => h) (Or.inl ⟨by rfl, ?_⟩) (by assumption) ?_
  rotate_left
  · (intro w hSw; obtain ⟨s0, s1, s2, s3, s4, s5⟩ := hSw; (go_simp <;> with_reducible rfl))
  try simp only [Act.put, List.setIfInBounds_toArray, List.set_cons_zero, List.set_cons_succ]
  refine wpAnyH_take (i := 12) (oi := { dst := some 23, op := Op.load 3 (Operand.tmp 22), type := 3, pos := _, after := #[{ on := 11, ground := Ground.data }], guard := none }) (v := ?_) rfl (by kernel_rfl) (by kernel_rfl) (by kernel_rfl) (fun _ _ _ h => h) (Or.inl ⟨by rfl, ?_⟩) (by assumption) ?_
  rotate_left
  · (intro w hSw; obtain ⟨s0, s1, s2, s3, s4, s5⟩ := hSw; (go_simp <;> with_reducible rfl))
  try simp only [Act.put, List.setIfInBounds_toArray, List.set_cons_zero, List.set_cons_succ]
  refine wpAnyH_take (i := 13) (oi := { dst := some 24, op := Op.binOp BinOp.sub 3 (Operand.tmp 20) (Operand.tmp 23) 3, type := 3, pos := _, after := #[{ on := 9, ground := Ground.data }, { on := 12, ground := Ground.data }], guard := none }) (v := ?_) rfl (by kernel_rfl) (by kernel_rfl) (by kernel_rfl) (fun _ _ _ h => h) (Or.inl ⟨by rfl, ?_⟩) (by assumption) ?_
  rotate_left
  · (intro w hSw; obtain ⟨s0, s1, s2, s3, s4, s5⟩ := hSw; (go_simp <;> with_reducible rfl))
  try simp only [Act.put, List.setIfInBounds_toArray, List.set_cons_zero, List.set_cons_succ]
  refine wpAnyH_take (i := 14) (oi := { dst := some 25, op := Op.call { callee := Callee.builtin Builtin.max, args := #[Operand.const (Value.int IntKind.i64 0), Operand.tmp 24], argTypes := #[3, 3] }, type := 3, pos := _, after := #[{ on := 13, ground := Ground.data }], guard := none }) (v := ?_) rfl (by kernel_rfl) (by kernel_rfl) (by kernel_rfl) (fun _ _ _ h => h) (Or.inl ⟨by rfl, ?_⟩) (by assumption) ?_
  rotate_left
  · (intro w hSw; obtain ⟨s0, s1, s2, s3, s4, s5⟩ := hSw; (go_simp <;> with_reducible rfl))
  try simp only [Act.put, List.setIfInBounds_toArray, List.set_cons_zero, List.set_cons_succ]
  refine wpAnyH_take (i := 15) (oi := { dst := some 6, op := Op.assign (Operand.tmp 25), type := 3, pos := _, after := #[{ on := 14, ground := Ground.data }, { on := 0, ground := Ground.phase }, { on := 1, ground := Ground.phase }, { on := 2, ground := Ground.phase }, { on := 3, ground := Ground.phase }, { on := 4, ground := Ground.phase }, { on := 5, ground := Ground.phase }, { on := 6, ground := Ground.phase }, { on := 7, ground := Ground.phase }, { on := 8, ground := Ground.phase }, { on := 9, ground := Ground.phase }, { on := 10, ground := Ground.phase }, { on := 11, ground := Ground.phase }, { on := 12, ground := Ground.phase }, { on := 13, ground := Ground.phase }, { on := 14, ground := Ground.phase }], guard := none }) (v := ?_) rfl (by kernel_rfl) (by kernel_rfl) (by kernel_rfl) (fun _ _ _ h => h) (Or.inl ⟨by rfl, ?_⟩) (by assumption) ?_
  rotate_left
  · (intro w hSw; obtain ⟨s0, s1, s2, s3, s4, s5⟩ := hSw; (go_simp <;> with_reducible rfl))
  try simp only [Act.put, List.setIfInBounds_toArray, List.set_cons_zero, List.set_cons_succ]
  refine wpAnyH_done (by kernel_rfl) ?_ _
  -- @END1
  have hLA := HLA.out
  obtain ⟨M, hM2⟩ : ∃ M, max 0 (p.2.2.1 - h.2.2.2) = M := ⟨_, rfl⟩
  rw [hM2] at HLA hLA
  have HC : Hid (LC = if M ≤ a3 then 0 else min (a4 * ((M + 60 - 1) / 60)) (a5 * ((M + 1440 - 1) / 1440))) := Lib.hid (by rw [HLC.out, HLA.out])
  have hMb : 0 ≤ M ∧ M ≤ 5761440 := by omega
  rw [hM2]
  clear hM2 hLA HLC hd2 hH2 hR2 hw1 hpb hto hl0 hl1
  generalize w2.drew = w3 at hD2 hG2 ⊢
  have c3 : w3.cell? ⟨w.heap.size, 3, none⟩ = some (.int .i64 a3) := hD2.cell 3
  have c4 : w3.cell? ⟨w.heap.size, 4, none⟩ = some (.int .i64 a4) := hD2.cell 4
  have c5 : w3.cell? ⟨w.heap.size, 5, none⟩ = some (.int .i64 a5) := hD2.cell 5
  by_cases k1 : M ≤ a3
  · have HX := Lib.hid (HC.out.trans (if_pos k1))
    go_wp2_with fail
    go_ret2
    exact ⟨by rw [HLA.out, HX.out]; rfl, hG2⟩
  · have HX := Lib.hid (HC.out.trans (if_neg k1))
    have hM1 : 0 < M := by omega
    obtain ⟨q1, hq1⟩ : ∃ q, (M + 60 - 1) / 60 = q := ⟨_, rfl⟩
    obtain ⟨q2, hq2⟩ : ∃ q, (M + 1440 - 1) / 1440 = q := ⟨_, rfl⟩
    rw [hq1, hq2] at HX
    clear HC
    go_wp2_with fail
    go_loopg [7, 9] q1.toNat (fun gk s7 s9 wr => ∃ k : Nat, (k : Int) ≤ q1 ∧ gk = (q1 - k).toNat ∧ s7 = .int .i64 (a4 * k) ∧ s9 = .int .i64 (60 * k) ∧ w3 = wr)
    case atStart => exact ⟨0, by omega, by simp, by simp, by simp, rfl⟩
    case round =>
      obtain ⟨k, hk, rfl, rfl, rfl, rfl⟩ := hrel
      have p1 : 0 ≤ a4 * (k : Int) := Int.mul_nonneg d5.1 (by omega)
      have p2 : a4 * (k : Int) ≤ 1000000 * 96025 := Int.mul_le_mul d5.2 (by omega) (by omega) (by omega)
      by_cases hlt2 : 60 * (k : Int) < M
      · have hw3 : IntKind.i64.wrap (a4 * (k : Int) + a4) = a4 * (k : Int) + a4 := by rw [IntKind.wrap_i64]; omega
        have hw4 : IntKind.i64.wrap (60 * (k : Int) + 60) = 60 * (k : Int) + 60 := by rw [IntKind.wrap_i64]; omega
        have hkq : (k : Int) + 1 ≤ q1 := by omega
        have e1 : Hid (a4 * (k : Int) + a4 = a4 * ((k + 1 : Nat) : Int)) := Lib.hid (by rw [Int.natCast_add, Int.mul_add]; simp)
        have e2 : Hid (60 * (k : Int) + 60 = 60 * ((k + 1 : Nat) : Int)) := Lib.hid (by omega)
        clear p1 p2
        go_wp2_with fail
        go_roundg (q1 - (k + 1 : Nat)).toNat
        case rel => exact ⟨k + 1, by omega, rfl, by rw [e1.out], by rw [e2.out], rfl⟩
        case measure => omega
      · have hkq : (k : Int) = q1 := by omega
        have HK1 : Hid (a4 * (k : Int) = a4 * q1) := Lib.hid (by rw [hkq])
        obtain ⟨P1, hP1⟩ : ∃ P, a4 * (k : Int) = P := ⟨_, rfl⟩
        rw [hP1] at HK1 p1 p2 ⊢
        clear hP1
        go_wp2_with fail
        go_loopg [8, 10] q2.toNat (fun gk s8 s10 wr => ∃ j : Nat, (j : Int) ≤ q2 ∧ gk = (q2 - j).toNat ∧ s8 = .int .i64 (a5 * j) ∧ s10 = .int .i64 (1440 * j) ∧ w3 = wr)
        case atStart => exact ⟨0, by omega, by simp, by simp, by simp, rfl⟩
        case round =>
          obtain ⟨j, hj, rfl, rfl, rfl, rfl⟩ := hrel
          have p3 : 0 ≤ a5 * (j : Int) := Int.mul_nonneg d6.1 (by omega)
          have p4 : a5 * (j : Int) ≤ 1000000 * 96025 := Int.mul_le_mul d6.2 (by omega) (by omega) (by omega)
          by_cases hlt3 : 1440 * (j : Int) < M
          · have hw3 : IntKind.i64.wrap (a5 * (j : Int) + a5) = a5 * (j : Int) + a5 := by rw [IntKind.wrap_i64]; omega
            have hw4 : IntKind.i64.wrap (1440 * (j : Int) + 1440) = 1440 * (j : Int) + 1440 := by rw [IntKind.wrap_i64]; omega
            have hkq2 : (j : Int) + 1 ≤ q2 := by omega
            have e1 : Hid (a5 * (j : Int) + a5 = a5 * ((j + 1 : Nat) : Int)) := Lib.hid (by rw [Int.natCast_add, Int.mul_add]; simp)
            have e2 : Hid (1440 * (j : Int) + 1440 = 1440 * ((j + 1 : Nat) : Int)) := Lib.hid (by omega)
            clear p3 p4
            go_wp2_with fail
            go_roundg (q2 - (j + 1 : Nat)).toNat
            case rel => exact ⟨j + 1, by omega, rfl, by rw [e1.out], by rw [e2.out], rfl⟩
            case measure => omega
          · have hjq : (j : Int) = q2 := by omega
            have HK2 : Hid (a5 * (j : Int) = a5 * q2) := Lib.hid (by rw [hjq])
            obtain ⟨P2, hP2⟩ : ∃ P, a5 * (j : Int) = P := ⟨_, rfl⟩
            rw [hP2] at HK2 p3 p4 ⊢
            clear hP2
            go_wp2_with fail
            go_ret2
            exact ⟨by rw [HLA.out, HX.out, ← HK1.out, ← HK2.out]; rfl, hG2⟩
end Go.Proofs.YtpgamfoancomiaaDoor

/- BillOf; lists of lines compared. Its drawn region is written by genbof.py. -/
namespace Go.Proofs.YtpgamfoancomiaaDoor
open Go.RowKit

theorem li_neqf (x : Li) (w : World) : (binOp .neq 73 (.agg #[.int .i64 x.1, .string x.2.1, .int .i64 x.2.2]) (.agg #[.int .i64 x.1, .string x.2.1, .int .i64 x.2.2])).run Tryd.prog w = .ok (.bool false) w := by
  have ht : Tryd.prog.underlying 73 = some (.struct (Tryd.prog.fieldsOf 73)) := by kernel_rfl
  have hp : Tryd.prog.stoodInHeld 73 = false := by kernel_rfl
  rw [run_neq_struct, run_equalIn_agg w 9999 73 _ _ ht hp]
  simp [Tryd.underlying73, Tryd.underlying3, Tryd.underlying9, go_sem]
def LiqRel (l : List Li) (w : World) (i : Value) (wr : World) : Prop := ∃ k n : Nat, k ≤ l.length ∧ i = .int .i64 k ∧ wr = w.drewN n
set_option maxRecDepth 100000 in
set_option maxHeartbeats 2000000 in
theorem liEqual_c (v u : Value) (l : List Li) (w : World) (hr : RdR w 3 liC v l) (hs : RdR w 3 liC u l) (hn : l.length ≤ 1000000) :
    Calls Tryd.prog 43 #[v, u] w fun e w' => e = .returned (.bool true) ∧ G w w' none := by
  have HR := Lib.hid hr
  have HS := Lib.hid hs
  obtain ⟨a, cap, rfl, hcap, hm1⟩ := RdR.form hr
  obtain ⟨a2, cap2, rfl, hcap2, hm2⟩ := RdR.form hs
  clear hr hs
  have hlq : ((l.length : Int) != (l.length : Int)) = false := by simp
  go_enter Tryd.func43, Tryd.ntmps43
  go_wp2_with fail
  go_loopw [13] (LiqRel l w) (fun i _ => l.length - (intOf i).toNat)
  case atStart => exact ⟨0, 0, by omega, rfl, rfl⟩
  case round =>
    obtain ⟨k, n, hk, rfl, rfl⟩ := hrel
    by_cases hlt : k < l.length
    · obtain ⟨x, hx⟩ : ∃ x, l[k]? = some x := ⟨_, List.getElem?_eq_getElem hlt⟩
      obtain ⟨bb, bo, rfl, hbb, _⟩ := RdR.elem liC_sz HR.out (G.refl w none) hx
      obtain ⟨b2, o2, rfl, hb2, _⟩ := RdR.elem liC_sz HS.out (G.refl w none) hx
      have d0 := RdR.cell liC_sz HR.out (G.refl w none) hx 0 (.int .i64 x.1) rfl
      have d1 := RdR.cell liC_sz HR.out (G.refl w none) hx 1 (.string x.2.1) rfl
      have d2 := RdR.cell liC_sz HR.out (G.refl w none) hx 2 (.int .i64 x.2.2) rfl
      have e0 := RdR.cell liC_sz HS.out (G.refl w none) hx 0 (.int .i64 x.1) rfl
      have e1 := RdR.cell liC_sz HS.out (G.refl w none) hx 1 (.string x.2.1) rfl
      have e2 := RdR.cell liC_sz HS.out (G.refl w none) hx 2 (.int .i64 x.2.2) rfl
      simp only [Nat.add_zero] at d0 e0
      have hnq := li_neqf x
      clear hx
      go_wp2_with fail
      go_quiet (fail)
      go_wp2_with fail
      go_roundw
      case rel => exact ⟨k + 1, _, by omega, by go_num, rfl⟩
      case measure => simp [intOf]; omega
    · obtain rfl : k = l.length := by omega
      go_wp2_with fail
      go_ret
      exact ⟨rfl, (G.refl _ _).drewN _⟩
/-- What has been added so far. -/
def accL (ls : List Li) (c1 c2 c3 : Int) : Nat → List Li
  | 0 => ls
  | 1 => liAdd ls kLate c1
  | 2 => liAdd (liAdd ls kLate c1) kDist c2
  | _ => liAdd (liAdd (liAdd ls kLate c1) kDist c2) kFuel c3
theorem accL_len (ls : List Li) (c1 c2 c3 : Int) (k : Nat) : (accL ls c1 c2 c3 k).length ≤ ls.length + 3 := by
  have h1 := (liAdd_len ls kLate c1).2
  have h2 := (liAdd_len (liAdd ls kLate c1) kDist c2).2
  have h3 := (liAdd_len (liAdd (liAdd ls kLate c1) kDist c2) kFuel c3).2
  unfold accL
  split <;> omega
def rows3 (c1 c2 c3 : Int) : List Li := [(6, kLate, c1), (6, kDist, c2), (6, kFuel, c3)]
theorem accL_step (ls : List Li) (c1 c2 c3 : Int) (k : Nat) (p : Li) (hp : (rows3 c1 c2 c3)[k]? = some p) : accL ls c1 c2 c3 (k + 1) = if p.2.2 = 0 then accL ls c1 c2 c3 k else accL ls c1 c2 c3 k ++ [p] := by
  match k, hp with
  | 0, hp => cases hp; rfl
  | 1, hp => cases hp; rfl
  | 2, hp => cases hp; rfl
  | k + 3, hp => simp [rows3] at hp
theorem wp_append_li2 {w : World} {o : Oper} {a : Act} {K : Act → World → Prop} {Q : Exit → Act → World → Prop} (s x : Operand)
    (ho : o.op = .call { callee := .builtin .append, args := #[s, x], argTypes := #[64, 64] }) (base : Nat) (v : Value) (l : List Li) (hs : a.eval s = v) (hown : OwnLi w base v l)
    (g : Nat) (r : Li) (hx : a.eval x = .slice (some ⟨g, 0, none⟩) 1 1) (hb : Bk w g 73 (liC r)) (hl : l.length ≤ 3000) (hbase : base ≤ w.heap.size)
    (hK : ∀ v' w', OwnLi w' base v' (l ++ [r]) → w.grownBy w' v.ownBlock → (∀ k, v'.ownBlock = some k → v.ownBlock = some k ∨ k = w.heap.size) → K (a.put o.dst v') w') : o.wp Tryd.prog a w K Q := by
  obtain ⟨i0, hi, hz0, hz1, hz2⟩ := info_parts li_rowOk.row
  refine wp_append_lies w s x 64 ho base 73 i0 (.agg (liC (0, ⟨#[]⟩, 0))) 3 32 li_rowOk.slice hi hz0 hz1 hz2 rfl (by omega) v l.length (rowL liC l) hs hown ⟨g, 0, none⟩ 1 1 (liC r).toList hx (by rw [Array.length_toList, liC_sz]) (bk_at hb) (li_oneL r) (by omega) (by unfold maxLen; omega) (by omega) hbase _ rfl ?_
  intro g' cap w' h1 h2 h3 _
  refine hK _ w' ?_ h2 (fun k e => by cases e; exact h3)
  show World.ownsRow _ _ _ _ _ (l ++ [r]).length _
  rw [List.length_append, rowL_snoc]
  exact h1
def BofRel (w0 : World) (base g : Nat) (ls : List Li) (c1 c2 c3 : Int) (gk : Nat) (s8 s46 : Value) (wr : World) : Prop :=
  ∃ k : Nat, k ≤ 3 ∧ gk = 3 - k ∧ s46 = .int .i64 k ∧ OwnLi wr base s8 (accL ls c1 c2 c3 k) ∧ base ≤ wr.heap.size ∧ RdR wr 3 liC (.slice (some ⟨g, 0, none⟩) 3 3) (rows3 c1 c2 c3) ∧ G w0 wr none ∧ (∀ j, s8.ownBlock = some j → j ≠ g)
set_option maxRecDepth 100000 in
set_option maxHeartbeats 8000000 in
theorem billOf_c (x : De) (h : Hh) (v : Value) (l : List Lg) (u : Value) (ls : List Li) (w : World) (hx : deE x = 0) (he : hiE h l = 0) (ho : ioB l = false) (hr : RdR w 9 lgC v l)
    (hu : RdR w 3 liC u ls) (hls : LiOk ls) (hm : ls.length ≤ 1990) :
    Calls Tryd.prog 41 #[.agg (deC x), .agg (hiC h v), u] w fun e w' => ∃ v', e = .returned (.tuple #[v', .int .i64 (liE (billL x h l ls))]) ∧ RdR w' 3 liC v' (if liE (billL x h l ls) = 0 then billL x h l ls else []) ∧ G w w' none := by
  obtain ⟨a, cap, rfl, hcap, hmm⟩ := RdR.form hr
  have CLT := Lib.hid (fun w' (q : RdR w' 9 lgC (.slice a l.length cap) l) => lateOf_c x h _ l w' hx he ho q)
  have CKM := Lib.hid (fun w' (q : RdR w' 9 lgC (.slice a l.length cap) l) => kmOf_r h _ l w' q he ho)
  have CMI := Lib.hid (fun w' (q : RdR w' 9 lgC (.slice a l.length cap) l) => missingOf_r h _ l w' q he ho)
  have hte := (hiE_ls he).2
  have CDA := Lib.hid (fun w' => daysOf_c h.2.2.1 h.2.2.2 w' hte)
  have htn := tN_bnd hte
  have hkm := (km_bnd he ho).2
  have hmi := (mi_bnd he ho).2
  obtain ⟨d0, d1, d2, -⟩ := deE_ok hx
  have HR := Lib.hid hr
  have HU := Lib.hid hu
  have HLS := Lib.hid (billL_ok (x := x) (h := h) (l := l) hls)
  have HBL : Hid (billL x h l ls = accL ls (lcN x (laN h l)) (x.km * max 0 (kmS l - x.free * tN h.2.2.1 h.2.2.2)) (x.eighth * miS l) 3) := Lib.hid rfl
  clear hr hu hls hx he ho hte
  generalize billL x h l ls = BL at HLS HBL ⊢
  obtain ⟨RL, hRL⟩ : ∃ RL, (if liE BL = 0 then BL else []) = RL := ⟨_, rfl⟩
  have HRL := Lib.hid hRL
  rw [hRL]
  clear hRL
  generalize lcN x (laN h l) = LC at HBL CLT
  generalize laN h l = LN at CLT
  generalize kmS l = KM at HBL CKM hkm
  generalize miS l = MI at HBL CMI hmi
  generalize tN h.2.2.1 h.2.2.2 = T at HBL CDA htn
  obtain ⟨a0, a1, a2, a3, a4, a5, a6⟩ := x
  dsimp only at HBL d0 d1 d2
  have p1 : 0 ≤ a0 * T := Int.mul_nonneg d0.1 (by omega)
  have p2 : a0 * T ≤ 10000 * 121 := Int.mul_le_mul d0.2 htn.2 (by omega) (by omega)
  have hw1 : IntKind.i64.wrap (a0 * T) = a0 * T := by rw [IntKind.wrap_i64]; omega
  have hw2 : IntKind.i64.wrap (KM - a0 * T) = KM - a0 * T := by rw [IntKind.wrap_i64]; omega
  have q1 : 0 ≤ a1 * max 0 (KM - a0 * T) := Int.mul_nonneg d1.1 (by omega)
  have q2 : a1 * max 0 (KM - a0 * T) ≤ 100000 * 20000000 := Int.mul_le_mul d1.2 (by omega) (by omega) (by omega)
  have q3 : 0 ≤ a2 * MI := Int.mul_nonneg d2.1 hmi.1
  have q4 : a2 * MI ≤ 100000 * 160 := Int.mul_le_mul d2.2 hmi.2 hmi.1 (by omega)
  obtain ⟨DC, hDC⟩ : ∃ q, a1 * max 0 (KM - a0 * T) = q := ⟨_, rfl⟩
  obtain ⟨FC, hFC⟩ : ∃ q, a2 * MI = q := ⟨_, rfl⟩
  rw [hDC] at HBL q1 q2
  rw [hFC] at HBL q3 q4
  have hw3 : IntKind.i64.wrap (a1 * max 0 (KM - a0 * T)) = DC := by rw [hDC, IntKind.wrap_i64]; omega
  have hw4 : IntKind.i64.wrap (a2 * MI) = FC := by rw [hFC, IntKind.wrap_i64]; omega
  clear hDC hFC p1 p2 q1 q2 q3 q4 hkm hmi htn d0 d1 d2
  rw [show deC ⟨a0, a1, a2, a3, a4, a5, a6⟩ = #[.int .i64 a0, .int .i64 a1, .int .i64 a2, .int .i64 a3, .int .i64 a4, .int .i64 a5, .int .i64 a6] from rfl] at *
  have hD := (Bk.new w 27 #[.int .i64 a0, .int .i64 a1, .int .i64 a2, .int .i64 a3, .int .i64 a4, .int .i64 a5, .int .i64 a6]).alloc (.cells (hiC h (.slice a l.length cap)) 33)
  have hH := Bk.newAt (w := w.alloc (.cells #[.int .i64 a0, .int .i64 a1, .int .i64 a2, .int .i64 a3, .int .i64 a4, .int .i64 a5, .int .i64 a6] 27)) (b := w.heap.size + 1) (by simp) 33 (hiC h (.slice a l.length cap))
  have hG := ((G.refl w none).alloc (.cells #[.int .i64 a0, .int .i64 a1, .int .i64 a2, .int .i64 a3, .int .i64 a4, .int .i64 a5, .int .i64 a6] 27)).alloc (.cells (hiC h (.slice a l.length cap)) 33)
  simp only [hiC] at hD hH hG CLT CKM CMI ⊢
  go_enter Tryd.func41, Tryd.ntmps41
  go_upto_region 1 with fail
  generalize (w.alloc (.cells #[.int .i64 a0, .int .i64 a1, .int .i64 a2, .int .i64 a3, .int .i64 a4, .int .i64 a5, .int .i64 a6] 27)).alloc (.cells #[.string h.1, .string h.2.1, .int .i64 h.2.2.1, .int .i64 h.2.2.2, .slice a l.length cap] 33) = w2 at hG hD hH ⊢
  go_wp2_with fail
  refine (cloneLi_c u ls _ (HU.out.quiet hG) (by omega)).mono ?_; rintro e w3 ⟨v1, rfl, hO, hh⟩
  have hbw : w.heap.size ≤ w2.heap.size := hG.size
  have hz : w2.heap.size ≤ w3.heap.size := hh.size
  replace hD := hD.quiet hh
  replace hH := hH.quiet hh
  replace hG := hG.trans hh
  clear hh
  generalize w2.heap.size = base at hO hz hbw
  go_wp2_with (first | (refine wpList_load_row rfl 27 _ rfl w.heap.size rfl 27 #[.int .i64 a0, .int .i64 a1, .int .i64 a2, .int .i64 a3, .int .i64 a4, .int .i64 a5, .int .i64 a6] (0, 0) _ hD Tryd.underlying27 rfl (de_info ⟨a0, a1, a2, a3, a4, a5, a6⟩) ?_) | (refine wpList_load_row rfl 33 _ rfl (w.heap.size + 1) rfl 33 #[.string h.1, .string h.2.1, .int .i64 h.2.2.1, .int .i64 h.2.2.2, .slice a l.length cap] (0, 0) _ hH Tryd.underlying33 rfl (hi_info h _) ?_))
  refine (CLT.out _ (HR.out.quiet hG)).mono ?_; rintro e w5 ⟨rfl, hh⟩
  replace hD := hD.quiet hh
  replace hH := hH.quiet hh
  replace hO := OwnX.quiet hO hh
  replace hz := Nat.le_trans hz hh.size
  replace hG := hG.trans hh
  clear hh CLT
  go_upto_region 3 with fail
  have hvl := Rd.blk (Rd.of_owns hO)
  have hq := (G.refl w5 none).drew
  have hD0 := hD.quiet hq
  have hH0 := hH.quiet hq
  have hO0 := OwnX.quiet hO hq
  have hz0 := Nat.le_trans hz hq.size
  have hw50 : w5.heap.size ≤ w5.drew.heap.size := hq.size
  have hG0 := hG.trans hq
  clear hq hD hH hO hz hG
  refine wp_region_held_drew (S := (fun w' => w'.cell? ⟨w.heap.size, 0, none⟩ = some (.int .i64 a0) ∧ w'.cell? ⟨w.heap.size, 1, none⟩ = some (.int .i64 a1) ∧ w'.cell? ⟨w.heap.size, 2, none⟩ = some (.int .i64 a2) ∧ w'.cell? ⟨w.heap.size, 3, none⟩ = some (.int .i64 a3) ∧ w'.cell? ⟨w.heap.size, 4, none⟩ = some (.int .i64 a4) ∧ w'.cell? ⟨w.heap.size, 5, none⟩ = some (.int .i64 a5) ∧ w'.cell? ⟨w.heap.size, 6, none⟩ = some (.int .i64 a6) ∧ w'.cell? ⟨w.heap.size + 1, 0, none⟩ = some (.string h.1) ∧ w'.cell? ⟨w.heap.size + 1, 1, none⟩ = some (.string h.2.1) ∧ w'.cell? ⟨w.heap.size + 1, 2, none⟩ = some (.int .i64 h.2.2.1) ∧ w'.cell? ⟨w.heap.size + 1, 3, none⟩ = some (.int .i64 h.2.2.2) ∧ w'.cell? ⟨w.heap.size + 1, 4, none⟩ = some (.slice a l.length cap))) (by kernel_rfl) ?_ (fun hHeld => ?_)
  · exact ⟨hD0.cell 0, hD0.cell 1, hD0.cell 2, hD0.cell 3, hD0.cell 4, hD0.cell 5, hD0.cell 6, hH0.cell 0, hH0.cell 1, hH0.cell 2, hH0.cell 3, hH0.cell 4⟩
  refine wpAnyH_take (i := 0) (oi := { dst := some 22, op := Op.move (Operand.tmp 10), type := 3, pos := _, after := #[], guard := none }) (v := ?_) rfl (by kernel_rfl) (by kernel_rfl) (by kernel_rfl) (fun _ _ _ h => h) (Or.inl ⟨by rfl, ?_⟩) (by assumption) ?_
  rotate_left
  · (intro w hSw; obtain ⟨s0, s1, s2, s3, s4, s5, s6, s7, s8, s9, s10, s11⟩ := hSw; (go_simp <;> with_reducible rfl))
  try simp only [Act.put, List.setIfInBounds_toArray, List.set_cons_zero, List.set_cons_succ]
  refine wpAnyH_take (i := 1) (oi := { dst := some 23, op := Op.build 73 #[(0, Operand.const (Value.int IntKind.i64 6)), (1, Operand.const (Value.string { data := #[108, 97, 116, 101] })), (2, Operand.tmp 22)], type := 73, pos := _, after := #[{ on := 0, ground := Ground.data }], guard := none }) (v := ?_) rfl (by kernel_rfl) (by kernel_rfl) (by kernel_rfl) (fun _ _ _ h => h) (Or.inl ⟨by rfl, ?_⟩) (by assumption) ?_
  rotate_left
  · (intro w hSw; obtain ⟨s0, s1, s2, s3, s4, s5, s6, s7, s8, s9, s10, s11⟩ := hSw; (go_simp <;> with_reducible rfl))
  try simp only [Act.put, List.setIfInBounds_toArray, List.set_cons_zero, List.set_cons_succ]
  refine wpAnyH_take (i := 2) (oi := { dst := some 24, op := Op.fieldAddr 27 (Operand.tmp 3) 1, type := 0, pos := _, after := #[], guard := none }) (v := ?_) rfl (by kernel_rfl) (by kernel_rfl) (by kernel_rfl) (fun _ _ _ h => h) (Or.inl ⟨by rfl, ?_⟩) (by assumption) ?_
  rotate_left
  · (intro w hSw; obtain ⟨s0, s1, s2, s3, s4, s5, s6, s7, s8, s9, s10, s11⟩ := hSw; (go_simp <;> with_reducible rfl))
  try simp only [Act.put, List.setIfInBounds_toArray, List.set_cons_zero, List.set_cons_succ]
  refine wpAnyH_take (i := 3) (oi := { dst := some 25, op := Op.load 3 (Operand.tmp 24), type := 3, pos := _, after := #[{ on := 2, ground := Ground.data }], guard := none }) (v := ?_) rfl (by kernel_rfl) (by kernel_rfl) (by kernel_rfl) (fun _ _ _ h => h) (Or.inl ⟨by rfl, ?_⟩) (by assumption) ?_
  rotate_left
  · (intro w hSw; obtain ⟨s0, s1, s2, s3, s4, s5, s6, s7, s8, s9, s10, s11⟩ := hSw; (go_simp <;> with_reducible rfl))
  try simp only [Act.put, List.setIfInBounds_toArray, List.set_cons_zero, List.set_cons_succ]
  refine wpAnyH_take (i := 4) (oi := { dst := some 26, op := Op.load 33 (Operand.tmp 4), type := 33, pos := _, after := #[], guard := none }) (v := ?_) rfl (by kernel_rfl) (by kernel_rfl) (by kernel_rfl) (fun _ _ _ h => h) (Or.inl ⟨by rfl, ?_⟩) (by assumption) ?_
  rotate_left
  · (intro w hSw; obtain ⟨s0, s1, s2, s3, s4, s5, s6, s7, s8, s9, s10, s11⟩ := hSw; (go_simp <;> with_reducible rfl))
  try simp only [Act.put, List.setIfInBounds_toArray, List.set_cons_zero, List.set_cons_succ]
  refine wpAnyH_take (i := 6) (oi := { dst := some 28, op := Op.fieldAddr 27 (Operand.tmp 3) 0, type := 0, pos := _, after := #[], guard := none }) (v := ?_) rfl (by kernel_rfl) (by kernel_rfl) (by kernel_rfl) (fun _ _ _ h => h) (Or.inl ⟨by rfl, ?_⟩) (by assumption) ?_
  rotate_left
  · (intro w hSw; obtain ⟨s0, s1, s2, s3, s4, s5, s6, s7, s8, s9, s10, s11⟩ := hSw; (go_simp <;> with_reducible rfl))
  try simp only [Act.put, List.setIfInBounds_toArray, List.set_cons_zero, List.set_cons_succ]
  refine wpAnyH_take (i := 7) (oi := { dst := some 29, op := Op.load 3 (Operand.tmp 28), type := 3, pos := _, after := #[{ on := 6, ground := Ground.data }], guard := none }) (v := ?_) rfl (by kernel_rfl) (by kernel_rfl) (by kernel_rfl) (fun _ _ _ h => h) (Or.inl ⟨by rfl, ?_⟩) (by assumption) ?_
  rotate_left
  · (intro w hSw; obtain ⟨s0, s1, s2, s3, s4, s5, s6, s7, s8, s9, s10, s11⟩ := hSw; (go_simp <;> with_reducible rfl))
  try simp only [Act.put, List.setIfInBounds_toArray, List.set_cons_zero, List.set_cons_succ]
  refine wpAnyH_take (i := 8) (oi := { dst := some 30, op := Op.fieldAddr 33 (Operand.tmp 4) 2, type := 0, pos := _, after := #[], guard := none }) (v := ?_) rfl (by kernel_rfl) (by kernel_rfl) (by kernel_rfl) (fun _ _ _ h => h) (Or.inl ⟨by rfl, ?_⟩) (by assumption) ?_
  rotate_left
  · (intro w hSw; obtain ⟨s0, s1, s2, s3, s4, s5, s6, s7, s8, s9, s10, s11⟩ := hSw; (go_simp <;> with_reducible rfl))
  try simp only [Act.put, List.setIfInBounds_toArray, List.set_cons_zero, List.set_cons_succ]
  refine wpAnyH_take (i := 9) (oi := { dst := some 31, op := Op.load 30 (Operand.tmp 30), type := 30, pos := _, after := #[{ on := 8, ground := Ground.data }], guard := none }) (v := ?_) rfl (by kernel_rfl) (by kernel_rfl) (by kernel_rfl) (fun _ _ _ h => h) (Or.inl ⟨by rfl, ?_⟩) (by assumption) ?_
  rotate_left
  · (intro w hSw; obtain ⟨s0, s1, s2, s3, s4, s5, s6, s7, s8, s9, s10, s11⟩ := hSw; (go_simp <;> with_reducible rfl))
  try simp only [Act.put, List.setIfInBounds_toArray, List.set_cons_zero, List.set_cons_succ]
  refine wpAnyH_take (i := 16) (oi := { dst := some 38, op := Op.fieldAddr 27 (Operand.tmp 3) 2, type := 0, pos := _, after := #[], guard := none }) (v := ?_) rfl (by kernel_rfl) (by kernel_rfl) (by kernel_rfl) (fun _ _ _ h => h) (Or.inl ⟨by rfl, ?_⟩) (by assumption) ?_
  rotate_left
  · (intro w hSw; obtain ⟨s0, s1, s2, s3, s4, s5, s6, s7, s8, s9, s10, s11⟩ := hSw; (go_simp <;> with_reducible rfl))
  try simp only [Act.put, List.setIfInBounds_toArray, List.set_cons_zero, List.set_cons_succ]
  refine wpAnyH_take (i := 17) (oi := { dst := some 39, op := Op.load 3 (Operand.tmp 38), type := 3, pos := _, after := #[{ on := 16, ground := Ground.data }], guard := none }) (v := ?_) rfl (by kernel_rfl) (by kernel_rfl) (by kernel_rfl) (fun _ _ _ h => h) (Or.inl ⟨by rfl, ?_⟩) (by assumption) ?_
  rotate_left
  · (intro w hSw; obtain ⟨s0, s1, s2, s3, s4, s5, s6, s7, s8, s9, s10, s11⟩ := hSw; (go_simp <;> with_reducible rfl))
  try simp only [Act.put, List.setIfInBounds_toArray, List.set_cons_zero, List.set_cons_succ]
  refine wpAnyH_take (i := 18) (oi := { dst := some 40, op := Op.load 33 (Operand.tmp 4), type := 33, pos := _, after := #[], guard := none }) (v := ?_) rfl (by kernel_rfl) (by kernel_rfl) (by kernel_rfl) (fun _ _ _ h => h) (Or.inl ⟨by rfl, ?_⟩) (by assumption) ?_
  rotate_left
  · (intro w hSw; obtain ⟨s0, s1, s2, s3, s4, s5, s6, s7, s8, s9, s10, s11⟩ := hSw; (go_simp <;> with_reducible rfl))
  try simp only [Act.put, List.setIfInBounds_toArray, List.set_cons_zero, List.set_cons_succ]
  refine wpAnyH_take (i := 24) (oi := { dst := some 46, op := Op.move (Operand.const (Value.int IntKind.i64 0)), type := 3, pos := _, after := #[], guard := none }) (v := ?_) rfl (by kernel_rfl) (by kernel_rfl) (by kernel_rfl) (fun _ _ _ h => h) (Or.inl ⟨by rfl, ?_⟩) (by assumption) ?_
  rotate_left
  · (intro w hSw; obtain ⟨s0, s1, s2, s3, s4, s5, s6, s7, s8, s9, s10, s11⟩ := hSw; (go_simp <;> with_reducible rfl))
  try simp only [Act.put, List.setIfInBounds_toArray, List.set_cons_zero, List.set_cons_succ]
  refine wpAnyH_ready (rs := [5]) (by kernel_rfl) (by simp) ?_
  refine (AllReadyH.cons (o := { dst := some 27, op := Op.call { callee := Callee.value (Operand.func 34), args := #[Operand.tmp 26], argTypes := #[33] }, type := 3, pos := _, after := #[{ on := 4, ground := Ground.data }], guard := none }) rfl (fun K hK => ?_) AllReadyH.nil)
  go_simp
  refine (CKM.out _ (HR.out.quiet hG0)).mono ?_
  rintro e wk ⟨rfl, hh⟩
  have hD1 := hD0.quiet hh
  have hH1 := hH0.quiet hh
  have hO1 := OwnX.quiet hO0 hh
  have hz1 := Nat.le_trans hz0 hh.size
  have hw51 := Nat.le_trans hw50 hh.size
  have hG1 := hG0.trans hh
  clear hh hD0 hH0 hO0 hz0 hG0 hw50
  refine hK.out _ _ ?_ (fun hHeld => ?_)
  · exact ⟨hD1.cell 0, hD1.cell 1, hD1.cell 2, hD1.cell 3, hD1.cell 4, hD1.cell 5, hD1.cell 6, hH1.cell 0, hH1.cell 1, hH1.cell 2, hH1.cell 3, hH1.cell 4⟩
  clear hK K
  try simp only [Act.put, List.setIfInBounds_toArray, List.set_cons_zero, List.set_cons_succ]
  refine wpAnyH_ready (rs := [10]) (by kernel_rfl) (by simp) ?_
  refine (AllReadyH.cons (o := { dst := some 32, op := Op.call { callee := Callee.value (Operand.func 94), args := #[Operand.tmp 31], argTypes := #[30] }, type := 3, pos := _, after := #[{ on := 9, ground := Ground.data }, { on := 5, ground := Ground.chain }], guard := none }) rfl (fun K hK => ?_) AllReadyH.nil)
  go_simp
  refine (CDA.out _).mono ?_
  rintro e wd ⟨rfl, hh⟩
  have hD2 := hD1.quiet hh
  have hH2 := hH1.quiet hh
  have hO2 := OwnX.quiet hO1 hh
  have hz2 := Nat.le_trans hz1 hh.size
  have hw52 := Nat.le_trans hw51 hh.size
  have hG2 := hG1.trans hh
  clear hh hD1 hH1 hO1 hz1 hG1 hw51
  refine hK.out _ _ ?_ (fun hHeld => ?_)
  · exact ⟨hD2.cell 0, hD2.cell 1, hD2.cell 2, hD2.cell 3, hD2.cell 4, hD2.cell 5, hD2.cell 6, hH2.cell 0, hH2.cell 1, hH2.cell 2, hH2.cell 3, hH2.cell 4⟩
  clear hK K
  try simp only [Act.put, List.setIfInBounds_toArray, List.set_cons_zero, List.set_cons_succ]
  refine wpAnyH_take (i := 11) (oi := { dst := some 33, op := Op.binOp BinOp.mul 3 (Operand.tmp 29) (Operand.tmp 32) 3, type := 3, pos := _, after := #[{ on := 7, ground := Ground.data }, { on := 10, ground := Ground.data }], guard := none }) (v := ?_) rfl (by kernel_rfl) (by kernel_rfl) (by kernel_rfl) (fun _ _ _ h => h) (Or.inl ⟨by rfl, ?_⟩) (by assumption) ?_
  rotate_left
  · (intro w hSw; obtain ⟨s0, s1, s2, s3, s4, s5, s6, s7, s8, s9, s10, s11⟩ := hSw; (go_simp <;> with_reducible rfl))
  try simp only [Act.put, List.setIfInBounds_toArray, List.set_cons_zero, List.set_cons_succ]
  refine wpAnyH_take (i := 12) (oi := { dst := some 34, op := Op.binOp BinOp.sub 3 (Operand.tmp 27) (Operand.tmp 33) 3, type := 3, pos := _, after := #[{ on := 5, ground := Ground.data }, { on := 11, ground := Ground.data }], guard := none }) (v := ?_) rfl (by kernel_rfl) (by kernel_rfl) (by kernel_rfl) (fun _ _ _ h => h) (Or.inl ⟨by rfl, ?_⟩) (by assumption) ?_
  rotate_left
  · (intro w hSw; obtain ⟨s0, s1, s2, s3, s4, s5, s6, s7, s8, s9, s10, s11⟩ := hSw; (go_simp <;> with_reducible rfl))
  try simp only [Act.put, List.setIfInBounds_toArray, List.set_cons_zero, List.set_cons_succ]
  refine wpAnyH_take (i := 13) (oi := { dst := some 35, op := Op.call { callee := Callee.builtin Builtin.max, args := #[Operand.const (Value.int IntKind.i64 0), Operand.tmp 34], argTypes := #[3, 3] }, type := 3, pos := _, after := #[{ on := 12, ground := Ground.data }], guard := none }) (v := ?_) rfl (by kernel_rfl) (by kernel_rfl) (by kernel_rfl) (fun _ _ _ h => h) (Or.inl ⟨by rfl, ?_⟩) (by assumption) ?_
  rotate_left
  · (intro w hSw; obtain ⟨s0, s1, s2, s3, s4, s5, s6, s7, s8, s9, s10, s11⟩ := hSw; (go_simp <;> with_reducible rfl))
  try simp only [Act.put, List.setIfInBounds_toArray, List.set_cons_zero, List.set_cons_succ]
  refine wpAnyH_take (i := 14) (oi := { dst := some 36, op := Op.binOp BinOp.mul 3 (Operand.tmp 25) (Operand.tmp 35) 3, type := 3, pos := _, after := #[{ on := 3, ground := Ground.data }, { on := 13, ground := Ground.data }], guard := none }) (v := ?_) rfl (by kernel_rfl) (by kernel_rfl) (by kernel_rfl) (fun _ _ _ h => h) (Or.inl ⟨by rfl, ?_⟩) (by assumption) ?_
  rotate_left
  · (intro w hSw; obtain ⟨s0, s1, s2, s3, s4, s5, s6, s7, s8, s9, s10, s11⟩ := hSw; (go_simp <;> with_reducible rfl))
  try simp only [Act.put, List.setIfInBounds_toArray, List.set_cons_zero, List.set_cons_succ]
  refine wpAnyH_take (i := 15) (oi := { dst := some 37, op := Op.build 73 #[(0, Operand.const (Value.int IntKind.i64 6)), (1, Operand.const (Value.string { data := #[100, 105, 115, 116, 97, 110, 99, 101] })), (2, Operand.tmp 36)], type := 73, pos := _, after := #[{ on := 14, ground := Ground.data }], guard := none }) (v := ?_) rfl (by kernel_rfl) (by kernel_rfl) (by kernel_rfl) (fun _ _ _ h => h) (Or.inl ⟨by rfl, ?_⟩) (by assumption) ?_
  rotate_left
  · (intro w hSw; obtain ⟨s0, s1, s2, s3, s4, s5, s6, s7, s8, s9, s10, s11⟩ := hSw; (go_simp <;> with_reducible rfl))
  try simp only [Act.put, List.setIfInBounds_toArray, List.set_cons_zero, List.set_cons_succ]
  refine wpAnyH_ready (rs := [19]) (by kernel_rfl) (by simp) ?_
  refine (AllReadyH.cons (o := { dst := some 41, op := Op.call { callee := Callee.value (Operand.func 35), args := #[Operand.tmp 40], argTypes := #[33] }, type := 3, pos := _, after := #[{ on := 18, ground := Ground.data }, { on := 10, ground := Ground.chain }], guard := none }) rfl (fun K hK => ?_) AllReadyH.nil)
  go_simp
  refine (CMI.out _ (HR.out.quiet hG2)).mono ?_
  rintro e wm ⟨rfl, hh⟩
  have hD3 := hD2.quiet hh
  have hH3 := hH2.quiet hh
  have hO3 := OwnX.quiet hO2 hh
  have hz3 := Nat.le_trans hz2 hh.size
  have hw53 := Nat.le_trans hw52 hh.size
  have hG3 := hG2.trans hh
  clear hh hD2 hH2 hO2 hz2 hG2 hw52
  have HZM : Hid (w5.heap.size ≤ wm.heap.size) := Lib.hid hw53
  refine hK.out _ _ ?_ (fun hHeld => ?_)
  · exact ⟨hD3.cell 0, hD3.cell 1, hD3.cell 2, hD3.cell 3, hD3.cell 4, hD3.cell 5, hD3.cell 6, hH3.cell 0, hH3.cell 1, hH3.cell 2, hH3.cell 3, hH3.cell 4⟩
  clear hK K
  try simp only [Act.put, List.setIfInBounds_toArray, List.set_cons_zero, List.set_cons_succ]
  refine wpAnyH_take (i := 20) (oi := { dst := some 42, op := Op.binOp BinOp.mul 3 (Operand.tmp 39) (Operand.tmp 41) 3, type := 3, pos := _, after := #[{ on := 17, ground := Ground.data }, { on := 19, ground := Ground.data }], guard := none }) (v := ?_) rfl (by kernel_rfl) (by kernel_rfl) (by kernel_rfl) (fun _ _ _ h => h) (Or.inl ⟨by rfl, ?_⟩) (by assumption) ?_
  rotate_left
  · (intro w hSw; obtain ⟨s0, s1, s2, s3, s4, s5, s6, s7, s8, s9, s10, s11⟩ := hSw; (go_simp <;> with_reducible rfl))
  try simp only [Act.put, List.setIfInBounds_toArray, List.set_cons_zero, List.set_cons_succ]
  refine wpAnyH_take (i := 21) (oi := { dst := some 43, op := Op.build 73 #[(0, Operand.const (Value.int IntKind.i64 6)), (1, Operand.const (Value.string { data := #[102, 117, 101, 108] })), (2, Operand.tmp 42)], type := 73, pos := _, after := #[{ on := 20, ground := Ground.data }], guard := none }) (v := ?_) rfl (by kernel_rfl) (by kernel_rfl) (by kernel_rfl) (fun _ _ _ h => h) (Or.inl ⟨by rfl, ?_⟩) (by assumption) ?_
  rotate_left
  · (intro w hSw; obtain ⟨s0, s1, s2, s3, s4, s5, s6, s7, s8, s9, s10, s11⟩ := hSw; (go_simp <;> with_reducible rfl))
  try simp only [Act.put, List.setIfInBounds_toArray, List.set_cons_zero, List.set_cons_succ]
  refine wpAnyH_ready (rs := [22]) (by kernel_rfl) (by simp) ?_
  refine (AllReadyH.cons (o := { dst := some 44, op := Op.buildSlice 64 3 #[(0, Operand.tmp 23), (1, Operand.tmp 37), (2, Operand.tmp 43)], type := 64, pos := _, after := #[{ on := 1, ground := Ground.data }, { on := 15, ground := Ground.data }, { on := 21, ground := Ground.data }], guard := none }) rfl (fun K hK => ?_) AllReadyH.nil)
  go_simp
  have hT := Bk.new wm 73 #[.int .i64 6, .string ⟨#[108, 97, 116, 101]⟩, .int .i64 LC, .int .i64 6, .string ⟨#[100, 105, 115, 116, 97, 110, 99, 101]⟩, .int .i64 DC, .int .i64 6, .string ⟨#[102, 117, 101, 108]⟩, .int .i64 FC]
  have hh := (G.refl wm none).alloc (.cells #[.int .i64 6, .string ⟨#[108, 97, 116, 101]⟩, .int .i64 LC, .int .i64 6, .string ⟨#[100, 105, 115, 116, 97, 110, 99, 101]⟩, .int .i64 DC, .int .i64 6, .string ⟨#[102, 117, 101, 108]⟩, .int .i64 FC] 73)
  have hD4 := hD3.quiet hh
  have hH4 := hH3.quiet hh
  have hO4 := OwnX.quiet hO3 hh
  have hz4 := Nat.le_trans hz3 hh.size
  have hw54 := Nat.le_trans hw53 hh.size
  have hG4 := hG3.trans hh
  clear hh hD3 hH3 hO3 hz3 hG3 hw53
  refine hK.out _ _ ?_ (fun hHeld => ?_)
  · exact ⟨hD4.cell 0, hD4.cell 1, hD4.cell 2, hD4.cell 3, hD4.cell 4, hD4.cell 5, hD4.cell 6, hH4.cell 0, hH4.cell 1, hH4.cell 2, hH4.cell 3, hH4.cell 4⟩
  clear hK K
  try simp only [Act.put, List.setIfInBounds_toArray, List.set_cons_zero, List.set_cons_succ]
  refine wpAnyH_take (i := 23) (oi := { dst := some 45, op := Op.call { callee := Callee.builtin Builtin.len, args := #[Operand.tmp 44], argTypes := #[64] }, type := 3, pos := _, after := #[{ on := 22, ground := Ground.data }], guard := none }) (v := ?_) rfl (by kernel_rfl) (by kernel_rfl) (by kernel_rfl) (fun _ _ _ h => h) (Or.inl ⟨by rfl, ?_⟩) (by assumption) ?_
  rotate_left
  · (intro w hSw; obtain ⟨s0, s1, s2, s3, s4, s5, s6, s7, s8, s9, s10, s11⟩ := hSw; (go_simp <;> with_reducible rfl))
  try simp only [Act.put, List.setIfInBounds_toArray, List.set_cons_zero, List.set_cons_succ]
  refine wpAnyH_done (by kernel_rfl) ?_ _
  have HVL : Hid (∀ j, v1.ownBlock = some j → j < wm.heap.size) := Lib.hid (fun j e => by have := hvl j e; have := HZM.out; omega)
  have hD := hD4
  have hO := hO4
  have hz := hz4
  have hG := hG4
  clear hD4 hH4 hO4 hz4 hG4
  clear hw1 hw2 hw3 hw4 CKM CDA CMI
  have hRT := (show RdR (wm.alloc (.cells #[.int .i64 6, .string ⟨#[108, 97, 116, 101]⟩, .int .i64 LC, .int .i64 6, .string ⟨#[100, 105, 115, 116, 97, 110, 99, 101]⟩, .int .i64 DC, .int .i64 6, .string ⟨#[102, 117, 101, 108]⟩, .int .i64 FC] 73)) 3 liC (.slice (some ⟨wm.heap.size, 0, none⟩) 3 3) (rows3 LC DC FC) from Bk.rd hT 3 3 rfl (by omega))
  have HNE : Hid (∀ j, v1.ownBlock = some j → j ≠ wm.heap.size) := Lib.hid (fun j e => Nat.ne_of_lt (HVL.out j e))
  clear hT hD HVL
  generalize wm.alloc (.cells #[.int .i64 6, .string ⟨#[108, 97, 116, 101]⟩, .int .i64 LC, .int .i64 6, .string ⟨#[100, 105, 115, 116, 97, 110, 99, 101]⟩, .int .i64 DC, .int .i64 6, .string ⟨#[102, 117, 101, 108]⟩, .int .i64 FC] 73) = wn at hRT hO hz hG ⊢
  generalize wm.heap.size = g at hRT HNE ⊢
  go_wp2_with fail
  go_loopg [8, 46] 3 (fun gk s8 s46 wr => BofRel w base g ls LC DC FC gk s8 s46 wr)
  case atStart => exact ⟨0, by omega, rfl, rfl, hO, hz, hRT, hG, HNE.out⟩
  case round =>
    obtain ⟨k, hk3, rfl, rfl, hO, hz, hRT, hG, hne⟩ := hrel
    have hgl := hRT.blk g rfl
    rename_i s8
    obtain ⟨b1, cap1, rfl, -, -⟩ := RdR.form (Rd.of_owns hO)
    by_cases hk : k < 3
    · obtain ⟨p, hp⟩ : ∃ p, (rows3 LC DC FC)[k]? = some p := ⟨_, List.getElem?_eq_getElem (by simpa [rows3] using hk)⟩
      have HST := Lib.hid (accL_step ls LC DC FC k p hp)
      have HROW := Lib.hid (show ∀ j v, (liC p).toList[j]? = some v → wr.cell? ((⟨g, k * 3, none⟩ : Addr).add j) = some v from by have h := liRow hRT (G.refl _ none) hp; rwa [Nat.zero_add] at h)
      have HK := Lib.hid hk
      have hki : (k : Int) < 3 := by omega
      have hq := (G.refl wr none).alloc (.cells #[.int .i64 p.1, .string p.2.1, .int .i64 p.2.2] 73)
      have hL := Bk.new wr 73 #[.int .i64 p.1, .string p.2.1, .int .i64 p.2.2]
      have hO1 := OwnX.quiet hO hq
      have hz1 := Nat.le_trans hz hq.size
      have hRT1 := Rd.quiet hRT hq
      have hG1 := hG.trans hq
      have hlen := accL_len ls LC DC FC k
      generalize accL ls LC DC FC k = AL at hO1 HST hlen hne ⊢
      clear hp hq hO hz hRT hG
      go_upto_region 6 with (refine wpList_load_at rfl 73 _ rfl ⟨g, k * 3, none⟩ rfl #[.int .i64 p.1, .string p.2.1, .int .i64 p.2.2] _ HROW.out Tryd.underlying73 rfl (li_info p) ?_)
      have HL := Lib.hid hL
      by_cases h0 : p.2.2 = 0
      · have HS1 := Lib.hid (HST.out.trans (if_pos h0))
        have h0' : (p.2.2 != 0) = false := by simpa using h0
        clear h0
        go_wp2_with fail
        go_roundg (3 - (k + 1))
        case rel => exact ⟨k + 1, by have := HK.out; omega, rfl, by go_num, by rw [HS1.out]; exact hO1, hz1, hRT1, hG1, hne⟩
        case measure => have := HK.out; omega
      · have HS1 := Lib.hid (HST.out.trans (if_neg h0))
        have h0' : (p.2.2 != 0) = true := by simpa using h0
        clear h0
        have hq := (G.refl (wr.alloc (.cells #[.int .i64 p.1, .string p.2.1, .int .i64 p.2.2] 73)) none).alloc (.cells #[.int .i64 p.1, .string p.2.1, .int .i64 p.2.2] 73)
        have hO2 := OwnX.quiet hO1 hq
        have hz2 := Nat.le_trans hz1 hq.size
        have hRT2 := Rd.quiet hRT1 hq
        have hG2 := hG1.trans hq
        have hlow := fun k e => OwnX.low hO2 k e
        clear hO1 hz1 hRT1 hG1 hq
        go_wp2_with (first | (refine wpList_load_row rfl 73 _ rfl wr.heap.size rfl 73 #[.int .i64 p.1, .string p.2.1, .int .i64 p.2.2] (0, 0) _ HL.out Tryd.underlying73 rfl (li_info p) ?_) | (at_builtin; refine wpList_plain rfl fun K' hK' => wp_append_li2 _ _ rfl base (.slice b1 AL.length cap1) AL rfl hO2 (wr.heap.size + 1) p rfl (Bk.newAt (by simp) _ _) (by omega) hz2 ?_; intro v8 w8 hO8 hgrow hv8; refine hK' _ _ ?_))
        go_roundg (3 - (k + 1))
        case rel => exact ⟨k + 1, by have := HK.out; omega, rfl, by go_num, by rw [HS1.out]; exact hO8, Nat.le_trans hz2 hgrow.size, Rd.grown hRT2 hgrow (fun k e hk => hne k e.symm.symm (by cases hk; rfl)), hG2.other hgrow (fun j e => .inl (Nat.le_trans hbw (hlow j e))), fun j e => by
          rcases hv8 j e with e' | e'
          · exact hne j e'
          · simp at e'; omega⟩
        case measure => have := HK.out; omega
    · obtain rfl : k = 3 := by omega
      have hlen := accL_len ls LC DC FC 3
      rw [← HBL.out] at hO hlen ⊢
      go_wp2_with fail
      refine (linesFault_c _ BL _ (Rd.of_owns hO) HLS.out (by omega)).mono ?_; rintro e wz ⟨rfl, hh⟩
      have hRz := Rd.quiet (Rd.of_owns hO) hh
      have hGz := hG.trans hh
      clear hO hG hRT hh
      by_cases h0 : liE BL = 0
      · have H0 := Lib.hid h0
        rw [h0]
        clear h0
        go_wp2_with fail
        go_ret2
        refine ⟨.slice b1 BL.length cap1, by first | rfl | (rw [H0.out]; rfl), ?_, hGz⟩
        rw [← HRL.out, if_pos H0.out]
        exact hRz
      · have h0' : (liE BL != 0) = true := by simpa using h0
        have H0 := Lib.hid h0
        clear h0
        go_wp2_with fail
        go_ret2
        refine ⟨.slice none 0 0, rfl, ?_, hGz⟩
        rw [← HRL.out, if_neg H0.out]
        exact RdR.nil _ _ _
end Go.Proofs.YtpgamfoancomiaaDoor
