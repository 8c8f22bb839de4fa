/- Hires: lists of legs, hires compared; hired. -/
import Derived.Test.YtbieiefbgcgogaaDoorHit
import Derived.BigQuiet
namespace Go.Proofs.YtbieiefbgcgogaaDoor
open Go.RowKit

theorem lg_neq (x y : Lg) (w : World) : (binOp .neq 111 (.agg (lgC x)) (.agg (lgC y))).run Tryd.prog w = .ok (.bool (!(decide (x = y)))) w := by
  have ht : Tryd.prog.underlying 111 = some (.struct (Tryd.prog.fieldsOf 111)) := by kernel_rfl
  have hp : Tryd.prog.stoodInHeld 111 = false := by kernel_rfl
  rw [run_neq_struct, run_equalIn_agg w 9999 111 _ _ ht hp]
  obtain ⟨a, ⟨b, c, d, e⟩, f, g, h, i⟩ := x
  obtain ⟨a', ⟨b', c', d', e'⟩, f', g', h', i'⟩ := y
  simp [lgC, Tryd.underlying111, Tryd.underlying57, Tryd.underlying3, Tryd.underlying9, go_sem]
  have tl : ∀ u v : ByteArray, (u.toList = v.toList) ↔ u = v := fun u v => ⟨toList_ext, fun h => by rw [h]⟩
  simp only [tl]
  by_cases h1 : a = a'
  · by_cases h2 : b = b'
    · by_cases h3 : c = c'
      · by_cases h4 : d = d'
        · by_cases h5 : e = e'
          · by_cases h6 : f = f'
            · by_cases h7 : g = g'
              · by_cases h8 : h = h' <;> by_cases h9 : i = i' <;> simp [h1, h2, h3, h4, h5, h6, h7, h8, h9]
              · simp [h1, h2, h3, h4, h5, h6, h7]
            · simp [h1, h2, h3, h4, h5, h6]
          · simp [h1, h2, h3, h4, h5]
        · simp [h1, h2, h3, h4]
      · simp [h1, h2, h3]
    · simp [h1, h2]
  · simp [h1]
def EqlRel (l m : List Lg) (w : World) (i : Value) (wr : World) : Prop := ∃ k n : Nat, k ≤ l.length ∧ i = .int .i64 k ∧ l.take k = m.take k ∧ wr = w.drewN n
theorem take_succ_lg {l m : List Lg} {k : Nat} {x : Lg} (h : l.take k = m.take k) (hx : l[k]? = some x) (hy : m[k]? = some x) : l.take (k + 1) = m.take (k + 1) := by
  rw [List.take_add_one, List.take_add_one, h, hx, hy]
set_option maxRecDepth 100000 in
set_option maxHeartbeats 4000000 in
theorem lgEqual_c (v u : Value) (l m : List Lg) (w : World) (hr : RdR w 9 lgC v l) (hs : RdR w 9 lgC u m) (hn : l.length ≤ 1000000) :
    Calls Tryd.prog 76 #[v, u] w fun e w' => e = .returned (.bool (decide (l = m))) ∧ G w w' none := by
  have HR := Lib.hid hr
  have HS := Lib.hid hs
  obtain ⟨a, cap, rfl, hcap, hm1⟩ := RdR.form hr
  obtain ⟨a2, cap2, rfl, hcap2, hm2⟩ := RdR.form hs
  clear hr hs
  by_cases hlen : l.length = m.length
  · have hlq : ((l.length : Int) != (m.length : Int)) = false := by rw [hlen]; simp
    have hlq2 : ((m.length : Int) != (l.length : Int)) = false := by rw [hlen]; simp
    have HL := Lib.hid hlen
    clear hlen
    go_enter Tryd.func76, Tryd.ntmps76
    go_wp2_with fail
    go_loopw [13] (EqlRel l m w) (fun i _ => l.length - (intOf i).toNat)
    case atStart => exact ⟨0, 0, by omega, rfl, rfl, rfl⟩
    case round =>
      obtain ⟨k, n, hk, rfl, heq, rfl⟩ := hrel
      have HE := Lib.hid heq
      clear heq
      by_cases hlt : k < l.length
      · obtain ⟨x, hx⟩ : ∃ x, l[k]? = some x := ⟨_, List.getElem?_eq_getElem hlt⟩
        obtain ⟨y, hy⟩ : ∃ y, m[k]? = some y := ⟨_, List.getElem?_eq_getElem (by rw [← HL.out]; exact hlt)⟩
        have hlt2 : k < m.length := by have := HL.out; omega
        obtain ⟨bb, bo, rfl, hbb, _⟩ := RdR.elem lgC_sz HR.out (G.refl w none) hx
        obtain ⟨b2, o2, rfl, hb2, _⟩ := RdR.elem lgC_sz HS.out (G.refl w none) hy
        have d0 := RdR.cell lgC_sz HR.out (G.refl w none) hx 0 (.string x.1) rfl
        have d1 := RdR.cell lgC_sz HR.out (G.refl w none) hx 1 (.int .i64 x.2.1.1) rfl
        have d2 := RdR.cell lgC_sz HR.out (G.refl w none) hx 2 (.string x.2.1.2.1) rfl
        have d3 := RdR.cell lgC_sz HR.out (G.refl w none) hx 3 (.int .i64 x.2.1.2.2.1) rfl
        have d4 := RdR.cell lgC_sz HR.out (G.refl w none) hx 4 (.int .i64 x.2.1.2.2.2) rfl
        have d5 := RdR.cell lgC_sz HR.out (G.refl w none) hx 5 (.int .i64 x.2.2.1) rfl
        have d6 := RdR.cell lgC_sz HR.out (G.refl w none) hx 6 (.string x.2.2.2.1) rfl
        have d7 := RdR.cell lgC_sz HR.out (G.refl w none) hx 7 (.int .i64 x.2.2.2.2.1) rfl
        have d8 := RdR.cell lgC_sz HR.out (G.refl w none) hx 8 (.int .i64 x.2.2.2.2.2) rfl
        have e0 := RdR.cell lgC_sz HS.out (G.refl w none) hy 0 (.string y.1) rfl
        have e1 := RdR.cell lgC_sz HS.out (G.refl w none) hy 1 (.int .i64 y.2.1.1) rfl
        have e2 := RdR.cell lgC_sz HS.out (G.refl w none) hy 2 (.string y.2.1.2.1) rfl
        have e3 := RdR.cell lgC_sz HS.out (G.refl w none) hy 3 (.int .i64 y.2.1.2.2.1) rfl
        have e4 := RdR.cell lgC_sz HS.out (G.refl w none) hy 4 (.int .i64 y.2.1.2.2.2) rfl
        have e5 := RdR.cell lgC_sz HS.out (G.refl w none) hy 5 (.int .i64 y.2.2.1) rfl
        have e6 := RdR.cell lgC_sz HS.out (G.refl w none) hy 6 (.string y.2.2.2.1) rfl
        have e7 := RdR.cell lgC_sz HS.out (G.refl w none) hy 7 (.int .i64 y.2.2.2.2.1) rfl
        have e8 := RdR.cell lgC_sz HS.out (G.refl w none) hy 8 (.int .i64 y.2.2.2.2.2) rfl
        simp only [Nat.add_zero] at d0 e0
        have HX := Lib.hid hx
        have HY := Lib.hid hy
        clear hx hy
        by_cases hxy : x = y
        · have hnq : ∀ w : World, (binOp .neq 111 (.agg #[.string x.1, .int .i64 x.2.1.1, .string x.2.1.2.1, .int .i64 x.2.1.2.2.1, .int .i64 x.2.1.2.2.2, .int .i64 x.2.2.1, .string x.2.2.2.1, .int .i64 x.2.2.2.2.1, .int .i64 x.2.2.2.2.2]) (.agg #[.string y.1, .int .i64 y.2.1.1, .string y.2.1.2.1, .int .i64 y.2.1.2.2.1, .int .i64 y.2.1.2.2.2, .int .i64 y.2.2.1, .string y.2.2.2.1, .int .i64 y.2.2.2.2.1, .int .i64 y.2.2.2.2.2])).run Tryd.prog w = .ok (.bool false) w := fun w => by
            have := lg_neq x y w
            rw [decide_eq_true hxy] at this
            exact this
          have HT : Hid (l.take (k + 1) = m.take (k + 1)) := Lib.hid (take_succ_lg HE.out HX.out (by rw [hxy]; exact HY.out))
          clear hxy HX HY
          go_wp2_with fail
          go_quiet (fail)
          go_wp2_with fail
          go_roundw
          case rel => exact ⟨k + 1, _, by omega, by go_num, HT.out, rfl⟩
          case measure => simp [intOf]; omega
        · have hnq : ∀ w : World, (binOp .neq 111 (.agg #[.string x.1, .int .i64 x.2.1.1, .string x.2.1.2.1, .int .i64 x.2.1.2.2.1, .int .i64 x.2.1.2.2.2, .int .i64 x.2.2.1, .string x.2.2.2.1, .int .i64 x.2.2.2.2.1, .int .i64 x.2.2.2.2.2]) (.agg #[.string y.1, .int .i64 y.2.1.1, .string y.2.1.2.1, .int .i64 y.2.1.2.2.1, .int .i64 y.2.1.2.2.2, .int .i64 y.2.2.1, .string y.2.2.2.1, .int .i64 y.2.2.2.2.1, .int .i64 y.2.2.2.2.2])).run Tryd.prog w = .ok (.bool true) w := fun w => by
            have := lg_neq x y w
            rw [decide_eq_false hxy] at this
            exact this
          have HT : Hid (decide (l = m) = false) := Lib.hid (decide_eq_false (fun e => hxy (by have h1 := HX.out; rw [e, HY.out] at h1; exact (Option.some.inj h1).symm)))
          clear hxy HX HY
          go_wp2_with fail
          go_quiet (fail)
          go_wp2_with fail
          go_ret
          exact ⟨ret_bool HT.out.symm, ((G.refl _ _).drewN _).drewN _⟩
      · obtain rfl : k = l.length := by omega
        have HT : Hid (decide (l = m) = true) := Lib.hid (decide_eq_true (by have h := HE.out; rwa [List.take_length, HL.out, List.take_length] at h))
        go_wp2_with fail
        go_ret
        exact ⟨ret_bool HT.out.symm, (G.refl _ _).drewN _⟩
  · have hlq : ((l.length : Int) != (m.length : Int)) = true := by rw [bne_iff_ne]; omega
    have hlq2 : ¬ l.length = m.length := hlen
    have HT : Hid (decide (l = m) = false) := Lib.hid (decide_eq_false (fun e => hlen (by rw [e])))
    clear hlen
    go_enter Tryd.func76, Tryd.ntmps76
    go_wp2_with fail
    go_ret
    exact ⟨ret_bool HT.out.symm, G.refl _ _⟩
theorem wi_eql (x y : Int) (w : World) : (binOp .eql 31 (.agg #[.int .i64 x, .int .i64 y]) (.agg #[.int .i64 x, .int .i64 y])).run Tryd.prog w = .ok (.bool true) w := by
  have ht : Tryd.prog.underlying 31 = some (.struct (Tryd.prog.fieldsOf 31)) := by kernel_rfl
  have hp : Tryd.prog.stoodInHeld 31 = false := by kernel_rfl
  rw [run_eql_struct, run_equalIn_agg w 9999 31 _ _ ht hp]
  simp [Tryd.underlying31, Tryd.underlying3, go_sem]
set_option maxRecDepth 100000 in
set_option maxHeartbeats 2000000 in
theorem sameHire_c (h : Hh) (u v : Value) (l : List Lg) (w : World) (hr : RdR w 9 lgC u l) (hs : RdR w 9 lgC v l) (hn : l.length ≤ 1000) :
    Calls Tryd.prog 28 #[.agg (hiC h u), .agg (hiC h v)] w fun e w' => e = .returned (.bool true) ∧ G w w' none := by
  have hA := (Bk.new w 61 (hiC h u)).alloc (.cells (hiC h v) 61)
  have hB := Bk.newAt (w := w.alloc (.cells (hiC h u) 61)) (b := w.heap.size + 1) (by simp) 61 (hiC h v)
  have hG := ((G.refl w none).alloc (.cells (hiC h u) 61)).alloc (.cells (hiC h v) 61)
  have HR := Lib.hid (hr.quiet hG)
  have HS := Lib.hid (hs.quiet hG)
  obtain ⟨h1, h2, h3, h4⟩ := h
  clear hr hs
  simp only [hiC] at hA hB hG HR HS ⊢
  go_enter Tryd.func28, Tryd.ntmps28
  go_upto_region 1 with fail
  generalize (w.alloc (.cells #[.string h1, .string h2, .int .i64 h3, .int .i64 h4, u] 61)).alloc (.cells #[.string h1, .string h2, .int .i64 h3, .int .i64 h4, v] 61) = w2 at hA hB hG HR HS ⊢
  have a0 : w2.cell? ⟨w.heap.size, 0, none⟩ = some (.string h1) := hA.cell 0
  have a1 : w2.cell? ⟨w.heap.size, 1, none⟩ = some (.string h2) := hA.cell 1
  have a4 : w2.cell? ⟨w.heap.size, 4, none⟩ = some u := hA.cell 4
  have b0 : w2.cell? ⟨w.heap.size + 1, 0, none⟩ = some (.string h1) := hB.cell 0
  have b1 : w2.cell? ⟨w.heap.size + 1, 1, none⟩ = some (.string h2) := hB.cell 1
  have b4 : w2.cell? ⟨w.heap.size + 1, 4, none⟩ = some v := hB.cell 4
  have a2 : w2.cell? ⟨w.heap.size, 2, none⟩ = some (.int .i64 h3) := hA.cell 2
  have a3 : w2.cell? ⟨w.heap.size, 3, none⟩ = some (.int .i64 h4) := hA.cell 3
  have b2 : w2.cell? ⟨w.heap.size + 1, 2, none⟩ = some (.int .i64 h3) := hB.cell 2
  have b3 : w2.cell? ⟨w.heap.size + 1, 3, none⟩ = some (.int .i64 h4) := hB.cell 3
  have hq := wi_eql h3 h4
  go_wp2_with fail
  refine (lgEqual_c u v l l _ HR.out HS.out (by omega)).mono ?_; rintro e w3 ⟨rfl, hG3⟩
  rw [decide_eq_true (rfl : l = l)]
  go_wp2_with fail
  go_ret
  exact ⟨rfl, hG.trans hG3⟩
def h1K : Hh := (⟨#[104]⟩, ⟨#[100]⟩, 5, 9)
def h1R : Rg := (5, ⟨#[115]⟩, 0, 0)
theorem h1_ok : hiE h1K [(⟨#[118]⟩, h1R, noIn)] = 0 := by decide +kernel
set_option maxRecDepth 100000 in
set_option maxHeartbeats 2000000 in
theorem start1_c (w : World) : Calls Tryd.prog 26 #[.string ⟨#[104]⟩, .string ⟨#[100]⟩, .agg #[.int .i64 5, .int .i64 9], .string ⟨#[118]⟩, .agg #[.int .i64 5, .string ⟨#[115]⟩, .int .i64 0, .int .i64 0]] w
    fun e w' => ∃ a c, e = .returned (.tuple #[.agg #[.string ⟨#[104]⟩, .string ⟨#[100]⟩, .int .i64 5, .int .i64 9, .slice a 1 c], .int .i64 0]) ∧ G w w' none := by
  refine (start_c h1K ⟨#[118]⟩ h1R w (small_of (by decide)) (small_of (by decide)) (small_of (by decide)) (small_of (by decide)) (by unfold bnd h1K; dsimp only; omega) (by unfold bnd h1K; dsimp only; omega)).mono ?_
  rintro e w' ⟨H, a, n, c, rfl, hH, -, hR, hG⟩
  rw [h1_ok] at hH hR
  obtain rfl : H = h1K := hH
  obtain ⟨a', c', hv, -, -⟩ := RdR.form hR
  obtain rfl : n = 1 := by cases hv; rfl
  exact ⟨a, c, by rw [h1_ok]; rfl, hG⟩
set_option maxRecDepth 100000 in
set_option maxHeartbeats 2000000 in
theorem hired_c (w : World) : Calls Tryd.prog 29 #[] w fun e w' => e = .returned (.bool true) ∧ G w w' none := by
  go_enter Tryd.func29, Tryd.ntmps29
  go_wp2_with fail
  refine (start1_c _).mono ?_; rintro e w2 ⟨a, c, rfl, hG2⟩
  go_wp2_with fail
  go_ret
  exact ⟨rfl, hG2.alloc _⟩
end Go.Proofs.YtbieiefbgcgogaaDoor
