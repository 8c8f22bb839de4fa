/- Hires: lists of legs, hires compared; hired. -/
import Derived.Test.YtgddchdpeflmoaaDoorHit
import Derived.BigQuiet
namespace Go.Proofs.YtgddchdpeflmoaaDoor
open Go.RowKit

theorem lg_neq (x y : Lg) (w : World) : (binOp .neq 85 (.agg (lgC x)) (.agg (lgC y))).run Tryd.prog w = .ok (.bool (!(decide (x = y)))) w := by
  have ht : Tryd.prog.underlying 85 = some (.struct (Tryd.prog.fieldsOf 85)) := by kernel_rfl
  have hp : Tryd.prog.stoodInHeld 85 = false := by kernel_rfl
  rw [run_neq_struct, run_equalIn_agg w 9999 85 _ _ ht hp]
  obtain ⟨a, ⟨b, c, d, e⟩, f, g, h, i⟩ := x
  obtain ⟨a', ⟨b', c', d', e'⟩, f', g', h', i'⟩ := y
  simp [lgC, Tryd.underlying85, Tryd.underlying69, Tryd.underlying3, Tryd.underlying9, go_sem]
  have tl : ∀ u v : ByteArray, (u.toList = v.toList) ↔ u = v := fun u v => ⟨toList_ext, fun h => by rw [h]⟩
  simp only [tl]
  by_cases h1 : a = a'
  · by_cases h2 : b = b'
    · by_cases h3 : c = c'
      · by_cases h4 : d = d'
        · by_cases h5 : e = e'
          · by_cases h6 : f = f'
            · by_cases h7 : g = g'
              · by_cases h8 : h = h' <;> by_cases h9 : i = i' <;> simp [h1, h2, h3, h4, h5, h6, h7, h8, h9]
              · simp [h1, h2, h3, h4, h5, h6, h7]
            · simp [h1, h2, h3, h4, h5, h6]
          · simp [h1, h2, h3, h4, h5]
        · simp [h1, h2, h3, h4]
      · simp [h1, h2, h3]
    · simp [h1, h2]
  · simp [h1]
def EqlRel (l m : List Lg) (w : World) (i : Value) (wr : World) : Prop := ∃ k n : Nat, k ≤ l.length ∧ i = .int .i64 k ∧ l.take k = m.take k ∧ wr = w.drewN n
theorem take_succ_lg {l m : List Lg} {k : Nat} {x : Lg} (h : l.take k = m.take k) (hx : l[k]? = some x) (hy : m[k]? = some x) : l.take (k + 1) = m.take (k + 1) := by
  rw [List.take_add_one, List.take_add_one, h, hx, hy]
theorem wi_eql (x y : Int) (w : World) : (binOp .eql 54 (.agg #[.int .i64 x, .int .i64 y]) (.agg #[.int .i64 x, .int .i64 y])).run Tryd.prog w = .ok (.bool true) w := by
  have ht : Tryd.prog.underlying 54 = some (.struct (Tryd.prog.fieldsOf 54)) := by kernel_rfl
  have hp : Tryd.prog.stoodInHeld 54 = false := by kernel_rfl
  rw [run_eql_struct, run_equalIn_agg w 9999 54 _ _ ht hp]
  simp [Tryd.underlying54, Tryd.underlying3, go_sem]
def h1K : Hh := (⟨#[104]⟩, ⟨#[100]⟩, 5, 9)
def h1R : Rg := (5, ⟨#[115]⟩, 0, 0)
theorem h1_ok : hiE h1K [(⟨#[118]⟩, h1R, noIn)] = 0 := by decide +kernel
set_option maxRecDepth 100000 in
set_option maxHeartbeats 2000000 in
theorem start1_c (w : World) : Calls Tryd.prog 25 #[.string ⟨#[104]⟩, .string ⟨#[100]⟩, .agg #[.int .i64 5, .int .i64 9], .string ⟨#[118]⟩, .agg #[.int .i64 5, .string ⟨#[115]⟩, .int .i64 0, .int .i64 0]] w
    fun e w' => ∃ a c, e = .returned (.tuple #[.agg #[.string ⟨#[104]⟩, .string ⟨#[100]⟩, .int .i64 5, .int .i64 9, .slice a 1 c], .int .i64 0]) ∧ G w w' none := by
  refine (start_c h1K ⟨#[118]⟩ h1R w (small_of (by decide)) (small_of (by decide)) (small_of (by decide)) (small_of (by decide)) (by unfold bnd h1K; dsimp only; omega) (by unfold bnd h1K; dsimp only; omega)).mono ?_
  rintro e w' ⟨H, a, n, c, rfl, hH, -, hR, hG⟩
  rw [h1_ok] at hH hR
  obtain rfl : H = h1K := hH
  obtain ⟨a', c', hv, -, -⟩ := RdR.form hR
  obtain rfl : n = 1 := by cases hv; rfl
  exact ⟨a, c, by rw [h1_ok]; rfl, hG⟩
end Go.Proofs.YtgddchdpeflmoaaDoor
