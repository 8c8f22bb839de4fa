/- Generator: ages. -/
import Derived.Test.YtbieiefbgcgogaaDoorGenM
namespace Go.Proofs.YtbieiefbgcgogaaDoor
open Go.RowKit

def AgesPost (s K : Nat) (w : World) (e : Ending) (w' : World) : Prop :=
  ∃ (v : Value) (l : List Ag), e = .returned v ∧ RdR w' 2 agC v l ∧ AgOk l ∧ l.length ≤ 2 ∧ (∀ r, v.ownBlock = some r → w.heap.size ≤ r) ∧ SB w' s (K + 1) ∧ G w w' (some s)
theorem agOk_of (l : List Ag) (h : l.all (fun x => decide (x.1.size ≤ 100)) = true) : AgOk l := fun x hx => small_of (of_decide_eq_true (List.all_eq_true.1 h x hx))
set_option maxRecDepth 100000 in
set_option maxHeartbeats 4000000 in
theorem ages_c (w : World) (s : Nat) (K : Nat) (hs : SB w s K) (hk : K ≤ 900000000000) :
    Calls Tryd.prog 31 #[.pointer (some ⟨s, 0, none⟩)] w (AgesPost s K w) := by
  have hsw := hs.lt
  have hB0 := (Bk.alloc (Bk.alloc (Bk.alloc (Bk.alloc (Bk.alloc (Bk.newAt (w := w) (b := w.heap.size) (by simp) 116 #[.string ⟨#[109, 105, 110, 105]⟩, .int .i64 6570]) (.cells #[.string ⟨#[109, 97, 120, 105]⟩, .int .i64 9001, .string ⟨#[109, 105, 110, 105]⟩, .int .i64 7001] 116)) (.cells #[.string ⟨#[109, 105, 110, 105]⟩, .int .i64 50001] 116)) (.cells #[.string ⟨#[65]⟩, .int .i64 0] 116)) (.cells #[.string ⟨#[109, 105, 110, 105]⟩, .int .i64 0, .string ⟨#[109, 97, 120, 105]⟩, .int .i64 0] 116)) (.cells #[.slice none 0 0, .slice (some ⟨w.heap.size, 0, none⟩) 1 1, .slice (some ⟨w.heap.size + 1, 0, none⟩) 2 2, .slice (some ⟨w.heap.size + 2, 0, none⟩) 1 1, .slice (some ⟨w.heap.size + 3, 0, none⟩) 1 1, .slice (some ⟨w.heap.size + 4, 0, none⟩) 2 2] 67))
  have hB1 := (Bk.alloc (Bk.alloc (Bk.alloc (Bk.alloc (Bk.newAt (w := (w.alloc (.cells #[.string ⟨#[109, 105, 110, 105]⟩, .int .i64 6570] 116))) (b := w.heap.size + 1) (by simp) 116 #[.string ⟨#[109, 97, 120, 105]⟩, .int .i64 9001, .string ⟨#[109, 105, 110, 105]⟩, .int .i64 7001]) (.cells #[.string ⟨#[109, 105, 110, 105]⟩, .int .i64 50001] 116)) (.cells #[.string ⟨#[65]⟩, .int .i64 0] 116)) (.cells #[.string ⟨#[109, 105, 110, 105]⟩, .int .i64 0, .string ⟨#[109, 97, 120, 105]⟩, .int .i64 0] 116)) (.cells #[.slice none 0 0, .slice (some ⟨w.heap.size, 0, none⟩) 1 1, .slice (some ⟨w.heap.size + 1, 0, none⟩) 2 2, .slice (some ⟨w.heap.size + 2, 0, none⟩) 1 1, .slice (some ⟨w.heap.size + 3, 0, none⟩) 1 1, .slice (some ⟨w.heap.size + 4, 0, none⟩) 2 2] 67))
  have hB2 := (Bk.alloc (Bk.alloc (Bk.alloc (Bk.newAt (w := ((w.alloc (.cells #[.string ⟨#[109, 105, 110, 105]⟩, .int .i64 6570] 116)).alloc (.cells #[.string ⟨#[109, 97, 120, 105]⟩, .int .i64 9001, .string ⟨#[109, 105, 110, 105]⟩, .int .i64 7001] 116))) (b := w.heap.size + 2) (by simp) 116 #[.string ⟨#[109, 105, 110, 105]⟩, .int .i64 50001]) (.cells #[.string ⟨#[65]⟩, .int .i64 0] 116)) (.cells #[.string ⟨#[109, 105, 110, 105]⟩, .int .i64 0, .string ⟨#[109, 97, 120, 105]⟩, .int .i64 0] 116)) (.cells #[.slice none 0 0, .slice (some ⟨w.heap.size, 0, none⟩) 1 1, .slice (some ⟨w.heap.size + 1, 0, none⟩) 2 2, .slice (some ⟨w.heap.size + 2, 0, none⟩) 1 1, .slice (some ⟨w.heap.size + 3, 0, none⟩) 1 1, .slice (some ⟨w.heap.size + 4, 0, none⟩) 2 2] 67))
  have hB3 := (Bk.alloc (Bk.alloc (Bk.newAt (w := (((w.alloc (.cells #[.string ⟨#[109, 105, 110, 105]⟩, .int .i64 6570] 116)).alloc (.cells #[.string ⟨#[109, 97, 120, 105]⟩, .int .i64 9001, .string ⟨#[109, 105, 110, 105]⟩, .int .i64 7001] 116)).alloc (.cells #[.string ⟨#[109, 105, 110, 105]⟩, .int .i64 50001] 116))) (b := w.heap.size + 3) (by simp) 116 #[.string ⟨#[65]⟩, .int .i64 0]) (.cells #[.string ⟨#[109, 105, 110, 105]⟩, .int .i64 0, .string ⟨#[109, 97, 120, 105]⟩, .int .i64 0] 116)) (.cells #[.slice none 0 0, .slice (some ⟨w.heap.size, 0, none⟩) 1 1, .slice (some ⟨w.heap.size + 1, 0, none⟩) 2 2, .slice (some ⟨w.heap.size + 2, 0, none⟩) 1 1, .slice (some ⟨w.heap.size + 3, 0, none⟩) 1 1, .slice (some ⟨w.heap.size + 4, 0, none⟩) 2 2] 67))
  have hB4 := (Bk.alloc (Bk.newAt (w := ((((w.alloc (.cells #[.string ⟨#[109, 105, 110, 105]⟩, .int .i64 6570] 116)).alloc (.cells #[.string ⟨#[109, 97, 120, 105]⟩, .int .i64 9001, .string ⟨#[109, 105, 110, 105]⟩, .int .i64 7001] 116)).alloc (.cells #[.string ⟨#[109, 105, 110, 105]⟩, .int .i64 50001] 116)).alloc (.cells #[.string ⟨#[65]⟩, .int .i64 0] 116))) (b := w.heap.size + 4) (by simp) 116 #[.string ⟨#[109, 105, 110, 105]⟩, .int .i64 0, .string ⟨#[109, 97, 120, 105]⟩, .int .i64 0]) (.cells #[.slice none 0 0, .slice (some ⟨w.heap.size, 0, none⟩) 1 1, .slice (some ⟨w.heap.size + 1, 0, none⟩) 2 2, .slice (some ⟨w.heap.size + 2, 0, none⟩) 1 1, .slice (some ⟨w.heap.size + 3, 0, none⟩) 1 1, .slice (some ⟨w.heap.size + 4, 0, none⟩) 2 2] 67))
  have hT := Bk.newAt (w := (((((w.alloc (.cells #[.string ⟨#[109, 105, 110, 105]⟩, .int .i64 6570] 116)).alloc (.cells #[.string ⟨#[109, 97, 120, 105]⟩, .int .i64 9001, .string ⟨#[109, 105, 110, 105]⟩, .int .i64 7001] 116)).alloc (.cells #[.string ⟨#[109, 105, 110, 105]⟩, .int .i64 50001] 116)).alloc (.cells #[.string ⟨#[65]⟩, .int .i64 0] 116)).alloc (.cells #[.string ⟨#[109, 105, 110, 105]⟩, .int .i64 0, .string ⟨#[109, 97, 120, 105]⟩, .int .i64 0] 116))) (b := w.heap.size + 5) (by simp) 67 #[.slice none 0 0, .slice (some ⟨w.heap.size, 0, none⟩) 1 1, .slice (some ⟨w.heap.size + 1, 0, none⟩) 2 2, .slice (some ⟨w.heap.size + 2, 0, none⟩) 1 1, .slice (some ⟨w.heap.size + 3, 0, none⟩) 1 1, .slice (some ⟨w.heap.size + 4, 0, none⟩) 2 2]
  have hS := (SB.alloc (SB.alloc (SB.alloc (SB.alloc (SB.alloc (SB.alloc hs (.cells #[.string ⟨#[109, 105, 110, 105]⟩, .int .i64 6570] 116)) (.cells #[.string ⟨#[109, 97, 120, 105]⟩, .int .i64 9001, .string ⟨#[109, 105, 110, 105]⟩, .int .i64 7001] 116)) (.cells #[.string ⟨#[109, 105, 110, 105]⟩, .int .i64 50001] 116)) (.cells #[.string ⟨#[65]⟩, .int .i64 0] 116)) (.cells #[.string ⟨#[109, 105, 110, 105]⟩, .int .i64 0, .string ⟨#[109, 97, 120, 105]⟩, .int .i64 0] 116)) (.cells #[.slice none 0 0, .slice (some ⟨w.heap.size, 0, none⟩) 1 1, .slice (some ⟨w.heap.size + 1, 0, none⟩) 2 2, .slice (some ⟨w.heap.size + 2, 0, none⟩) 1 1, .slice (some ⟨w.heap.size + 3, 0, none⟩) 1 1, .slice (some ⟨w.heap.size + 4, 0, none⟩) 2 2] 67))
  have hG := (G.alloc (G.alloc (G.alloc (G.alloc (G.alloc (G.alloc (G.refl w (some s)) (.cells #[.string ⟨#[109, 105, 110, 105]⟩, .int .i64 6570] 116)) (.cells #[.string ⟨#[109, 97, 120, 105]⟩, .int .i64 9001, .string ⟨#[109, 105, 110, 105]⟩, .int .i64 7001] 116)) (.cells #[.string ⟨#[109, 105, 110, 105]⟩, .int .i64 50001] 116)) (.cells #[.string ⟨#[65]⟩, .int .i64 0] 116)) (.cells #[.string ⟨#[109, 105, 110, 105]⟩, .int .i64 0, .string ⟨#[109, 97, 120, 105]⟩, .int .i64 0] 116)) (.cells #[.slice none 0 0, .slice (some ⟨w.heap.size, 0, none⟩) 1 1, .slice (some ⟨w.heap.size + 1, 0, none⟩) 2 2, .slice (some ⟨w.heap.size + 2, 0, none⟩) 1 1, .slice (some ⟨w.heap.size + 3, 0, none⟩) 1 1, .slice (some ⟨w.heap.size + 4, 0, none⟩) 2 2] 67))
  go_enter Tryd.func31, Tryd.ntmps31
  go_wp2_with fail
  refine (pick_c _ _ _ [0, 1, 1, 2, 2, 2, 3, 4, 5] _ _ K (hS.alloc _) (by omega) (by decide) (by decide) (Rd.newAt _ (by simp) rfl (by decide)) (hS.newAt _ _ _ (by simp))).mono ?_; rintro e w2 ⟨x, rfl, hx, hSB2, hG2⟩
  have hG02 := (hG.alloc _).trans hG2
  have hC0 := (hB0.alloc (.cells _ 3)).grown hG2 (fun e => by have := Option.some.inj e; omega)
  have hC1 := (hB1.alloc (.cells _ 3)).grown hG2 (fun e => by have := Option.some.inj e; omega)
  have hC2 := (hB2.alloc (.cells _ 3)).grown hG2 (fun e => by have := Option.some.inj e; omega)
  have hC3 := (hB3.alloc (.cells _ 3)).grown hG2 (fun e => by have := Option.some.inj e; omega)
  have hC4 := (hB4.alloc (.cells _ 3)).grown hG2 (fun e => by have := Option.some.inj e; omega)
  have hT2 := (hT.alloc (.cells _ 3)).grown hG2 (fun e => by have := Option.some.inj e; omega)
  clear hB0 hB1 hB2 hB3 hB4 hT hS hG hG2
  simp only [List.mem_cons, List.mem_nil_iff, or_false] at hx
  rcases (show x = 0 ∨ x = 1 ∨ x = 2 ∨ x = 3 ∨ x = 4 ∨ x = 5 by omega) with rfl | rfl | rfl | rfl | rfl | rfl
  · have c0 : w2.cell? ⟨w.heap.size + 5, 0, none⟩ = some (.slice none 0 0) := hT2.cell 0
    clear hx
    go_wp2_with fail
    go_ret
    exact ⟨_, [], rfl, RdR.nil _ _ _, fun _ h => (by cases h), by simp, fun _ h => (by cases h), hSB2, hG02⟩
  · have c0 : w2.cell? ⟨w.heap.size + 5, 1, none⟩ = some (.slice (some ⟨w.heap.size, 0, none⟩) 1 1) := hT2.cell 1
    clear hx
    go_wp2_with fail
    go_ret
    exact ⟨_, [(⟨#[109, 105, 110, 105]⟩, 6570)], rfl, hC0.rd 2 1 rfl (by omega), agOk_of _ (by decide), by simp, fun r h => by cases h; dsimp only; omega, hSB2, hG02⟩
  · have c0 : w2.cell? ⟨w.heap.size + 5, 2, none⟩ = some (.slice (some ⟨w.heap.size + 1, 0, none⟩) 2 2) := hT2.cell 2
    clear hx
    go_wp2_with fail
    go_ret
    exact ⟨_, [(⟨#[109, 97, 120, 105]⟩, 9001), (⟨#[109, 105, 110, 105]⟩, 7001)], rfl, hC1.rd 2 2 rfl (by omega), agOk_of _ (by decide), by simp, fun r h => by cases h; dsimp only; omega, hSB2, hG02⟩
  · have c0 : w2.cell? ⟨w.heap.size + 5, 3, none⟩ = some (.slice (some ⟨w.heap.size + 2, 0, none⟩) 1 1) := hT2.cell 3
    clear hx
    go_wp2_with fail
    go_ret
    exact ⟨_, [(⟨#[109, 105, 110, 105]⟩, 50001)], rfl, hC2.rd 2 1 rfl (by omega), agOk_of _ (by decide), by simp, fun r h => by cases h; dsimp only; omega, hSB2, hG02⟩
  · have c0 : w2.cell? ⟨w.heap.size + 5, 4, none⟩ = some (.slice (some ⟨w.heap.size + 3, 0, none⟩) 1 1) := hT2.cell 4
    clear hx
    go_wp2_with fail
    go_ret
    exact ⟨_, [(⟨#[65]⟩, 0)], rfl, hC3.rd 2 1 rfl (by omega), agOk_of _ (by decide), by simp, fun r h => by cases h; dsimp only; omega, hSB2, hG02⟩
  · have c0 : w2.cell? ⟨w.heap.size + 5, 5, none⟩ = some (.slice (some ⟨w.heap.size + 4, 0, none⟩) 2 2) := hT2.cell 5
    clear hx
    go_wp2_with fail
    go_ret
    exact ⟨_, [(⟨#[109, 105, 110, 105]⟩, 0), (⟨#[109, 97, 120, 105]⟩, 0)], rfl, hC4.rd 2 2 rfl (by omega), agOk_of _ (by decide), by simp, fun r h => by cases h; dsimp only; omega, hSB2, hG02⟩
end Go.Proofs.YtbieiefbgcgogaaDoor
