/- Generators: Tiers; the law's 'more'. -/
import Derived.Test.YtlnkompebajlnaaDoorCan
import Derived.Test.YtlnkompebajlnaaDoorGenT
import Derived.Test.YtlnkompebajlnaaDoorStream
import Derived.Test.YtlnkompebajlnaaDoorLow
namespace Go.Proofs.YtlnkompebajlnaaDoor
open Go.RowKit

def TiersPost (s K : Nat) (w : World) (e : Ending) (w' : World) : Prop :=
  ∃ (v : Value) (l : List Ti), e = .returned v ∧ RdR w' 2 tiC v l ∧ l.length ≤ 3 ∧ (∀ r, v.ownBlock = some r → w.heap.size ≤ r) ∧ SB w' s (K + 1) ∧ G w w' (some s)
def tiTab : List (List Ti) := [[], [(1000, 100)], [(1000, 100), (60, 500), (1, 1000)], [(10, 300), (9, 300)], [(5, 1), (5, 2)], [(0, 1)], [(9, 1001)], [(9, 500), (5, 400)]]
def tiOut (g : Nat) : Array Value := #[.slice none 0 0, .slice (some ⟨g, 0, none⟩) 1 1, .slice (some ⟨g + 1, 0, none⟩) 3 3, .slice (some ⟨g + 2, 0, none⟩) 2 2, .slice (some ⟨g + 3, 0, none⟩) 2 2, .slice (some ⟨g + 4, 0, none⟩) 1 1, .slice (some ⟨g + 5, 0, none⟩) 1 1, .slice (some ⟨g + 6, 0, none⟩) 2 2]
theorem ti_r0 {w : World} {g : Nat} (h : Bk w g 76 #[.int .i64 1000, .int .i64 100]) : RdR w 2 tiC (.slice (some ⟨g, 0, none⟩) 1 1) [(1000, 100)] := h.rd 2 1 rfl (by omega)
theorem ti_r1 {w : World} {g : Nat} (h : Bk w g 76 #[.int .i64 1000, .int .i64 100, .int .i64 60, .int .i64 500, .int .i64 1, .int .i64 1000]) : RdR w 2 tiC (.slice (some ⟨g, 0, none⟩) 3 3) [(1000, 100), (60, 500), (1, 1000)] := h.rd 2 3 rfl (by omega)
theorem ti_r2 {w : World} {g : Nat} (h : Bk w g 76 #[.int .i64 10, .int .i64 300, .int .i64 9, .int .i64 300]) : RdR w 2 tiC (.slice (some ⟨g, 0, none⟩) 2 2) [(10, 300), (9, 300)] := h.rd 2 2 rfl (by omega)
theorem ti_r3 {w : World} {g : Nat} (h : Bk w g 76 #[.int .i64 5, .int .i64 1, .int .i64 5, .int .i64 2]) : RdR w 2 tiC (.slice (some ⟨g, 0, none⟩) 2 2) [(5, 1), (5, 2)] := h.rd 2 2 rfl (by omega)
theorem ti_r4 {w : World} {g : Nat} (h : Bk w g 76 #[.int .i64 0, .int .i64 1]) : RdR w 2 tiC (.slice (some ⟨g, 0, none⟩) 1 1) [(0, 1)] := h.rd 2 1 rfl (by omega)
theorem ti_r5 {w : World} {g : Nat} (h : Bk w g 76 #[.int .i64 9, .int .i64 1001]) : RdR w 2 tiC (.slice (some ⟨g, 0, none⟩) 1 1) [(9, 1001)] := h.rd 2 1 rfl (by omega)
theorem ti_r6 {w : World} {g : Nat} (h : Bk w g 76 #[.int .i64 9, .int .i64 500, .int .i64 5, .int .i64 400]) : RdR w 2 tiC (.slice (some ⟨g, 0, none⟩) 2 2) [(9, 500), (5, 400)] := h.rd 2 2 rfl (by omega)
theorem tiOut_at {w : World} {g : Nat} (h0 : Bk w (g) 76 #[.int .i64 1000, .int .i64 100]) (h1 : Bk w (g + 1) 76 #[.int .i64 1000, .int .i64 100, .int .i64 60, .int .i64 500, .int .i64 1, .int .i64 1000]) (h2 : Bk w (g + 2) 76 #[.int .i64 10, .int .i64 300, .int .i64 9, .int .i64 300]) (h3 : Bk w (g + 3) 76 #[.int .i64 5, .int .i64 1, .int .i64 5, .int .i64 2]) (h4 : Bk w (g + 4) 76 #[.int .i64 0, .int .i64 1]) (h5 : Bk w (g + 5) 76 #[.int .i64 9, .int .i64 1001]) (h6 : Bk w (g + 6) 76 #[.int .i64 9, .int .i64 500, .int .i64 5, .int .i64 400]) (j : Nat) (hj : j < 8) :
    ∃ (v : Value) (l : List Ti), (tiOut g)[j]? = some v ∧ RdR w 2 tiC v l ∧ l.length ≤ 3 ∧ (∀ r, v.ownBlock = some r → g ≤ r) := by
  match j, hj with
  | 0, _ => exact ⟨_, [], rfl, RdR.nil _ _ _, by decide, fun r e => by cases e⟩
  | 1, _ => exact ⟨_, _, rfl, ti_r0 h0, by decide, fun r e => by obtain rfl := Option.some.inj e; dsimp only; omega⟩
  | 2, _ => exact ⟨_, _, rfl, ti_r1 h1, by decide, fun r e => by obtain rfl := Option.some.inj e; dsimp only; omega⟩
  | 3, _ => exact ⟨_, _, rfl, ti_r2 h2, by decide, fun r e => by obtain rfl := Option.some.inj e; dsimp only; omega⟩
  | 4, _ => exact ⟨_, _, rfl, ti_r3 h3, by decide, fun r e => by obtain rfl := Option.some.inj e; dsimp only; omega⟩
  | 5, _ => exact ⟨_, _, rfl, ti_r4 h4, by decide, fun r e => by obtain rfl := Option.some.inj e; dsimp only; omega⟩
  | 6, _ => exact ⟨_, _, rfl, ti_r5 h5, by decide, fun r e => by obtain rfl := Option.some.inj e; dsimp only; omega⟩
  | 7, _ => exact ⟨_, _, rfl, ti_r6 h6, by decide, fun r e => by obtain rfl := Option.some.inj e; dsimp only; omega⟩
set_option maxRecDepth 100000 in
set_option maxHeartbeats 4000000 in
theorem tiers_c (w : World) (s : Nat) (K : Nat) (hs : SB w s K) (hk : K ≤ 900000000000) :
    Calls Tryd.prog 20 #[.pointer (some ⟨s, 0, none⟩)] w (TiersPost s K w) := by
  have hslt := hs.lt
  have h0 : Bk ((((((((w.alloc (.cells #[.int .i64 1000, .int .i64 100] 76)).alloc (.cells #[.int .i64 1000, .int .i64 100, .int .i64 60, .int .i64 500, .int .i64 1, .int .i64 1000] 76)).alloc (.cells #[.int .i64 10, .int .i64 300, .int .i64 9, .int .i64 300] 76)).alloc (.cells #[.int .i64 5, .int .i64 1, .int .i64 5, .int .i64 2] 76)).alloc (.cells #[.int .i64 0, .int .i64 1] 76)).alloc (.cells #[.int .i64 9, .int .i64 1001] 76)).alloc (.cells #[.int .i64 9, .int .i64 500, .int .i64 5, .int .i64 400] 76)).alloc (.cells #[.slice none 0 0, .slice (some ⟨w.heap.size, 0, none⟩) 1 1, .slice (some ⟨w.heap.size + 1, 0, none⟩) 3 3, .slice (some ⟨w.heap.size + 2, 0, none⟩) 2 2, .slice (some ⟨w.heap.size + 3, 0, none⟩) 2 2, .slice (some ⟨w.heap.size + 4, 0, none⟩) 1 1, .slice (some ⟨w.heap.size + 5, 0, none⟩) 1 1, .slice (some ⟨w.heap.size + 6, 0, none⟩) 2 2] 54)) (w.heap.size) 76 #[.int .i64 1000, .int .i64 100] := ((((((((Bk.newAt (w := w) (b := w.heap.size) (by simp) 76 #[.int .i64 1000, .int .i64 100]).alloc _).alloc _).alloc _).alloc _).alloc _).alloc _).alloc _)
  have h1 : Bk ((((((((w.alloc (.cells #[.int .i64 1000, .int .i64 100] 76)).alloc (.cells #[.int .i64 1000, .int .i64 100, .int .i64 60, .int .i64 500, .int .i64 1, .int .i64 1000] 76)).alloc (.cells #[.int .i64 10, .int .i64 300, .int .i64 9, .int .i64 300] 76)).alloc (.cells #[.int .i64 5, .int .i64 1, .int .i64 5, .int .i64 2] 76)).alloc (.cells #[.int .i64 0, .int .i64 1] 76)).alloc (.cells #[.int .i64 9, .int .i64 1001] 76)).alloc (.cells #[.int .i64 9, .int .i64 500, .int .i64 5, .int .i64 400] 76)).alloc (.cells #[.slice none 0 0, .slice (some ⟨w.heap.size, 0, none⟩) 1 1, .slice (some ⟨w.heap.size + 1, 0, none⟩) 3 3, .slice (some ⟨w.heap.size + 2, 0, none⟩) 2 2, .slice (some ⟨w.heap.size + 3, 0, none⟩) 2 2, .slice (some ⟨w.heap.size + 4, 0, none⟩) 1 1, .slice (some ⟨w.heap.size + 5, 0, none⟩) 1 1, .slice (some ⟨w.heap.size + 6, 0, none⟩) 2 2] 54)) (w.heap.size + 1) 76 #[.int .i64 1000, .int .i64 100, .int .i64 60, .int .i64 500, .int .i64 1, .int .i64 1000] := (((((((Bk.newAt (w := (w.alloc (.cells #[.int .i64 1000, .int .i64 100] 76))) (b := w.heap.size + 1) (by simp) 76 #[.int .i64 1000, .int .i64 100, .int .i64 60, .int .i64 500, .int .i64 1, .int .i64 1000]).alloc _).alloc _).alloc _).alloc _).alloc _).alloc _)
  have h2 : Bk ((((((((w.alloc (.cells #[.int .i64 1000, .int .i64 100] 76)).alloc (.cells #[.int .i64 1000, .int .i64 100, .int .i64 60, .int .i64 500, .int .i64 1, .int .i64 1000] 76)).alloc (.cells #[.int .i64 10, .int .i64 300, .int .i64 9, .int .i64 300] 76)).alloc (.cells #[.int .i64 5, .int .i64 1, .int .i64 5, .int .i64 2] 76)).alloc (.cells #[.int .i64 0, .int .i64 1] 76)).alloc (.cells #[.int .i64 9, .int .i64 1001] 76)).alloc (.cells #[.int .i64 9, .int .i64 500, .int .i64 5, .int .i64 400] 76)).alloc (.cells #[.slice none 0 0, .slice (some ⟨w.heap.size, 0, none⟩) 1 1, .slice (some ⟨w.heap.size + 1, 0, none⟩) 3 3, .slice (some ⟨w.heap.size + 2, 0, none⟩) 2 2, .slice (some ⟨w.heap.size + 3, 0, none⟩) 2 2, .slice (some ⟨w.heap.size + 4, 0, none⟩) 1 1, .slice (some ⟨w.heap.size + 5, 0, none⟩) 1 1, .slice (some ⟨w.heap.size + 6, 0, none⟩) 2 2] 54)) (w.heap.size + 2) 76 #[.int .i64 10, .int .i64 300, .int .i64 9, .int .i64 300] := ((((((Bk.newAt (w := ((w.alloc (.cells #[.int .i64 1000, .int .i64 100] 76)).alloc (.cells #[.int .i64 1000, .int .i64 100, .int .i64 60, .int .i64 500, .int .i64 1, .int .i64 1000] 76))) (b := w.heap.size + 2) (by simp) 76 #[.int .i64 10, .int .i64 300, .int .i64 9, .int .i64 300]).alloc _).alloc _).alloc _).alloc _).alloc _)
  have h3 : Bk ((((((((w.alloc (.cells #[.int .i64 1000, .int .i64 100] 76)).alloc (.cells #[.int .i64 1000, .int .i64 100, .int .i64 60, .int .i64 500, .int .i64 1, .int .i64 1000] 76)).alloc (.cells #[.int .i64 10, .int .i64 300, .int .i64 9, .int .i64 300] 76)).alloc (.cells #[.int .i64 5, .int .i64 1, .int .i64 5, .int .i64 2] 76)).alloc (.cells #[.int .i64 0, .int .i64 1] 76)).alloc (.cells #[.int .i64 9, .int .i64 1001] 76)).alloc (.cells #[.int .i64 9, .int .i64 500, .int .i64 5, .int .i64 400] 76)).alloc (.cells #[.slice none 0 0, .slice (some ⟨w.heap.size, 0, none⟩) 1 1, .slice (some ⟨w.heap.size + 1, 0, none⟩) 3 3, .slice (some ⟨w.heap.size + 2, 0, none⟩) 2 2, .slice (some ⟨w.heap.size + 3, 0, none⟩) 2 2, .slice (some ⟨w.heap.size + 4, 0, none⟩) 1 1, .slice (some ⟨w.heap.size + 5, 0, none⟩) 1 1, .slice (some ⟨w.heap.size + 6, 0, none⟩) 2 2] 54)) (w.heap.size + 3) 76 #[.int .i64 5, .int .i64 1, .int .i64 5, .int .i64 2] := (((((Bk.newAt (w := (((w.alloc (.cells #[.int .i64 1000, .int .i64 100] 76)).alloc (.cells #[.int .i64 1000, .int .i64 100, .int .i64 60, .int .i64 500, .int .i64 1, .int .i64 1000] 76)).alloc (.cells #[.int .i64 10, .int .i64 300, .int .i64 9, .int .i64 300] 76))) (b := w.heap.size + 3) (by simp) 76 #[.int .i64 5, .int .i64 1, .int .i64 5, .int .i64 2]).alloc _).alloc _).alloc _).alloc _)
  have h4 : Bk ((((((((w.alloc (.cells #[.int .i64 1000, .int .i64 100] 76)).alloc (.cells #[.int .i64 1000, .int .i64 100, .int .i64 60, .int .i64 500, .int .i64 1, .int .i64 1000] 76)).alloc (.cells #[.int .i64 10, .int .i64 300, .int .i64 9, .int .i64 300] 76)).alloc (.cells #[.int .i64 5, .int .i64 1, .int .i64 5, .int .i64 2] 76)).alloc (.cells #[.int .i64 0, .int .i64 1] 76)).alloc (.cells #[.int .i64 9, .int .i64 1001] 76)).alloc (.cells #[.int .i64 9, .int .i64 500, .int .i64 5, .int .i64 400] 76)).alloc (.cells #[.slice none 0 0, .slice (some ⟨w.heap.size, 0, none⟩) 1 1, .slice (some ⟨w.heap.size + 1, 0, none⟩) 3 3, .slice (some ⟨w.heap.size + 2, 0, none⟩) 2 2, .slice (some ⟨w.heap.size + 3, 0, none⟩) 2 2, .slice (some ⟨w.heap.size + 4, 0, none⟩) 1 1, .slice (some ⟨w.heap.size + 5, 0, none⟩) 1 1, .slice (some ⟨w.heap.size + 6, 0, none⟩) 2 2] 54)) (w.heap.size + 4) 76 #[.int .i64 0, .int .i64 1] := ((((Bk.newAt (w := ((((w.alloc (.cells #[.int .i64 1000, .int .i64 100] 76)).alloc (.cells #[.int .i64 1000, .int .i64 100, .int .i64 60, .int .i64 500, .int .i64 1, .int .i64 1000] 76)).alloc (.cells #[.int .i64 10, .int .i64 300, .int .i64 9, .int .i64 300] 76)).alloc (.cells #[.int .i64 5, .int .i64 1, .int .i64 5, .int .i64 2] 76))) (b := w.heap.size + 4) (by simp) 76 #[.int .i64 0, .int .i64 1]).alloc _).alloc _).alloc _)
  have h5 : Bk ((((((((w.alloc (.cells #[.int .i64 1000, .int .i64 100] 76)).alloc (.cells #[.int .i64 1000, .int .i64 100, .int .i64 60, .int .i64 500, .int .i64 1, .int .i64 1000] 76)).alloc (.cells #[.int .i64 10, .int .i64 300, .int .i64 9, .int .i64 300] 76)).alloc (.cells #[.int .i64 5, .int .i64 1, .int .i64 5, .int .i64 2] 76)).alloc (.cells #[.int .i64 0, .int .i64 1] 76)).alloc (.cells #[.int .i64 9, .int .i64 1001] 76)).alloc (.cells #[.int .i64 9, .int .i64 500, .int .i64 5, .int .i64 400] 76)).alloc (.cells #[.slice none 0 0, .slice (some ⟨w.heap.size, 0, none⟩) 1 1, .slice (some ⟨w.heap.size + 1, 0, none⟩) 3 3, .slice (some ⟨w.heap.size + 2, 0, none⟩) 2 2, .slice (some ⟨w.heap.size + 3, 0, none⟩) 2 2, .slice (some ⟨w.heap.size + 4, 0, none⟩) 1 1, .slice (some ⟨w.heap.size + 5, 0, none⟩) 1 1, .slice (some ⟨w.heap.size + 6, 0, none⟩) 2 2] 54)) (w.heap.size + 5) 76 #[.int .i64 9, .int .i64 1001] := (((Bk.newAt (w := (((((w.alloc (.cells #[.int .i64 1000, .int .i64 100] 76)).alloc (.cells #[.int .i64 1000, .int .i64 100, .int .i64 60, .int .i64 500, .int .i64 1, .int .i64 1000] 76)).alloc (.cells #[.int .i64 10, .int .i64 300, .int .i64 9, .int .i64 300] 76)).alloc (.cells #[.int .i64 5, .int .i64 1, .int .i64 5, .int .i64 2] 76)).alloc (.cells #[.int .i64 0, .int .i64 1] 76))) (b := w.heap.size + 5) (by simp) 76 #[.int .i64 9, .int .i64 1001]).alloc _).alloc _)
  have h6 : Bk ((((((((w.alloc (.cells #[.int .i64 1000, .int .i64 100] 76)).alloc (.cells #[.int .i64 1000, .int .i64 100, .int .i64 60, .int .i64 500, .int .i64 1, .int .i64 1000] 76)).alloc (.cells #[.int .i64 10, .int .i64 300, .int .i64 9, .int .i64 300] 76)).alloc (.cells #[.int .i64 5, .int .i64 1, .int .i64 5, .int .i64 2] 76)).alloc (.cells #[.int .i64 0, .int .i64 1] 76)).alloc (.cells #[.int .i64 9, .int .i64 1001] 76)).alloc (.cells #[.int .i64 9, .int .i64 500, .int .i64 5, .int .i64 400] 76)).alloc (.cells #[.slice none 0 0, .slice (some ⟨w.heap.size, 0, none⟩) 1 1, .slice (some ⟨w.heap.size + 1, 0, none⟩) 3 3, .slice (some ⟨w.heap.size + 2, 0, none⟩) 2 2, .slice (some ⟨w.heap.size + 3, 0, none⟩) 2 2, .slice (some ⟨w.heap.size + 4, 0, none⟩) 1 1, .slice (some ⟨w.heap.size + 5, 0, none⟩) 1 1, .slice (some ⟨w.heap.size + 6, 0, none⟩) 2 2] 54)) (w.heap.size + 6) 76 #[.int .i64 9, .int .i64 500, .int .i64 5, .int .i64 400] := ((Bk.newAt (w := ((((((w.alloc (.cells #[.int .i64 1000, .int .i64 100] 76)).alloc (.cells #[.int .i64 1000, .int .i64 100, .int .i64 60, .int .i64 500, .int .i64 1, .int .i64 1000] 76)).alloc (.cells #[.int .i64 10, .int .i64 300, .int .i64 9, .int .i64 300] 76)).alloc (.cells #[.int .i64 5, .int .i64 1, .int .i64 5, .int .i64 2] 76)).alloc (.cells #[.int .i64 0, .int .i64 1] 76)).alloc (.cells #[.int .i64 9, .int .i64 1001] 76))) (b := w.heap.size + 6) (by simp) 76 #[.int .i64 9, .int .i64 500, .int .i64 5, .int .i64 400]).alloc _)
  have ho : Bk ((((((((w.alloc (.cells #[.int .i64 1000, .int .i64 100] 76)).alloc (.cells #[.int .i64 1000, .int .i64 100, .int .i64 60, .int .i64 500, .int .i64 1, .int .i64 1000] 76)).alloc (.cells #[.int .i64 10, .int .i64 300, .int .i64 9, .int .i64 300] 76)).alloc (.cells #[.int .i64 5, .int .i64 1, .int .i64 5, .int .i64 2] 76)).alloc (.cells #[.int .i64 0, .int .i64 1] 76)).alloc (.cells #[.int .i64 9, .int .i64 1001] 76)).alloc (.cells #[.int .i64 9, .int .i64 500, .int .i64 5, .int .i64 400] 76)).alloc (.cells #[.slice none 0 0, .slice (some ⟨w.heap.size, 0, none⟩) 1 1, .slice (some ⟨w.heap.size + 1, 0, none⟩) 3 3, .slice (some ⟨w.heap.size + 2, 0, none⟩) 2 2, .slice (some ⟨w.heap.size + 3, 0, none⟩) 2 2, .slice (some ⟨w.heap.size + 4, 0, none⟩) 1 1, .slice (some ⟨w.heap.size + 5, 0, none⟩) 1 1, .slice (some ⟨w.heap.size + 6, 0, none⟩) 2 2] 54)) (w.heap.size + 7) 54 (tiOut w.heap.size) := Bk.newAt (w := (((((((w.alloc (.cells #[.int .i64 1000, .int .i64 100] 76)).alloc (.cells #[.int .i64 1000, .int .i64 100, .int .i64 60, .int .i64 500, .int .i64 1, .int .i64 1000] 76)).alloc (.cells #[.int .i64 10, .int .i64 300, .int .i64 9, .int .i64 300] 76)).alloc (.cells #[.int .i64 5, .int .i64 1, .int .i64 5, .int .i64 2] 76)).alloc (.cells #[.int .i64 0, .int .i64 1] 76)).alloc (.cells #[.int .i64 9, .int .i64 1001] 76)).alloc (.cells #[.int .i64 9, .int .i64 500, .int .i64 5, .int .i64 400] 76))) (b := w.heap.size + 7) (by simp) 54 (tiOut w.heap.size)
  have hSB : SB ((((((((w.alloc (.cells #[.int .i64 1000, .int .i64 100] 76)).alloc (.cells #[.int .i64 1000, .int .i64 100, .int .i64 60, .int .i64 500, .int .i64 1, .int .i64 1000] 76)).alloc (.cells #[.int .i64 10, .int .i64 300, .int .i64 9, .int .i64 300] 76)).alloc (.cells #[.int .i64 5, .int .i64 1, .int .i64 5, .int .i64 2] 76)).alloc (.cells #[.int .i64 0, .int .i64 1] 76)).alloc (.cells #[.int .i64 9, .int .i64 1001] 76)).alloc (.cells #[.int .i64 9, .int .i64 500, .int .i64 5, .int .i64 400] 76)).alloc (.cells #[.slice none 0 0, .slice (some ⟨w.heap.size, 0, none⟩) 1 1, .slice (some ⟨w.heap.size + 1, 0, none⟩) 3 3, .slice (some ⟨w.heap.size + 2, 0, none⟩) 2 2, .slice (some ⟨w.heap.size + 3, 0, none⟩) 2 2, .slice (some ⟨w.heap.size + 4, 0, none⟩) 1 1, .slice (some ⟨w.heap.size + 5, 0, none⟩) 1 1, .slice (some ⟨w.heap.size + 6, 0, none⟩) 2 2] 54)) s K := hs.quiet (G.alloc (G.alloc (G.alloc (G.alloc (G.alloc (G.alloc (G.alloc (G.alloc (G.refl w none) _) _) _) _) _) _) _) _)
  have hG : G w ((((((((w.alloc (.cells #[.int .i64 1000, .int .i64 100] 76)).alloc (.cells #[.int .i64 1000, .int .i64 100, .int .i64 60, .int .i64 500, .int .i64 1, .int .i64 1000] 76)).alloc (.cells #[.int .i64 10, .int .i64 300, .int .i64 9, .int .i64 300] 76)).alloc (.cells #[.int .i64 5, .int .i64 1, .int .i64 5, .int .i64 2] 76)).alloc (.cells #[.int .i64 0, .int .i64 1] 76)).alloc (.cells #[.int .i64 9, .int .i64 1001] 76)).alloc (.cells #[.int .i64 9, .int .i64 500, .int .i64 5, .int .i64 400] 76)).alloc (.cells #[.slice none 0 0, .slice (some ⟨w.heap.size, 0, none⟩) 1 1, .slice (some ⟨w.heap.size + 1, 0, none⟩) 3 3, .slice (some ⟨w.heap.size + 2, 0, none⟩) 2 2, .slice (some ⟨w.heap.size + 3, 0, none⟩) 2 2, .slice (some ⟨w.heap.size + 4, 0, none⟩) 1 1, .slice (some ⟨w.heap.size + 5, 0, none⟩) 1 1, .slice (some ⟨w.heap.size + 6, 0, none⟩) 2 2] 54)) (some s) := G.alloc (G.alloc (G.alloc (G.alloc (G.alloc (G.alloc (G.alloc (G.alloc (G.refl w (some s)) _) _) _) _) _) _) _) _
  have hz : ((((((((w.alloc (.cells #[.int .i64 1000, .int .i64 100] 76)).alloc (.cells #[.int .i64 1000, .int .i64 100, .int .i64 60, .int .i64 500, .int .i64 1, .int .i64 1000] 76)).alloc (.cells #[.int .i64 10, .int .i64 300, .int .i64 9, .int .i64 300] 76)).alloc (.cells #[.int .i64 5, .int .i64 1, .int .i64 5, .int .i64 2] 76)).alloc (.cells #[.int .i64 0, .int .i64 1] 76)).alloc (.cells #[.int .i64 9, .int .i64 1001] 76)).alloc (.cells #[.int .i64 9, .int .i64 500, .int .i64 5, .int .i64 400] 76)).alloc (.cells #[.slice none 0 0, .slice (some ⟨w.heap.size, 0, none⟩) 1 1, .slice (some ⟨w.heap.size + 1, 0, none⟩) 3 3, .slice (some ⟨w.heap.size + 2, 0, none⟩) 2 2, .slice (some ⟨w.heap.size + 3, 0, none⟩) 2 2, .slice (some ⟨w.heap.size + 4, 0, none⟩) 1 1, .slice (some ⟨w.heap.size + 5, 0, none⟩) 1 1, .slice (some ⟨w.heap.size + 6, 0, none⟩) 2 2] 54)).heap.size = w.heap.size + 8 := by simp
  go_enter Tryd.func20, Tryd.ntmps20
  go_wp2_with fail
  generalize ((((((((w.alloc (.cells #[.int .i64 1000, .int .i64 100] 76)).alloc (.cells #[.int .i64 1000, .int .i64 100, .int .i64 60, .int .i64 500, .int .i64 1, .int .i64 1000] 76)).alloc (.cells #[.int .i64 10, .int .i64 300, .int .i64 9, .int .i64 300] 76)).alloc (.cells #[.int .i64 5, .int .i64 1, .int .i64 5, .int .i64 2] 76)).alloc (.cells #[.int .i64 0, .int .i64 1] 76)).alloc (.cells #[.int .i64 9, .int .i64 1001] 76)).alloc (.cells #[.int .i64 9, .int .i64 500, .int .i64 5, .int .i64 400] 76)).alloc (.cells #[.slice none 0 0, .slice (some ⟨w.heap.size, 0, none⟩) 1 1, .slice (some ⟨w.heap.size + 1, 0, none⟩) 3 3, .slice (some ⟨w.heap.size + 2, 0, none⟩) 2 2, .slice (some ⟨w.heap.size + 3, 0, none⟩) 2 2, .slice (some ⟨w.heap.size + 4, 0, none⟩) 1 1, .slice (some ⟨w.heap.size + 5, 0, none⟩) 1 1, .slice (some ⟨w.heap.size + 6, 0, none⟩) 2 2] 54)) = w8 at h0 h1 h2 h3 h4 h5 h6 ho hSB hG hz ⊢
  refine (pick_c _ _ _ [0, 1, 1, 2, 2, 2, 3, 3, 4, 5, 6, 7] _ _ K (hSB.alloc _) (by omega) (by decide) (by decide) (Rd.newAt _ hz rfl (by decide)) (hSB.newAt _ _ _ (Nat.le_of_eq hz))).mono ?_; rintro e w2 ⟨a, rfl, ha, hSB2, hG2⟩
  have ha0 : 0 ≤ a ∧ a < 8 := by simp only [List.mem_cons, List.mem_nil_iff, or_false] at ha; omega
  obtain ⟨a0, a1⟩ := ha0
  obtain ⟨j, rfl⟩ := Int.eq_ofNat_of_zero_le a0
  have hj : j < 8 := by omega
  have hf : ∀ i : Nat, i < 8 → some (w.heap.size + i) ≠ some s := fun i _ e => by have := Option.some.inj e; omega
  obtain ⟨v, l, hv, hrd, hln, hvb⟩ := tiOut_at (w := w2) (g := w.heap.size) ((h0.alloc _).grown hG2 (hf 0 (by omega))) ((h1.alloc _).grown hG2 (hf 1 (by omega))) ((h2.alloc _).grown hG2 (hf 2 (by omega))) ((h3.alloc _).grown hG2 (hf 3 (by omega))) ((h4.alloc _).grown hG2 (hf 4 (by omega))) ((h5.alloc _).grown hG2 (hf 5 (by omega))) ((h6.alloc _).grown hG2 (hf 6 (by omega))) j hj
  have ho2 : Bk w2 (w.heap.size + 7) 54 (tiOut w.heap.size) := (ho.alloc _).grown hG2 (hf 7 (by omega))
  have hcell : w2.cell? ⟨w.heap.size + 7, j, none⟩ = some v := (ho2.cell j).trans hv
  have hG02 := (hG.alloc _).trans hG2
  clear h0 h1 h2 h3 h4 h5 h6 ho hSB hG hG2 ho2 hv ha hf
  go_wp2_with fail
  go_ret
  exact ⟨v, l, rfl, hrd, hln, hvb, hSB2, hG02⟩
def MorePost (s K : Nat) (w : World) (e : Ending) (w' : World) : Prop :=
  ∃ b : Bo, e = .returned (.agg (boC b)) ∧ boB b ∧ SB w' s (K + 9) ∧ G w w' (some s)
theorem more_set2 (x y : ByteArray) (a z m p v : Int) : (boC (x, y, a, z, m, p)).setIfInBounds 2 (.int .i64 v) = boC (x, y, v, z, m, p) := rfl
theorem more_set3 (x y : ByteArray) (a z m p v : Int) : (boC (x, y, a, z, m, p)).setIfInBounds 3 (.int .i64 v) = boC (x, y, a, v, m, p) := rfl
theorem more_set45 (x y : ByteArray) (a z m p v u : Int) : ((boC (x, y, a, z, m, p)).setIfInBounds 5 (.int .i64 v)).setIfInBounds 4 (.int .i64 u) = boC (x, y, a, z, u, v) := rfl
theorem bo_oneB (b : Bo) : (boC b).all (·.oneCell') = true := by simp [boC, Value.oneCell']
def boZ : Bo := (⟨#[]⟩, ⟨#[]⟩, 0, 0, 0, 0)
set_option maxRecDepth 100000 in
set_option maxHeartbeats 4000000 in
theorem more_c (w : World) (s : Nat) (K : Nat) (hs : SB w s K) (hk : K ≤ 900000000000) :
    Calls Tryd.prog 21 #[.pointer (some ⟨s, 0, none⟩)] w (MorePost s K w) := by
  have hslt := hs.lt
  have hB0 := Bk.new w 33 (boC boZ)
  have hSB0 := hs.alloc (.cells (boC boZ) 33)
  have hG0 := (G.refl w (some s)).alloc (.cells (boC boZ) 33)
  have hz0 : (w.alloc (.cells (boC boZ) 33)).heap.size = w.heap.size + 1 := by simp
  go_enter Tryd.func21, Tryd.ntmps21
  go_wp2_with fail
  refine (some_c _ _ _ [⟨#[98, 122]⟩, ⟨#[98, 122]⟩, ⟨#[97, 97]⟩, ⟨#[98, 97]⟩] _ _ K (hSB0.alloc _) (by omega) (by decide) (by decide) (Rd.newAt _ hz0 rfl (by decide)) (hSB0.newAt _ _ _ (Nat.le_of_eq hz0))).mono ?_; rintro e w1 ⟨x, rfl, hx, hSB1, hG1⟩
  have hxs := small_pick hx (by decide)
  have hB1 := (hB0.alloc _).grown hG1 (fun e => by have := Option.some.inj e; omega)
  have hG01 := (hG0.alloc _).trans hG1
  clear hB0 hSB0 hG0 hG1 hx hz0
  go_wp2_with fail
  refine (some_c _ _ _ [⟨#[109, 105, 110, 105]⟩, ⟨#[109, 105, 100, 105]⟩, ⟨#[98, 105, 103]⟩, ⟨#[109, 97, 120, 105]⟩, ⟨#[110, 111, 110, 101]⟩] _ _ _ (hSB1.alloc _) (by omega) (by decide) (by decide) (Rd.newAt _ rfl rfl (by decide)) (hSB1.newAt _ _ _ (Nat.le_refl _))).mono ?_; rintro e w2 ⟨y, rfl, hy, hSB2, hG2⟩
  have hys := small_pick hy (by decide)
  have hB2 := (hB1.alloc _).grown hG2 (fun e => by have := Option.some.inj e; omega)
  have hG02 := (hG01.alloc _).trans hG2
  clear hB1 hSB1 hG01 hG2 hy
  have hN3 := Bk.new w2 33 (boC (x, y, 0, 0, 0, 50))
  have hB3 := hB2.alloc (.cells (boC (x, y, 0, 0, 0, 50)) 33)
  have hSB3 := hSB2.alloc (.cells (boC (x, y, 0, 0, 0, 50)) 33)
  have hG03 := hG02.alloc (.cells (boC (x, y, 0, 0, 0, 50)) 33)
  have hz3 : (w2.alloc (.cells (boC (x, y, 0, 0, 0, 50)) 33)).heap.size = w2.heap.size + 1 := by simp
  have hl2 := hB2.lt
  have hs2 := hSB2.lt
  clear hB2 hSB2 hG02
  go_wp2_with fail
  refine (pick_c _ _ _ [0, 10, 15, 25, 5761410] _ _ _ (hSB3.alloc _) (by omega) (by decide) (by decide) (Rd.newAt _ hz3 rfl (by decide)) (hSB3.newAt _ _ _ (Nat.le_of_eq hz3))).mono ?_; rintro e w4 ⟨a, rfl, ha, hSB4, hG4⟩
  have ha0 : 0 ≤ a ∧ a ≤ 5761410 := by simp only [List.mem_cons, List.mem_nil_iff, or_false] at ha; omega
  obtain ⟨a0, a1⟩ := ha0
  have hB4 := (hB3.alloc _).grown hG4 (fun e => by have := Option.some.inj e; omega)
  have hN4 := (hN3.alloc _).grown hG4 (fun e => by have := Option.some.inj e; omega)
  have hG04 := (hG03.alloc _).trans hG4
  have hz4 := hG4.size
  clear hB3 hN3 hSB3 hG03 hG4 ha hz3
  generalize w2.heap.size = g at hl2 hs2 hN4 ⊢
  have c2 : w4.cell? ⟨g, 2, none⟩ = some (.int .i64 0) := hN4.cell 2
  have f2 : w4.frozen? ⟨g, 2, none⟩ = false := hN4.free 2
  have hN5 : Bk (w4.setCell ⟨g, 2, none⟩ (.int .i64 a)) g 33 (boC (x, y, a, 0, 0, 50)) := hN4.set 2 _
  have hB5 := hB4.far (p := ⟨g, 2, none⟩) (show w.heap.size ≠ g by omega) (.int .i64 a)
  have hSB5 := hSB4.setCell (p := ⟨g, 2, none⟩) hs2 (.int .i64 a)
  have hgw : w.heap.size ≤ g := by omega
  have hG05 := hG04.setCell (p := ⟨g, 2, none⟩) (.inl hgw) (.int .i64 a)
  clear hN4 hB4 hSB4 hG04 hz4
  go_wp2_with fail
  generalize w4.setCell ⟨g, 2, none⟩ (.int .i64 a) = w5 at hN5 hB5 hSB5 hG05 ⊢
  have c2 : w5.cell? ⟨g, 2, none⟩ = some (.int .i64 a) := hN5.cell 2
  have f3 : w5.frozen? ⟨g, 3, none⟩ = false := hN5.free 3
  have HN5 := Lib.hid (hN5.quiet ((G.refl w5 none).drew))
  have HB5 := Lib.hid (hB5.quiet ((G.refl w5 none).drew))
  have hSBd := hSB5.quiet ((G.refl w5 none).drew)
  have hG5d := hG05.drew
  clear hN5 hB5 hSB5 hG05
  go_region_held3 (fun w' => w'.cell? ⟨g, 2, none⟩ = some (.int .i64 a)) (first | exact c2 | exact c26 | exact c27 | go_keep) (first | (go_at_call 6; refine (pick_c _ _ _ [1, 5, 10, 10, 29, 0] _ _ _ (hSBd.alloc _) (by omega) (by decide) (by decide) (Rd.newAt _ rfl rfl (by decide)) (hSBd.newAt _ _ _ (Nat.le_refl _))).mono ?_; rintro e w6 ⟨r, rfl, hr, hSB6, hG6⟩; have hr0 : 0 ≤ r ∧ r ≤ 29 := (by simp only [List.mem_cons, List.mem_nil_iff, or_false] at hr; omega); obtain ⟨r0, r1⟩ := hr0; have hN6 := (HN5.out.alloc _).grown hG6 (fun e => by have := Option.some.inj e; omega); have hB6 := (HB5.out.alloc _).grown hG6 (fun e => by have := Option.some.inj e; omega); have hG06 := (hG5d.alloc _).trans hG6; have c26 : w6.cell? ⟨g, 2, none⟩ = some (.int .i64 a) := hN6.cell 2; have c27 : (w6.setCell ⟨g, 3, none⟩ (.int .i64 (a + r))).cell? ⟨g, 2, none⟩ = some (.int .i64 a) := (hN6.set 3 (.int .i64 (a + r))).cell 2; have f36 : w6.frozen? ⟨g, 3, none⟩ = false := hN6.free 3; have c36 : w6.cell? ⟨g, 3, none⟩ = some (.int .i64 0) := hN6.cell 3; have hwr : IntKind.i64.wrap (a + r) = a + r := (by rw [IntKind.wrap_i64]; omega); clear hr hG6))
  have hN7 : Bk (w6.setCell ⟨g, 3, none⟩ (.int .i64 (a + r))) g 33 (boC (x, y, a, a + r, 0, 50)) := hN6.set 3 _
  have hB7 := hB6.far (p := ⟨g, 3, none⟩) (show w.heap.size ≠ g by omega) (.int .i64 (a + r))
  have hSB7 := hSB6.setCell (p := ⟨g, 3, none⟩) hs2 (.int .i64 (a + r))
  have hG07 := hG06.setCell (p := ⟨g, 3, none⟩) (.inl hgw) (.int .i64 (a + r))
  clear HN5 HB5 hSBd hG5d hN6 hB6 hSB6 hG06 c26 c27 f36 c36 hwr c2 f3
  generalize w6.setCell ⟨g, 3, none⟩ (.int .i64 (a + r)) = w7 at hN7 hB7 hSB7 hG07 ⊢
  obtain ⟨z, hz⟩ : ∃ z, a + r = z := ⟨_, rfl⟩
  have hzb : bnd a ∧ bnd z := by unfold bnd; omega
  have HZ := Lib.hid hzb
  rw [hz] at hN7
  clear hz hzb r0 r1 a0 a1
  go_wp2_with fail
  refine (flip_c _ _ _ _ hSB7 (by omega) (by omega)).mono ?_; rintro e w8 ⟨q, rfl, hSB8, hG8⟩
  have hN8 := hN7.grown hG8 (fun e => by have := Option.some.inj e; omega)
  have hB8 := hB7.grown hG8 (fun e => by have := Option.some.inj e; omega)
  have hG08 := hG07.trans hG8
  clear hN7 hB7 hSB7 hG07 hG8
  cases q with
  | false =>
    go_wp2_with (first | (refine wpList_load_row rfl 33 _ rfl g rfl 33 #[.string (x, y, a, z, 0, 50).1, .string (x, y, a, z, 0, 50).2.1, .int .i64 (x, y, a, z, 0, 50).2.2.1, .int .i64 (x, y, a, z, 0, 50).2.2.2.1, .int .i64 (x, y, a, z, 0, 50).2.2.2.2.1, .int .i64 (x, y, a, z, 0, 50).2.2.2.2.2] (0, 0) _ hN8 Tryd.underlying33 rfl (bo_info (x, y, a, z, 0, 50)) ?_) | (refine wpList_store_row rfl 33 _ _ rfl w.heap.size (boC (x, y, a, z, 0, 50)) rfl rfl 33 _ hB8 (bo_info (x, y, a, z, 0, 50)) rfl (bo_oneB (x, y, a, z, 0, 50)) ?_))
    refine bodyPost_ret (results_cell_row rfl _ _ w.heap.size 33 (boC (x, y, a, z, 0, 50)) (0, 0) _ rfl (hB8.setRow _) Tryd.underlying33 rfl (bo_info (x, y, a, z, 0, 50))) rfl ?_
    exact ⟨_, rfl, ⟨hxs, hys, HZ.out.1, HZ.out.2, (by show bnd 0; unfold bnd; omega), (by show bnd 50; unfold bnd; omega)⟩, (hSB8.setRow hslt _).le (by omega), hG08.setRow (.inl (Nat.le_refl _)) _⟩
  | true =>
    go_wp2_with fail
    refine (odd_c _ _ _ _ _ hSB8 (by omega) (by omega) (by omega) (by omega) (by omega)).mono ?_; rintro e w9 ⟨y1, rfl, y10, y11, hSB9, hG9⟩
    have hN9 := hN8.grown hG9 (fun e => by have := Option.some.inj e; omega)
    have hB9 := hB8.grown hG9 (fun e => by have := Option.some.inj e; omega)
    have hG09 := hG08.trans hG9
    clear hN8 hB8 hSB8 hG08 hG9
    go_wp2_with fail
    refine (odd_c _ _ _ _ _ hSB9 (by omega) (by omega) (by omega) (by omega) (by omega)).mono ?_; rintro e w10 ⟨y2, rfl, y20, y21, hSB10, hG10⟩
    have hN10 := hN9.grown hG10 (fun e => by have := Option.some.inj e; omega)
    have hB10 := hB9.grown hG10 (fun e => by have := Option.some.inj e; omega)
    have hG010 := hG09.trans hG10
    clear hN9 hB9 hSB9 hG09 hG10
    have c4 : w10.cell? ⟨g, 4, none⟩ = some (.int .i64 0) := hN10.cell 4
    have c5 : w10.cell? ⟨g, 5, none⟩ = some (.int .i64 50) := hN10.cell 5
    have f4 := hN10.free 4
    have f5 := hN10.free 5
    have hN11 : Bk ((w10.setCell ⟨g, 5, none⟩ (.int .i64 y1)).setCell ⟨g, 4, none⟩ (.int .i64 y2)) g 33 (boC (x, y, a, z, y2, y1)) := (hN10.set 5 _).set 4 _
    have hB11 := (hB10.far (p := ⟨g, 5, none⟩) (show w.heap.size ≠ g by omega) (.int .i64 y1)).far (p := ⟨g, 4, none⟩) (show w.heap.size ≠ g by omega) (.int .i64 y2)
    have hSB11 := (hSB10.setCell (p := ⟨g, 5, none⟩) hs2 (.int .i64 y1)).setCell (p := ⟨g, 4, none⟩) hs2 (.int .i64 y2)
    have hG011 := (hG010.setCell (p := ⟨g, 5, none⟩) (.inl hgw) (.int .i64 y1)).setCell (p := ⟨g, 4, none⟩) (.inl hgw) (.int .i64 y2)
    clear hN10 hB10 hSB10 hG010
    go_wp2_with (first | (refine wpList_load_row rfl 33 _ rfl g rfl 33 #[.string (x, y, a, z, y2, y1).1, .string (x, y, a, z, y2, y1).2.1, .int .i64 (x, y, a, z, y2, y1).2.2.1, .int .i64 (x, y, a, z, y2, y1).2.2.2.1, .int .i64 (x, y, a, z, y2, y1).2.2.2.2.1, .int .i64 (x, y, a, z, y2, y1).2.2.2.2.2] (0, 0) _ hN11 Tryd.underlying33 rfl (bo_info (x, y, a, z, y2, y1)) ?_) | (refine wpList_store_row rfl 33 _ _ rfl w.heap.size (boC (x, y, a, z, y2, y1)) rfl rfl 33 _ hB11 (bo_info (x, y, a, z, y2, y1)) rfl (bo_oneB (x, y, a, z, y2, y1)) ?_))
    refine bodyPost_ret (results_cell_row rfl _ _ w.heap.size 33 (boC (x, y, a, z, y2, y1)) (0, 0) _ rfl (hB11.setRow _) Tryd.underlying33 rfl (bo_info (x, y, a, z, y2, y1))) rfl ?_
    exact ⟨_, rfl, ⟨hxs, hys, HZ.out.1, HZ.out.2, ⟨y20, y21⟩, ⟨y10, y11⟩⟩, (hSB11.setRow hslt _).le (by omega), hG011.setRow (.inl (Nat.le_refl _)) _⟩
end Go.Proofs.YtlnkompebajlnaaDoor
