/- Generator: AnyClasses. -/
import Derived.Test.YtjjgohainbjecaaDoorGenC
import Derived.Test.YtjjgohainbjecaaDoorRek
namespace Go.Proofs.YtjjgohainbjecaaDoor
open Go.RowKit

theorem mem5 {r a b c d e : ByteArray} (h : r ∈ [a, b, c, d, e]) (ha : Small a) (hb : Small b) (hc : Small c) (hd : Small d) (he : Small e) : Small r := by
  simp only [List.mem_cons, List.mem_nil_iff, or_false] at h
  rcases h with rfl | rfl | rfl | rfl | rfl <;> assumption
theorem smA : Small ⟨#[65]⟩ := small_of (by decide)
theorem smZed : Small ⟨#[122, 101, 100]⟩ := small_of (by decide)
theorem smMini : Small ⟨#[109, 105, 110, 105]⟩ := small_of (by decide)
theorem smNone : Small ⟨#[110, 111, 110, 101]⟩ := small_of (by decide)
set_option maxRecDepth 100000 in
set_option maxHeartbeats 8000000 in
theorem anyClasses_c (w : World) (s : Nat) (K : Nat) (hs : SB w s K) (hk : K ≤ 800000000000) :
    Calls Tryd.prog 4 #[.pointer (some ⟨s, 0, none⟩)] w (ClassesPost s K 12 w) := by
  have hslt := hs.lt
  go_enter Tryd.func4, Tryd.ntmps4
  go_wp2_with fail
  refine (classes_c w s K hs (by omega)).mono ?_; rintro e w1 ⟨g, k, u, rfl, hgw, hB1, hkk, huu, hSB1, hG1⟩
  go_wp2_with fail
  refine (flip_c _ _ _ _ hSB1 (by omega) (by omega)).mono ?_; rintro e w2 ⟨b, rfl, hSB2, hG2⟩
  have hB2 := hB1.grown hG2 (by simp; omega)
  have hG02 := hG1.trans hG2
  clear hB1 hG1 hG2 hSB1
  cases b with
  | false =>
    go_wp2_with fail
    go_ret
    exact ⟨g, k, u, rfl, hgw, hB2, hkk, huu, hSB2.le (by omega), hG02⟩
  | true =>
    go_wp2_with fail
    refine (next_c _ _ _ _ hSB2 (by omega) (by omega)).mono ?_; rintro e w3 ⟨j, rfl, hj, hSB3, hG3⟩
    obtain ⟨j0, j1⟩ := hj
    obtain ⟨j, rfl⟩ := Int.eq_ofNat_of_zero_le j0
    have j4 : j < 4 := by omega
    clear j1
    have hB3 := hB2.grown hG3 (by simp; omega)
    have hG03 := hG02.trans hG3
    clear hB2 hG02 hG3 hSB2 hs
    have ck := cellsC_key k u j j4
    have cu := cellsC_up k u j j4
    go_wp2_with fail
    refine wp_region_any (by kernel_rfl) ?_
    change wpAny _ _ _ _ _ _ _ (World.drew _)
    have hBd := hB3.quiet ((G.refl w3 none).drew)
    have hSBd := hSB3.quiet ((G.refl w3 none).drew)
    have hGd := hG03.drew
    clear hB3 hSB3 hG03
    generalize w3.drew = w5 at hBd hSBd hGd ⊢
    refine wpAny_of_K (S := fun w' => Bk w' g 48 (cellsC k u)) (k := 26) _ _ _ _ ?_
    refine wpAnyK_take (i := 0) (v := .pointer (some ⟨g, j * 2, none⟩)) rfl (by decide) (by kernel_rfl) (by kernel_rfl) (by kernel_rfl) (fun _ _ _ h => h) (Or.inl ⟨by rfl, fun w _ => by go_simp⟩) hBd ?_
    refine wpAnyK_take (i := 1) (v := .pointer (some ⟨g, j * 2, none⟩)) rfl (by decide) (by kernel_rfl) (by kernel_rfl) (by kernel_rfl) (fun _ _ _ h => h) (Or.inl ⟨by rfl, fun w _ => by go_simp⟩) hBd ?_
    refine wpAnyK_take (i := 2) (v := .pointer (some ⟨s, 0, none⟩)) rfl (by decide) (by kernel_rfl) (by kernel_rfl) (by kernel_rfl) (fun _ _ _ h => h) (Or.inl ⟨by rfl, fun w _ => by go_simp⟩) hBd ?_
    refine wpAnyK_take (i := 3) (v := .pointer (some ⟨g, j * 2, none⟩)) rfl (by decide) (by kernel_rfl) (by kernel_rfl) (by kernel_rfl) (fun _ _ _ h => h) (Or.inl ⟨by rfl, fun w _ => by go_simp⟩) hBd ?_
    refine wpAnyK_take (i := 4) (v := .pointer (some ⟨g, j * 2, none⟩)) rfl (by decide) (by kernel_rfl) (by kernel_rfl) (by kernel_rfl) (fun _ _ _ h => h) (Or.inl ⟨by rfl, fun w _ => by go_simp⟩) hBd ?_
    refine wpAnyK_take (i := 5) (v := .pointer (some ⟨g, j * 2, none⟩)) rfl (by decide) (by kernel_rfl) (by kernel_rfl) (by kernel_rfl) (fun _ _ _ h => h) (Or.inl ⟨by rfl, fun w _ => by go_simp⟩) hBd ?_
    refine wpAnyK_load (i := 6) (v := .string (k j)) rfl (by decide) (by kernel_rfl) (by kernel_rfl) (by kernel_rfl) (by kernel_rfl) (by kernel_rfl) (fun _ _ _ h => h) (Or.inl ⟨by rfl, fun w hw => by have hc : w.cell? ⟨g, j * 2, none⟩ = some (.string (k j)) := (hw.cell _).trans ck; go_simp⟩) hBd ?_
    refine wpAnyK_take (i := 7) (v := .pointer (some ⟨g, j * 2, none⟩)) rfl (by decide) (by kernel_rfl) (by kernel_rfl) (by kernel_rfl) (fun _ _ _ h => h) (Or.inl ⟨by rfl, fun w _ => by go_simp⟩) hBd ?_
    refine wpAnyK_take (i := 8) (v := .pointer (some ⟨g, j * 2, none⟩)) rfl (by decide) (by kernel_rfl) (by kernel_rfl) (by kernel_rfl) (fun _ _ _ h => h) (Or.inl ⟨by rfl, fun w _ => by go_simp⟩) hBd ?_
    refine wpAnyK_take (i := 9) (v := .pointer (some ⟨g, j * 2, none⟩)) rfl (by decide) (by kernel_rfl) (by kernel_rfl) (by kernel_rfl) (fun _ _ _ h => h) (Or.inl ⟨by rfl, fun w _ => by go_simp⟩) hBd ?_
    refine wpAnyK_load (i := 10) (v := .string (k j)) rfl (by decide) (by kernel_rfl) (by kernel_rfl) (by kernel_rfl) (by kernel_rfl) (by kernel_rfl) (fun _ _ _ h => h) (Or.inl ⟨by rfl, fun w hw => by have hc : w.cell? ⟨g, j * 2, none⟩ = some (.string (k j)) := (hw.cell _).trans ck; go_simp⟩) hBd ?_
    refine wpAnyK_take (i := 13) (v := .pointer (some ⟨s, 0, none⟩)) rfl (by decide) (by kernel_rfl) (by kernel_rfl) (by kernel_rfl) (fun _ _ _ h => h) (Or.inl ⟨by rfl, fun w _ => by go_simp⟩) hBd ?_
    refine wpAnyK_take (i := 14) (v := .pointer (some ⟨g, j * 2, none⟩)) rfl (by decide) (by kernel_rfl) (by kernel_rfl) (by kernel_rfl) (fun _ _ _ h => h) (Or.inl ⟨by rfl, fun w _ => by go_simp⟩) hBd ?_
    refine wpAnyK_take (i := 15) (v := .pointer (some ⟨g, j * 2, none⟩)) rfl (by decide) (by kernel_rfl) (by kernel_rfl) (by kernel_rfl) (fun _ _ _ h => h) (Or.inl ⟨by rfl, fun w _ => by go_simp⟩) hBd ?_
    refine wpAnyK_take (i := 16) (v := .pointer (some ⟨g, j * 2 + 1, none⟩)) rfl (by decide) (by kernel_rfl) (by kernel_rfl) (by kernel_rfl) (fun _ _ _ h => h) (Or.inl ⟨by rfl, fun w _ => by go_simp⟩) hBd ?_
    refine wpAnyK_load (i := 17) (v := .string (u j)) rfl (by decide) (by kernel_rfl) (by kernel_rfl) (by kernel_rfl) (by kernel_rfl) (by kernel_rfl) (fun _ _ _ h => h) (Or.inl ⟨by rfl, fun w hw => by have hc : w.cell? ⟨g, j * 2 + 1, none⟩ = some (.string (u j)) := (hw.cell _).trans cu; go_simp⟩) hBd ?_
    refine wpAnyK_take (i := 18) (v := .pointer (some ⟨g, j * 2, none⟩)) rfl (by decide) (by kernel_rfl) (by kernel_rfl) (by kernel_rfl) (fun _ _ _ h => h) (Or.inl ⟨by rfl, fun w _ => by go_simp⟩) hBd ?_
    refine wpAnyK_take (i := 19) (v := .pointer (some ⟨g, j * 2, none⟩)) rfl (by decide) (by kernel_rfl) (by kernel_rfl) (by kernel_rfl) (fun _ _ _ h => h) (Or.inl ⟨by rfl, fun w _ => by go_simp⟩) hBd ?_
    refine wpAnyK_take (i := 20) (v := .pointer (some ⟨g, j * 2, none⟩)) rfl (by decide) (by kernel_rfl) (by kernel_rfl) (by kernel_rfl) (fun _ _ _ h => h) (Or.inl ⟨by rfl, fun w _ => by go_simp⟩) hBd ?_
    refine wpAnyK_load (i := 21) (v := .string (k j)) rfl (by decide) (by kernel_rfl) (by kernel_rfl) (by kernel_rfl) (by kernel_rfl) (by kernel_rfl) (fun _ _ _ h => h) (Or.inl ⟨by rfl, fun w hw => by have hc : w.cell? ⟨g, j * 2, none⟩ = some (.string (k j)) := (hw.cell _).trans ck; go_simp⟩) hBd ?_
    have hsg : s < g := by omega
    have hBw5 := hBd
    have hSBw5 := hSBd
    have hGw5 := hGd
    clear hBd hSBd hGd
    refine k_two (i := 11) (j := 22) (by kernel_rfl) rfl rfl (fun K' hK => ?_) (fun K' hK => ?_)
    · skip
      refine st_val rfl (v := .slice (some ⟨w5.heap.size, 0, none⟩) 5 5) (w' := w5.alloc (.cells #[.string (k j), .string (k j), .string ⟨#[]⟩, .string ⟨#[65]⟩, .string ⟨#[122, 101, 100]⟩] 9)) (by go_simp) ?_
      refine hK _ _ (fun _ => hBw5.alloc _) ?_
      have hBwb0 := hBw5.alloc (.cells #[.string (k j), .string (k j), .string ⟨#[]⟩, .string ⟨#[65]⟩, .string ⟨#[122, 101, 100]⟩] 9)
      have hSBwb0 := hSBw5.alloc (.cells #[.string (k j), .string (k j), .string ⟨#[]⟩, .string ⟨#[65]⟩, .string ⟨#[122, 101, 100]⟩] 9)
      have hGwb0 := hGw5.alloc (.cells #[.string (k j), .string (k j), .string ⟨#[]⟩, .string ⟨#[65]⟩, .string ⟨#[122, 101, 100]⟩] 9)
      have hR1 : Rd (w5.alloc (.cells #[.string (k j), .string (k j), .string ⟨#[]⟩, .string ⟨#[65]⟩, .string ⟨#[122, 101, 100]⟩] 9)) 1 (.slice (some ⟨w5.heap.size, 0, none⟩) 5 5) 5 (([k j, k j, ⟨#[]⟩, ⟨#[65]⟩, ⟨#[122, 101, 100]⟩] : List ByteArray).map Value.string) := Rd.newAt #[.string (k j), .string (k j), .string ⟨#[]⟩, .string ⟨#[65]⟩, .string ⟨#[122, 101, 100]⟩] rfl rfl (by decide)
      have hN1 : (Value.slice (some ⟨w5.heap.size, 0, none⟩) 5 5).ownBlock ≠ some s := hSBw5.newAt _ _ _ (Nat.le_refl _)
      clear hK K' hBw5 hSBw5 hGw5
      generalize w5.alloc (.cells #[.string (k j), .string (k j), .string ⟨#[]⟩, .string ⟨#[65]⟩, .string ⟨#[122, 101, 100]⟩] 9) = wb0 at hBwb0 hSBwb0 hGwb0 hR1 ⊢
      generalize w5.heap.size = b1 at hR1 hN1 ⊢
      refine k_two (i := 12) (j := 22) (by kernel_rfl) rfl rfl (fun K' hK => ?_) (fun K' hK => ?_)
      · skip
        refine st_call rfl (f := 20) (args := #[.pointer (some ⟨s, 0, none⟩), .slice (some ⟨b1, 0, none⟩) 5 5]) (w1 := wb0) (by go_simp) ?_
        refine (some_c _ _ _ [k j, k j, ⟨#[]⟩, ⟨#[65]⟩, ⟨#[122, 101, 100]⟩] wb0 s (K + 8 + 1 + 1) hSBwb0 (by omega) (by decide) (by decide) hR1 hN1).mono ?_; rintro e wb1 ⟨r1, rfl, hr1, hSBwb1, hGx⟩
        have hBwb1 := hBwb0.grown hGx (by simp; omega)
        have hGwb1 := hGwb0.trans hGx
        refine ⟨_, rfl, hK _ _ (fun _ => hBwb1) ?_⟩
        clear hK K' hGx hBwb0 hSBwb0 hGwb0 hR1 hN1
        refine k_one (i := 22) (by kernel_rfl) rfl fun K' hK => ?_
        refine st_val rfl (v := .slice (some ⟨wb1.heap.size, 0, none⟩) 5 5) (w' := wb1.alloc (.cells #[.string (u j), .string ⟨#[109, 105, 110, 105]⟩, .string ⟨#[110, 111, 110, 101]⟩, .string ⟨#[65]⟩, .string (k j)] 9)) (by go_simp) ?_
        refine hK _ _ (fun _ => hBwb1.alloc _) ?_
        have hBwb2 := hBwb1.alloc (.cells #[.string (u j), .string ⟨#[109, 105, 110, 105]⟩, .string ⟨#[110, 111, 110, 101]⟩, .string ⟨#[65]⟩, .string (k j)] 9)
        have hSBwb2 := hSBwb1.alloc (.cells #[.string (u j), .string ⟨#[109, 105, 110, 105]⟩, .string ⟨#[110, 111, 110, 101]⟩, .string ⟨#[65]⟩, .string (k j)] 9)
        have hGwb2 := hGwb1.alloc (.cells #[.string (u j), .string ⟨#[109, 105, 110, 105]⟩, .string ⟨#[110, 111, 110, 101]⟩, .string ⟨#[65]⟩, .string (k j)] 9)
        have hR2 : Rd (wb1.alloc (.cells #[.string (u j), .string ⟨#[109, 105, 110, 105]⟩, .string ⟨#[110, 111, 110, 101]⟩, .string ⟨#[65]⟩, .string (k j)] 9)) 1 (.slice (some ⟨wb1.heap.size, 0, none⟩) 5 5) 5 (([u j, ⟨#[109, 105, 110, 105]⟩, ⟨#[110, 111, 110, 101]⟩, ⟨#[65]⟩, k j] : List ByteArray).map Value.string) := Rd.newAt #[.string (u j), .string ⟨#[109, 105, 110, 105]⟩, .string ⟨#[110, 111, 110, 101]⟩, .string ⟨#[65]⟩, .string (k j)] rfl rfl (by decide)
        have hN2 : (Value.slice (some ⟨wb1.heap.size, 0, none⟩) 5 5).ownBlock ≠ some s := hSBwb1.newAt _ _ _ (Nat.le_refl _)
        clear hK K' hBwb1 hSBwb1 hGwb1
        generalize wb1.alloc (.cells #[.string (u j), .string ⟨#[109, 105, 110, 105]⟩, .string ⟨#[110, 111, 110, 101]⟩, .string ⟨#[65]⟩, .string (k j)] 9) = wb2 at hBwb2 hSBwb2 hGwb2 hR2 ⊢
        generalize wb1.heap.size = b2 at hR2 hN2 ⊢
        refine k_one (i := 23) (by kernel_rfl) rfl fun K' hK => ?_
        refine st_call rfl (f := 20) (args := #[.pointer (some ⟨s, 0, none⟩), .slice (some ⟨b2, 0, none⟩) 5 5]) (w1 := wb2) (by go_simp) ?_
        refine (some_c _ _ _ [u j, ⟨#[109, 105, 110, 105]⟩, ⟨#[110, 111, 110, 101]⟩, ⟨#[65]⟩, k j] wb2 s (K + 8 + 1 + 1 + 1) hSBwb2 (by omega) (by decide) (by decide) hR2 hN2).mono ?_; rintro e wb3 ⟨r2, rfl, hr2, hSBwb3, hGx⟩
        have hBwb3 := hBwb2.grown hGx (by simp; omega)
        have hGwb3 := hGwb2.trans hGx
        refine ⟨_, rfl, hK _ _ (fun _ => hBwb3) ?_⟩
        clear hK K' hGx hBwb2 hSBwb2 hGwb2 hR2 hN2
        refine wpAnyK_take (i := 24) (v := .pointer (some ⟨g, j * 2, none⟩)) rfl (by decide) (by kernel_rfl) (by kernel_rfl) (by kernel_rfl) (fun _ _ _ h => h) (Or.inl ⟨by rfl, fun w _ => by go_simp⟩) hBwb3 ?_
        refine wpAnyK_take (i := 25) (v := .pointer (some ⟨g, j * 2, none⟩)) rfl (by decide) (by kernel_rfl) (by kernel_rfl) (by kernel_rfl) (fun _ _ _ h => h) (Or.inl ⟨by rfl, fun w _ => by go_simp⟩) hBwb3 ?_
        have hc1 : wb3.cell? ⟨g, j * 2, none⟩ = some (.string (k j)) := (hBwb3.cell _).trans ck
        have hf1 := hBwb3.free (j * 2)
        refine k_one (i := 26) (by kernel_rfl) rfl fun K' hK => ?_
        rw [if_pos (by rfl)]
        go_simp
        refine hK _ _ (fun h => absurd rfl h) ?_
        clear hK K' hc1 hf1
        have hBs1 : Bk (wb3.setCell ⟨g, j * 2, none⟩ (.string r1)) g 48 (cellsC (updS k j r1) u) := by rw [← cellsC_setKey _ _ _ j4]; exact hBwb3.set _ _
        have hSBs1 := hSBwb3.setCell (p := ⟨g, j * 2, none⟩) hsg (.string r1)
        have hGs1 := hGwb3.setCell (p := ⟨g, j * 2, none⟩) (.inl hgw) (.string r1)
        generalize wb3.setCell ⟨g, j * 2, none⟩ (.string r1) = ws1 at *
        refine wpAnyK_of_any _ _ _ _ (by kernel_rfl) ?_
        refine wpAny_take (i := 27) (v := .pointer (some ⟨g, j * 2, none⟩)) rfl (by kernel_rfl) (by kernel_rfl) (by kernel_rfl) (fun _ _ _ h => h) (Or.inl ⟨by rfl, ?_⟩) ?_
        · intro w; go_simp
        refine wpAny_take (i := 28) (v := .pointer (some ⟨g, j * 2 + 1, none⟩)) rfl (by kernel_rfl) (by kernel_rfl) (by kernel_rfl) (fun _ _ _ h => h) (Or.inl ⟨by rfl, ?_⟩) ?_
        · intro w; go_simp
        have hc2 : ws1.cell? ⟨g, j * 2 + 1, none⟩ = some (.string (u j)) := (hBs1.cell _).trans (cellsC_up _ _ _ j4)
        have hf2 := hBs1.free (j * 2 + 1)
        refine ready_one (i := 29) (by kernel_rfl) rfl fun K' hK => ?_
        rw [if_pos (by rfl)]
        go_simp
        refine hK _ _ ?_
        clear hK K'
        have hBs2 : Bk (ws1.setCell ⟨g, j * 2 + 1, none⟩ (.string r2)) g 48 (cellsC (updS k j r1) (updS u j r2)) := by rw [← cellsC_setUp _ _ _ j4]; exact hBs1.set _ _
        have hSBs2 := hSBs1.setCell (p := ⟨g, j * 2 + 1, none⟩) hsg (.string r2)
        have hGs2 := hGs1.setCell (p := ⟨g, j * 2 + 1, none⟩) (.inl hgw) (.string r2)
        refine wpAny_done (by kernel_rfl) ?_ _
        go_wp2_with fail
        go_ret
        exact ⟨g, _, _, rfl, hgw, hBs2, hkk.upd _ (mem5 hr1 (hkk j) (hkk j) Small.eS smA smZed), huu.upd _ (mem5 hr2 (huu j) smMini smNone smA (hkk j)), hSBs2.le (by omega), hGs2⟩
      · skip
        refine st_val rfl (v := .slice (some ⟨wb0.heap.size, 0, none⟩) 5 5) (w' := wb0.alloc (.cells #[.string (u j), .string ⟨#[109, 105, 110, 105]⟩, .string ⟨#[110, 111, 110, 101]⟩, .string ⟨#[65]⟩, .string (k j)] 9)) (by go_simp) ?_
        refine hK _ _ (fun _ => hBwb0.alloc _) ?_
        have hBwb4 := hBwb0.alloc (.cells #[.string (u j), .string ⟨#[109, 105, 110, 105]⟩, .string ⟨#[110, 111, 110, 101]⟩, .string ⟨#[65]⟩, .string (k j)] 9)
        have hSBwb4 := hSBwb0.alloc (.cells #[.string (u j), .string ⟨#[109, 105, 110, 105]⟩, .string ⟨#[110, 111, 110, 101]⟩, .string ⟨#[65]⟩, .string (k j)] 9)
        have hGwb4 := hGwb0.alloc (.cells #[.string (u j), .string ⟨#[109, 105, 110, 105]⟩, .string ⟨#[110, 111, 110, 101]⟩, .string ⟨#[65]⟩, .string (k j)] 9)
        have hR2 : Rd (wb0.alloc (.cells #[.string (u j), .string ⟨#[109, 105, 110, 105]⟩, .string ⟨#[110, 111, 110, 101]⟩, .string ⟨#[65]⟩, .string (k j)] 9)) 1 (.slice (some ⟨wb0.heap.size, 0, none⟩) 5 5) 5 (([u j, ⟨#[109, 105, 110, 105]⟩, ⟨#[110, 111, 110, 101]⟩, ⟨#[65]⟩, k j] : List ByteArray).map Value.string) := Rd.newAt #[.string (u j), .string ⟨#[109, 105, 110, 105]⟩, .string ⟨#[110, 111, 110, 101]⟩, .string ⟨#[65]⟩, .string (k j)] rfl rfl (by decide)
        have hN2 : (Value.slice (some ⟨wb0.heap.size, 0, none⟩) 5 5).ownBlock ≠ some s := hSBwb0.newAt _ _ _ (Nat.le_refl _)
        have hR1x := hR1.quiet ((G.refl wb0 none).alloc (.cells #[.string (u j), .string ⟨#[109, 105, 110, 105]⟩, .string ⟨#[110, 111, 110, 101]⟩, .string ⟨#[65]⟩, .string (k j)] 9))
        clear hK K' hBwb0 hSBwb0 hGwb0 hR1
        generalize wb0.alloc (.cells #[.string (u j), .string ⟨#[109, 105, 110, 105]⟩, .string ⟨#[110, 111, 110, 101]⟩, .string ⟨#[65]⟩, .string (k j)] 9) = wb4 at hBwb4 hSBwb4 hGwb4 hR2 hR1x ⊢
        generalize wb0.heap.size = b2 at hR2 hN2 ⊢
        have hR1 := hR1x
        clear hR1x
        refine k_one (i := 12) (by kernel_rfl) rfl fun K' hK => ?_
        refine st_call rfl (f := 20) (args := #[.pointer (some ⟨s, 0, none⟩), .slice (some ⟨b1, 0, none⟩) 5 5]) (w1 := wb4) (by go_simp) ?_
        refine (some_c _ _ _ [k j, k j, ⟨#[]⟩, ⟨#[65]⟩, ⟨#[122, 101, 100]⟩] wb4 s (K + 8 + 1 + 1) hSBwb4 (by omega) (by decide) (by decide) hR1 hN1).mono ?_; rintro e wb5 ⟨r1, rfl, hr1, hSBwb5, hGx⟩
        have hBwb5 := hBwb4.grown hGx (by simp; omega)
        have hGwb5 := hGwb4.trans hGx
        have hR2 := hR2.grown hGx (fun q e => by cases e; exact hN2)
        refine ⟨_, rfl, hK _ _ (fun _ => hBwb5) ?_⟩
        clear hK K' hGx hBwb4 hSBwb4 hGwb4 hR1 hN1
        refine k_one (i := 23) (by kernel_rfl) rfl fun K' hK => ?_
        refine st_call rfl (f := 20) (args := #[.pointer (some ⟨s, 0, none⟩), .slice (some ⟨b2, 0, none⟩) 5 5]) (w1 := wb5) (by go_simp) ?_
        refine (some_c _ _ _ [u j, ⟨#[109, 105, 110, 105]⟩, ⟨#[110, 111, 110, 101]⟩, ⟨#[65]⟩, k j] wb5 s (K + 8 + 1 + 1 + 1) hSBwb5 (by omega) (by decide) (by decide) hR2 hN2).mono ?_; rintro e wb6 ⟨r2, rfl, hr2, hSBwb6, hGx⟩
        have hBwb6 := hBwb5.grown hGx (by simp; omega)
        have hGwb6 := hGwb5.trans hGx
        refine ⟨_, rfl, hK _ _ (fun _ => hBwb6) ?_⟩
        clear hK K' hGx hBwb5 hSBwb5 hGwb5 hR2 hN2
        refine wpAnyK_take (i := 24) (v := .pointer (some ⟨g, j * 2, none⟩)) rfl (by decide) (by kernel_rfl) (by kernel_rfl) (by kernel_rfl) (fun _ _ _ h => h) (Or.inl ⟨by rfl, fun w _ => by go_simp⟩) hBwb6 ?_
        refine wpAnyK_take (i := 25) (v := .pointer (some ⟨g, j * 2, none⟩)) rfl (by decide) (by kernel_rfl) (by kernel_rfl) (by kernel_rfl) (fun _ _ _ h => h) (Or.inl ⟨by rfl, fun w _ => by go_simp⟩) hBwb6 ?_
        have hc1 : wb6.cell? ⟨g, j * 2, none⟩ = some (.string (k j)) := (hBwb6.cell _).trans ck
        have hf1 := hBwb6.free (j * 2)
        refine k_one (i := 26) (by kernel_rfl) rfl fun K' hK => ?_
        rw [if_pos (by rfl)]
        go_simp
        refine hK _ _ (fun h => absurd rfl h) ?_
        clear hK K' hc1 hf1
        have hBs1 : Bk (wb6.setCell ⟨g, j * 2, none⟩ (.string r1)) g 48 (cellsC (updS k j r1) u) := by rw [← cellsC_setKey _ _ _ j4]; exact hBwb6.set _ _
        have hSBs1 := hSBwb6.setCell (p := ⟨g, j * 2, none⟩) hsg (.string r1)
        have hGs1 := hGwb6.setCell (p := ⟨g, j * 2, none⟩) (.inl hgw) (.string r1)
        generalize wb6.setCell ⟨g, j * 2, none⟩ (.string r1) = ws1 at *
        refine wpAnyK_of_any _ _ _ _ (by kernel_rfl) ?_
        refine wpAny_take (i := 27) (v := .pointer (some ⟨g, j * 2, none⟩)) rfl (by kernel_rfl) (by kernel_rfl) (by kernel_rfl) (fun _ _ _ h => h) (Or.inl ⟨by rfl, ?_⟩) ?_
        · intro w; go_simp
        refine wpAny_take (i := 28) (v := .pointer (some ⟨g, j * 2 + 1, none⟩)) rfl (by kernel_rfl) (by kernel_rfl) (by kernel_rfl) (fun _ _ _ h => h) (Or.inl ⟨by rfl, ?_⟩) ?_
        · intro w; go_simp
        have hc2 : ws1.cell? ⟨g, j * 2 + 1, none⟩ = some (.string (u j)) := (hBs1.cell _).trans (cellsC_up _ _ _ j4)
        have hf2 := hBs1.free (j * 2 + 1)
        refine ready_one (i := 29) (by kernel_rfl) rfl fun K' hK => ?_
        rw [if_pos (by rfl)]
        go_simp
        refine hK _ _ ?_
        clear hK K'
        have hBs2 : Bk (ws1.setCell ⟨g, j * 2 + 1, none⟩ (.string r2)) g 48 (cellsC (updS k j r1) (updS u j r2)) := by rw [← cellsC_setUp _ _ _ j4]; exact hBs1.set _ _
        have hSBs2 := hSBs1.setCell (p := ⟨g, j * 2 + 1, none⟩) hsg (.string r2)
        have hGs2 := hGs1.setCell (p := ⟨g, j * 2 + 1, none⟩) (.inl hgw) (.string r2)
        refine wpAny_done (by kernel_rfl) ?_ _
        go_wp2_with fail
        go_ret
        exact ⟨g, _, _, rfl, hgw, hBs2, hkk.upd _ (mem5 hr1 (hkk j) (hkk j) Small.eS smA smZed), huu.upd _ (mem5 hr2 (huu j) smMini smNone smA (hkk j)), hSBs2.le (by omega), hGs2⟩
    · skip
      refine st_val rfl (v := .slice (some ⟨w5.heap.size, 0, none⟩) 5 5) (w' := w5.alloc (.cells #[.string (u j), .string ⟨#[109, 105, 110, 105]⟩, .string ⟨#[110, 111, 110, 101]⟩, .string ⟨#[65]⟩, .string (k j)] 9)) (by go_simp) ?_
      refine hK _ _ (fun _ => hBw5.alloc _) ?_
      have hBwb7 := hBw5.alloc (.cells #[.string (u j), .string ⟨#[109, 105, 110, 105]⟩, .string ⟨#[110, 111, 110, 101]⟩, .string ⟨#[65]⟩, .string (k j)] 9)
      have hSBwb7 := hSBw5.alloc (.cells #[.string (u j), .string ⟨#[109, 105, 110, 105]⟩, .string ⟨#[110, 111, 110, 101]⟩, .string ⟨#[65]⟩, .string (k j)] 9)
      have hGwb7 := hGw5.alloc (.cells #[.string (u j), .string ⟨#[109, 105, 110, 105]⟩, .string ⟨#[110, 111, 110, 101]⟩, .string ⟨#[65]⟩, .string (k j)] 9)
      have hR2 : Rd (w5.alloc (.cells #[.string (u j), .string ⟨#[109, 105, 110, 105]⟩, .string ⟨#[110, 111, 110, 101]⟩, .string ⟨#[65]⟩, .string (k j)] 9)) 1 (.slice (some ⟨w5.heap.size, 0, none⟩) 5 5) 5 (([u j, ⟨#[109, 105, 110, 105]⟩, ⟨#[110, 111, 110, 101]⟩, ⟨#[65]⟩, k j] : List ByteArray).map Value.string) := Rd.newAt #[.string (u j), .string ⟨#[109, 105, 110, 105]⟩, .string ⟨#[110, 111, 110, 101]⟩, .string ⟨#[65]⟩, .string (k j)] rfl rfl (by decide)
      have hN2 : (Value.slice (some ⟨w5.heap.size, 0, none⟩) 5 5).ownBlock ≠ some s := hSBw5.newAt _ _ _ (Nat.le_refl _)
      clear hK K' hBw5 hSBw5 hGw5
      generalize w5.alloc (.cells #[.string (u j), .string ⟨#[109, 105, 110, 105]⟩, .string ⟨#[110, 111, 110, 101]⟩, .string ⟨#[65]⟩, .string (k j)] 9) = wb7 at hBwb7 hSBwb7 hGwb7 hR2 ⊢
      generalize w5.heap.size = b2 at hR2 hN2 ⊢
      refine k_one (i := 11) (by kernel_rfl) rfl fun K' hK => ?_
      refine st_val rfl (v := .slice (some ⟨wb7.heap.size, 0, none⟩) 5 5) (w' := wb7.alloc (.cells #[.string (k j), .string (k j), .string ⟨#[]⟩, .string ⟨#[65]⟩, .string ⟨#[122, 101, 100]⟩] 9)) (by go_simp) ?_
      refine hK _ _ (fun _ => hBwb7.alloc _) ?_
      have hBwb8 := hBwb7.alloc (.cells #[.string (k j), .string (k j), .string ⟨#[]⟩, .string ⟨#[65]⟩, .string ⟨#[122, 101, 100]⟩] 9)
      have hSBwb8 := hSBwb7.alloc (.cells #[.string (k j), .string (k j), .string ⟨#[]⟩, .string ⟨#[65]⟩, .string ⟨#[122, 101, 100]⟩] 9)
      have hGwb8 := hGwb7.alloc (.cells #[.string (k j), .string (k j), .string ⟨#[]⟩, .string ⟨#[65]⟩, .string ⟨#[122, 101, 100]⟩] 9)
      have hR1 : Rd (wb7.alloc (.cells #[.string (k j), .string (k j), .string ⟨#[]⟩, .string ⟨#[65]⟩, .string ⟨#[122, 101, 100]⟩] 9)) 1 (.slice (some ⟨wb7.heap.size, 0, none⟩) 5 5) 5 (([k j, k j, ⟨#[]⟩, ⟨#[65]⟩, ⟨#[122, 101, 100]⟩] : List ByteArray).map Value.string) := Rd.newAt #[.string (k j), .string (k j), .string ⟨#[]⟩, .string ⟨#[65]⟩, .string ⟨#[122, 101, 100]⟩] rfl rfl (by decide)
      have hN1 : (Value.slice (some ⟨wb7.heap.size, 0, none⟩) 5 5).ownBlock ≠ some s := hSBwb7.newAt _ _ _ (Nat.le_refl _)
      have hR2x := hR2.quiet ((G.refl wb7 none).alloc (.cells #[.string (k j), .string (k j), .string ⟨#[]⟩, .string ⟨#[65]⟩, .string ⟨#[122, 101, 100]⟩] 9))
      clear hK K' hBwb7 hSBwb7 hGwb7 hR2
      generalize wb7.alloc (.cells #[.string (k j), .string (k j), .string ⟨#[]⟩, .string ⟨#[65]⟩, .string ⟨#[122, 101, 100]⟩] 9) = wb8 at hBwb8 hSBwb8 hGwb8 hR1 hR2x ⊢
      generalize wb7.heap.size = b1 at hR1 hN1 ⊢
      have hR2 := hR2x
      clear hR2x
      refine k_one (i := 12) (by kernel_rfl) rfl fun K' hK => ?_
      refine st_call rfl (f := 20) (args := #[.pointer (some ⟨s, 0, none⟩), .slice (some ⟨b1, 0, none⟩) 5 5]) (w1 := wb8) (by go_simp) ?_
      refine (some_c _ _ _ [k j, k j, ⟨#[]⟩, ⟨#[65]⟩, ⟨#[122, 101, 100]⟩] wb8 s (K + 8 + 1 + 1) hSBwb8 (by omega) (by decide) (by decide) hR1 hN1).mono ?_; rintro e wb9 ⟨r1, rfl, hr1, hSBwb9, hGx⟩
      have hBwb9 := hBwb8.grown hGx (by simp; omega)
      have hGwb9 := hGwb8.trans hGx
      have hR2 := hR2.grown hGx (fun q e => by cases e; exact hN2)
      refine ⟨_, rfl, hK _ _ (fun _ => hBwb9) ?_⟩
      clear hK K' hGx hBwb8 hSBwb8 hGwb8 hR1 hN1
      refine k_one (i := 23) (by kernel_rfl) rfl fun K' hK => ?_
      refine st_call rfl (f := 20) (args := #[.pointer (some ⟨s, 0, none⟩), .slice (some ⟨b2, 0, none⟩) 5 5]) (w1 := wb9) (by go_simp) ?_
      refine (some_c _ _ _ [u j, ⟨#[109, 105, 110, 105]⟩, ⟨#[110, 111, 110, 101]⟩, ⟨#[65]⟩, k j] wb9 s (K + 8 + 1 + 1 + 1) hSBwb9 (by omega) (by decide) (by decide) hR2 hN2).mono ?_; rintro e wb10 ⟨r2, rfl, hr2, hSBwb10, hGx⟩
      have hBwb10 := hBwb9.grown hGx (by simp; omega)
      have hGwb10 := hGwb9.trans hGx
      refine ⟨_, rfl, hK _ _ (fun _ => hBwb10) ?_⟩
      clear hK K' hGx hBwb9 hSBwb9 hGwb9 hR2 hN2
      refine wpAnyK_take (i := 24) (v := .pointer (some ⟨g, j * 2, none⟩)) rfl (by decide) (by kernel_rfl) (by kernel_rfl) (by kernel_rfl) (fun _ _ _ h => h) (Or.inl ⟨by rfl, fun w _ => by go_simp⟩) hBwb10 ?_
      refine wpAnyK_take (i := 25) (v := .pointer (some ⟨g, j * 2, none⟩)) rfl (by decide) (by kernel_rfl) (by kernel_rfl) (by kernel_rfl) (fun _ _ _ h => h) (Or.inl ⟨by rfl, fun w _ => by go_simp⟩) hBwb10 ?_
      have hc1 : wb10.cell? ⟨g, j * 2, none⟩ = some (.string (k j)) := (hBwb10.cell _).trans ck
      have hf1 := hBwb10.free (j * 2)
      refine k_one (i := 26) (by kernel_rfl) rfl fun K' hK => ?_
      rw [if_pos (by rfl)]
      go_simp
      refine hK _ _ (fun h => absurd rfl h) ?_
      clear hK K' hc1 hf1
      have hBs1 : Bk (wb10.setCell ⟨g, j * 2, none⟩ (.string r1)) g 48 (cellsC (updS k j r1) u) := by rw [← cellsC_setKey _ _ _ j4]; exact hBwb10.set _ _
      have hSBs1 := hSBwb10.setCell (p := ⟨g, j * 2, none⟩) hsg (.string r1)
      have hGs1 := hGwb10.setCell (p := ⟨g, j * 2, none⟩) (.inl hgw) (.string r1)
      generalize wb10.setCell ⟨g, j * 2, none⟩ (.string r1) = ws1 at *
      refine wpAnyK_of_any _ _ _ _ (by kernel_rfl) ?_
      refine wpAny_take (i := 27) (v := .pointer (some ⟨g, j * 2, none⟩)) rfl (by kernel_rfl) (by kernel_rfl) (by kernel_rfl) (fun _ _ _ h => h) (Or.inl ⟨by rfl, ?_⟩) ?_
      · intro w; go_simp
      refine wpAny_take (i := 28) (v := .pointer (some ⟨g, j * 2 + 1, none⟩)) rfl (by kernel_rfl) (by kernel_rfl) (by kernel_rfl) (fun _ _ _ h => h) (Or.inl ⟨by rfl, ?_⟩) ?_
      · intro w; go_simp
      have hc2 : ws1.cell? ⟨g, j * 2 + 1, none⟩ = some (.string (u j)) := (hBs1.cell _).trans (cellsC_up _ _ _ j4)
      have hf2 := hBs1.free (j * 2 + 1)
      refine ready_one (i := 29) (by kernel_rfl) rfl fun K' hK => ?_
      rw [if_pos (by rfl)]
      go_simp
      refine hK _ _ ?_
      clear hK K'
      have hBs2 : Bk (ws1.setCell ⟨g, j * 2 + 1, none⟩ (.string r2)) g 48 (cellsC (updS k j r1) (updS u j r2)) := by rw [← cellsC_setUp _ _ _ j4]; exact hBs1.set _ _
      have hSBs2 := hSBs1.setCell (p := ⟨g, j * 2 + 1, none⟩) hsg (.string r2)
      have hGs2 := hGs1.setCell (p := ⟨g, j * 2 + 1, none⟩) (.inl hgw) (.string r2)
      refine wpAny_done (by kernel_rfl) ?_ _
      go_wp2_with fail
      go_ret
      exact ⟨g, _, _, rfl, hgw, hBs2, hkk.upd _ (mem5 hr1 (hkk j) (hkk j) Small.eS smA smZed), huu.upd _ (mem5 hr2 (huu j) smMini smNone smA (hkk j)), hSBs2.le (by omega), hGs2⟩
end Go.Proofs.YtjjgohainbjecaaDoor
