/- The law ClassSteps. -/
import Derived.Test.YtjjgohainbjecaaDoorLots
import Derived.Test.YtjjgohainbjecaaDoorErrs
import Derived.Test.YtjjgohainbjecaaDoorGenD
import Derived.Test.YtjjgohainbjecaaDoorRcf
namespace Go.Proofs.YtjjgohainbjecaaDoor
open Go.RowKit

theorem Bk.rd {w : World} {g : Nat} {T : TypeId} {cs : Array Value} (h : Bk w g T cs) (z n : Nat) (hc : cs.size = n * z) (hn : n ≤ 1000) : Rd w z (.slice (some ⟨g, 0, none⟩) n n) n cs.toList := by
  refine ⟨_, n, rfl, Nat.le_refl _, by unfold maxLen; omega, by simpa using hc, (fun e => by cases e), fun b hb => ?_⟩
  obtain rfl := Option.some.inj hb
  refine ⟨rfl, h.lt, fun j u hj => ?_⟩
  rw [Nat.zero_add, h.cell]
  simpa using hj
theorem errs_one (l : List Cla) (a : ByteArray) : errsOf [clErr l, if decide (clAt l a < 0) = true then 8 else 0] = abE l a := by
  rw [clAt_neg]
  show (if clErr l = 0 then (if (if (!(upS l a).isSome) = true then (8 : Int) else 0) = 0 then 0 else (if (!(upS l a).isSome) = true then 8 else 0)) else clErr l) = _
  unfold abE
  cases (upS l a).isSome <;> simp
theorem errs_two (l : List Cla) (a b : ByteArray) : errsOf [abE l a, if decide (clAt l b < 0) = true then 8 else 0] = spE l a b := by
  rw [clAt_neg]
  show (if abE l a = 0 then (if (if (!(upS l b).isSome) = true then (8 : Int) else 0) = 0 then 0 else (if (!(upS l b).isSome) = true then 8 else 0)) else abE l a) = _
  unfold spE
  by_cases h : abE l a = 0
  · have h0 : clErr l = 0 := by
      unfold abE at h
      split at h
      · assumption
      · contradiction
    rw [if_pos h, if_pos h, show abE l b = if (upS l b).isSome = true then 0 else 8 by rw [abE, if_pos h0]]
    cases (upS l b).isSome <;> simp
  · rw [if_neg h, if_neg h]
theorem abE_zero {l : List Cla} {a : ByteArray} (h : abE l a = 0) : clErr l = 0 := by
  unfold abE at h
  split at h
  · assumption
  · contradiction
set_option maxRecDepth 100000 in
set_option maxHeartbeats 8000000 in
theorem classSteps_c (a : Option Addr) (n c : Nat) (zs : List Int) (W : World) (hr : Rd W 1 (.slice a n c) n (zs.map (Value.int .i64))) (hz : ∀ z ∈ zs, -9223372036854775808 ≤ z ∧ z ≤ 9223372036854775807) (hg : Gl W) :
    Calls Tryd.prog 3 #[.slice a n c] W fun e W' => e = .returned (.bool true) ∧ G W W' none := by
  have hSB : SB (W.alloc (.cells #[.slice a n c, .int .i64 0] 25)) W.heap.size 0 := by
    have hB := Bk.new W 25 #[.slice a n c, .int .i64 0]
    refine ⟨0, a, n, c, zs, Nat.le_refl _, hr.quiet ((G.refl _ _).alloc _), fun b e => ?_, hz, hB.cell 0, hB.cell 1, hB.free 1, hB.lt⟩
    obtain ⟨a', c', e', r1, r2, r3, r4, r5⟩ := hr
    cases e'
    exact (r5 b e).2.1
  have hG0 : G W (W.alloc (.cells #[.slice a n c, .int .i64 0] 25)) (some W.heap.size) := (G.refl _ _).alloc _
  have hg0 : Gl (W.alloc (.cells #[.slice a n c, .int .i64 0] 25)) := hg.quiet ((G.refl _ _).alloc _)
  have hgW := hg.2.2
  clear hr hz
  go_enter Tryd.func3, Tryd.ntmps3
  go_wp2_with fail
  refine (anyClasses_c _ W.heap.size 0 hSB (by omega)).mono ?_; rintro e w1 ⟨g, k, u, rfl, hgw, hB1, hkk, huu, hSB1, hG1⟩
  have hg1 := hg0.grown hG1 (fun e => by have := Option.some.inj e; omega)
  have hG01 := hG0.trans hG1
  have hgs : W.heap.size < g := by simp at hgw; omega
  clear hSB hG0 hG1 hg0 hg
  go_wp2_with fail
  refine (classKey_c _ W.heap.size _ hSB1 (by omega)).mono ?_; rintro e w2 ⟨x, rfl, hx, hSB2, hG2⟩
  have hg2 := hg1.grown hG2 (fun e => by have := Option.some.inj e; omega)
  have hB2 := hB1.grown hG2 (fun e => by have := Option.some.inj e; omega)
  have hG02 := hG01.trans hG2
  clear hSB1 hG01 hG2 hg1 hB1
  go_wp2_with fail
  refine (classKey_c _ W.heap.size _ hSB2 (by omega)).mono ?_; rintro e w3 ⟨y, rfl, hy, hSB3, hG3⟩
  have hg3 := hg2.grown hG3 (fun e => by have := Option.some.inj e; omega)
  have hB3 := hB2.grown hG3 (fun e => by have := Option.some.inj e; omega)
  have hG03 := G.own (hG02.trans hG3) (Nat.le_refl _)
  clear hSB2 hG02 hG3 hg2 hB2 hSB3
  have hrd : Rd w3 2 (.slice (some ⟨g, 0, none⟩) 4 4) (clsC k u).length (clL (clsC k u)) := by
    rw [clsC_cells]
    exact hB3.rd 2 4 rfl (by omega)
  have hlok := clsC_ok hkk huu
  have hln : (clsC k u).length ≤ 100 := by show 4 ≤ 100; omega
  clear hB3 hkk huu hgs hgw
  generalize clsC k u = l at hrd hlok hln
  generalize Value.slice (some ⟨g, 0, none⟩) 4 4 = v at hrd ⊢
  go_wp2_with fail
  refine (above_c v l x _ hrd hlok hln hx).mono ?_; rintro e w4 ⟨up, rfl, hup, hG4⟩
  have hrd4 := hrd.quiet hG4
  have hg4 := hg3.quiet hG4
  have hG04 := hG03.trans hG4
  clear hrd hg3 hG03 hG4
  go_wp2_with fail
  refine (steps_c v l x y _ hrd4 hlok hln hx hy).mono ?_; rintro e w5 ⟨rfl, hG5⟩
  have hrd5 := hrd4.quiet hG5
  have hg5 := hg4.quiet hG5
  have hup5 := hup.quiet hG5
  have hG05 := hG04.trans hG5
  clear hrd4 hg4 hG04 hG5 hup
  go_wp2_with fail
  refine (classesFault_c v l _ hrd5 hlok hln).mono ?_; rintro e w6 ⟨rfl, hG6⟩
  have hrd6 := hrd5.quiet hG6
  have hg6 := hg5.quiet hG6
  have hup6 := hup5.quiet hG6
  have hG06 := hG05.trans hG6
  clear hrd5 hg5 hG05 hG6 hup5
  go_wp2_with fail
  refine (classAt_c v l x _ hrd6 (by omega)).mono ?_; rintro e w7 ⟨rfl, hG7⟩
  have hrd7 := hrd6.quiet hG7
  have hg7 := hg6.quiet hG7
  have hup7 := hup6.quiet hG7
  have hG07 := hG06.trans hG7
  clear hrd6 hg6 hG06 hG7 hup6
  go_wp2_with fail
  refine (when_c _ _ _).mono ?_; rintro e w' ⟨rfl, rfl⟩
  have hqx := errs_one l x
  generalize (if decide (clAt l x < 0) = true then (8 : Int) else 0) = qx at hqx ⊢
  go_wp2_with fail
  refine (errs_c [clErr l, qx] _ _ (Rd.new #[.int .i64 (clErr l), .int .i64 qx] rfl (by show 2 ≤ maxLen; decide)) (by simp)).mono ?_; rintro e w' ⟨rfl, rfl⟩
  rw [hqx]
  have hA8 := (G.refl w7 none).alloc (.cells #[.int .i64 (clErr l), .int .i64 qx] 30)
  generalize w7.alloc (.cells #[.int .i64 (clErr l), .int .i64 qx] 30) = w8 at hA8 ⊢
  have hrd8 := hrd7.quiet hA8
  have hg8 := hg7.quiet hA8
  have hup8 := hup7.quiet hA8
  have hG08 := hG07.trans hA8
  clear hrd7 hg7 hG07 hA8 hup7
  go_wp2_with fail
  refine (classAt_c v l y _ hrd8 (by omega)).mono ?_; rintro e w9 ⟨rfl, hG9⟩
  have hrd9 := hrd8.quiet hG9
  have hg9 := hg8.quiet hG9
  have hup9 := hup8.quiet hG9
  have hG09 := hG08.trans hG9
  clear hrd8 hg8 hG08 hG9 hup8
  go_wp2_with fail
  refine (when_c _ _ _).mono ?_; rintro e w' ⟨rfl, rfl⟩
  have hqy := errs_two l x y
  generalize (if decide (clAt l y < 0) = true then (8 : Int) else 0) = qy at hqy ⊢
  go_wp2_with fail
  refine (errs_c [abE l x, qy] _ _ (Rd.new #[.int .i64 (abE l x), .int .i64 qy] rfl (by show 2 ≤ maxLen; decide)) (by simp)).mono ?_; rintro e w' ⟨rfl, rfl⟩
  rw [hqy]
  have hA10 := (G.refl w9 none).alloc (.cells #[.int .i64 (abE l x), .int .i64 qy] 30)
  generalize w9.alloc (.cells #[.int .i64 (abE l x), .int .i64 qy] 30) = w10 at hA10 ⊢
  have hrd10 := hrd9.quiet hA10
  have hg10 := hg9.quiet hA10
  have hup10 := hup9.quiet hA10
  have hG010 := hG09.trans hA10
  clear hrd9 hg9 hG09 hA10 hup9
  go_wp2_with fail
  refine (checkClasses_c v l _ hrd10 hlok (by omega)).mono ?_; rintro e w11 ⟨rfl, hG11⟩
  have hrd11 := hrd10.quiet hG11
  have hg11 := hg10.quiet hG11
  have hup11 := hup10.quiet hG11
  have hG011 := hG010.trans hG11
  clear hrd10 hg10 hG010 hG11 hup10
  by_cases h1 : abE l x = 0
  · have h0 := abE_zero h1
    have hri := (ck_rise _ _ (clErr_parts h0).1).1
    have hal : abL l x = upsK (upS l) (l.length + 1) x := by rw [abL, if_pos h1]
    rw [hal] at hup11
    have hul := upsK_len (upS l) (l.length + 1) x
    have h1' : (abE l x != 0) = false := by rw [h1]; rfl
    by_cases h2 : spE l x y = 0
    · have hsn : spN l x y = max 0 (spI l x y) := by
        rw [spN, if_pos h2]
        split <;> omega
      have hsb : spB l x y = decide (0 ≤ spI l x y) := by rw [spB, if_pos h2]
      rw [h1, h2, h0, hsn, hsb]
      clear hal h1' hsn hsb
      go_wp2_with fail
      refine (ups_c v l x _ hrd11 hln hri).mono ?_; rintro e w12 ⟨z, rfl, hown, hG12⟩
      have hrd12 := hrd11.quiet hG12
      have hg12 := hg11.quiet hG12
      have hup12 := hup11.quiet hG12
      have hG012 := hG011.trans hG12
      clear hrd11 hg11 hG011 hG12 hup11
      go_wp2_with fail
      refine (sEqual_c up z _ _ hup12 (OwnSs.rd hown) (by omega)).mono ?_; rintro e w13 ⟨rfl, hG13⟩
      have hrd13 := hrd12.quiet hG13
      have hg13 := hg12.quiet hG13
      have hG013 := hG012.trans hG13
      clear hrd12 hg12 hG012 hG13 hup12 hown
      go_wp2_with fail
      refine (stepsOf_c v l x y _ hrd13 hln hri).mono ?_; rintro e w14 ⟨rfl, hG14⟩
      have hg14 := hg13.quiet hG14
      have hG014 := hG013.trans hG14
      clear hrd13 hg13 hG013 hG14
      generalize max 0 (spI l x y) = N
      generalize decide (0 ≤ spI l x y) = B
      go_wp2_with fail
      refine (lots_c _ hg14).mono ?_; rintro e w15 ⟨rfl, hG15⟩
      go_wp2_with fail
      go_ret
      exact ⟨rfl, hG014.trans hG15⟩
    · have hsn : spN l x y = 0 := by rw [spN, if_neg h2]
      have hsb : spB l x y = false := by rw [spB, if_neg h2]
      have h2' : (spE l x y != 0) = true := by rw [bne_iff_ne]; exact h2
      rw [h1, h0, hsn, hsb]
      clear hal h1' hsn hsb h2
      generalize spE l x y = E2 at h2' ⊢
      go_wp2_with fail
      refine (ups_c v l x _ hrd11 hln hri).mono ?_; rintro e w12 ⟨z, rfl, hown, hG12⟩
      have hg12 := hg11.quiet hG12
      have hup12 := hup11.quiet hG12
      have hG012 := hG011.trans hG12
      clear hrd11 hg11 hG011 hG12 hup11
      go_wp2_with fail
      refine (sEqual_c up z _ _ hup12 (OwnSs.rd hown) (by omega)).mono ?_; rintro e w13 ⟨rfl, hG13⟩
      have hg13 := hg12.quiet hG13
      have hG013 := hG012.trans hG13
      clear hg12 hG012 hG13 hup12 hown
      go_wp2_with fail
      refine (lots_c _ hg13).mono ?_; rintro e w15 ⟨rfl, hG15⟩
      go_wp2_with fail
      go_ret
      exact ⟨rfl, hG013.trans hG15⟩
  · have h2 : spE l x y = abE l x := by rw [spE, if_neg h1]
    have hsn : spN l x y = 0 := by rw [spN, if_neg (by rw [h2]; exact h1)]
    have hsb : spB l x y = false := by rw [spB, if_neg (by rw [h2]; exact h1)]
    have hal : abL l x = [] := by rw [abL, if_neg h1]
    rw [hal] at hup11
    rw [h2, hsn, hsb]
    obtain ⟨ua, uc, rfl, _⟩ := hup11
    have h1' : (abE l x != 0) = true := by rw [bne_iff_ne]; exact h1
    have h1'' : (abE l x == 0) = false := by simpa using h1
    clear h1 h2 hsn hsb hal
    simp only [List.length_nil]
    generalize abE l x = E1 at h1' h1'' ⊢
    generalize clErr l = E0
    go_wp2_with fail
    refine (lots_c _ hg11).mono ?_; rintro e w15 ⟨rfl, hG15⟩
    go_wp2_with fail
    go_ret
    exact ⟨rfl, hG011.trans hG15⟩
end Go.Proofs.YtjjgohainbjecaaDoor
