/- The law StationHours, its first statements. -/
import Derived.Test.YtjdkdnnbckogjaaDoorLots
import Derived.Test.YtjdkdnnbckogjaaDoorErrs
import Derived.Test.YtjdkdnnbckogjaaDoorReg
import Derived.Deep.DeepCutAuto
namespace Go.Proofs.YtjdkdnnbckogjaaDoor
open Go.RowKit

/-- What stands throughout: nothing old has turned; the station; the window; the table. -/
def HInv (W : World) (b4 b6 : Nat) (r : ByteArray) (h : Nat → Int) (x y : Int) (w : World) : Prop :=
  G W w none ∧ Bk w b4 30 (stC r h) ∧ Bk w b6 27 #[.int .i64 x, .int .i64 y] ∧ Gl w ∧ W.heap.size ≤ b4 ∧ W.heap.size ≤ b6 ∧ 0 < W.heap.size
theorem HInv.grown {W w w' : World} {b4 b6 : Nat} {r : ByteArray} {h : Nat → Int} {x y : Int} {s : Option Nat} (hI : HInv W b4 b6 r h x y w) (hg : G w w' s) (h4 : s ≠ some b4) (h6 : s ≠ some b6) (hs : ∀ k, s = some k → W.heap.size ≤ k) : HInv W b4 b6 r h x y w' := by
  obtain ⟨i1, i2, i3, i4, i5, i6, i7⟩ := hI
  exact ⟨i1.other hg (fun j e => .inl (hs j e)), i2.grown hg (fun e => h4 e.symm), i3.grown hg (fun e => h6 e.symm), i4.grown hg (fun e => by have := hs _ e; omega), i5, i6, i7⟩
theorem HInv.quiet {W w w' : World} {b4 b6 : Nat} {r : ByteArray} {h : Nat → Int} {x y : Int} (hI : HInv W b4 b6 r h x y w) (hg : G w w' none) : HInv W b4 b6 r h x y w' :=
  hI.grown hg (by simp) (by simp) (fun k e => by cases e)
/-- One station more. -/
theorem app_fin {W w : World} {b4 b6 : Nat} {r : ByteArray} {h : Nat → Int} {x y : Int} {o : Oper} {a : Act} {K : Act → World → Prop} {Q : Exit → Act → World → Prop} (sx xx : Operand)
    (ho : o.op = .call { callee := .builtin .append, args := #[sx, xx], argTypes := #[34, 34] }) (base : Nat) (v : Value) (l : List Sta) (hs : a.eval sx = v) (hown : OwnSts w base v l) (g : Nat) (hb : Bk w g 30 (stC r h))
    (hx : a.eval xx = .slice (some ⟨g, 0, none⟩) 1 1) (hl : l.length ≤ 1000) (hbase : base ≤ w.heap.size) (hI : HInv W b4 b6 r h x y w) (h4 : b4 < base) (h6 : b6 < base) (hW : W.heap.size ≤ base)
    (hK : ∀ v' w', Rd w' 15 v' (l ++ [(r, h)]).length (stL (l ++ [(r, h)])) → HInv W b4 b6 r h x y w' → K (a.put o.dst v') w') : o.wp Tryd.prog a w K Q := by
  obtain ⟨i0, hi, hz0, hz1, hz2⟩ := info_parts st_row
  refine wp_append_own w sx xx 34 ho base 30 i0 _ 15 128 Tryd.underlying34 hi hz0 hz1 hz2 rfl (by decide) v l.length (stL l) hs hown ⟨g, 0, none⟩ 1 1 (stC r h).toList hx rfl hb.at_ (stC_one r h) (by unfold maxLen; omega) (by omega) hbase ?_
  intro v' w' h1 h2 _
  have hob := fun r e => (World.ownsRow.lt hown r e).1
  refine hK v' w' ?_ (hI.grown h2 (fun e => by have := hob _ e; omega) (fun e => by have := hob _ e; omega) (fun k e => by have := hob _ e; omega))
  have hr := Rd.of_owns h1
  rw [List.length_append, stL_snoc]
  exact hr
theorem OwnSts.low {w : World} {base b' : Nat} {v : Value} {l : List Sta} (h : OwnSts w base v l) (hb : b' ≤ base) : OwnSts w b' v l := by
  obtain ⟨h1, h2⟩ := h
  rcases h2 with ⟨rfl, h3⟩ | ⟨g, cap, cur, rfl, h3, h4, h5, h6, h7, h8⟩
  · exact ⟨h1, .inl ⟨rfl, h3⟩⟩
  · exact ⟨h1, .inr ⟨g, cap, cur, rfl, Nat.le_trans hb h3, h4, h5, h6, h7, h8⟩⟩
theorem minE_win {r : ByteArray} {h : Nat → Int} {x y : Int} (h0 : minE r h x y = 0) : 0 ≤ x ∧ 0 ≤ y ∧ (x ≤ y ∧ y ≤ 5761440) ∧ minR r h x y = openIn h x.toNat y.toNat := by
  have hm : minR r h x y = openIn h x.toNat y.toNat := by simp [minR, h0]
  unfold minE at h0
  split at h0
  · unfold winE at h0
    split at h0
    · rename_i hw
      simp only [winB, Bool.and_eq_true, decide_eq_true_eq] at hw
      exact ⟨hw.1.1, by omega, ⟨hw.1.2, hw.2⟩, hm⟩
    · omega
  · contradiction
def StRes (W : World) (b4 b6 : Nat) (r : ByteArray) (h : Nat → Int) (x y : Int) (v : Value) (w : World) : Prop :=
  ∃ l : List Sta, Rd w 15 v l.length (stL l) ∧ KeysOk l ∧ l.length ≤ 4 ∧ HInv W b4 b6 r h x y w
theorem stkeys_small {k : ByteArray} (h : k ∈ StationKeys) : k.size ≤ 9223372036854775807 := by
  have : k.size ≤ 10 := by
    unfold StationKeys at h
    simp only [List.mem_cons, List.mem_nil_iff, or_false] at h
    rcases h with rfl | rfl | rfl | rfl | rfl | rfl <;> decide
  omega
theorem stskeys_small {k : ByteArray} (h : k ∈ StsKeys) : k.size ≤ 9223372036854775807 := by
  have : k.size ≤ 10 := by
    unfold StsKeys at h
    simp only [List.mem_cons, List.mem_nil_iff, or_false] at h
    rcases h with rfl | rfl | rfl <;> decide
  omega
set_option maxRecDepth 100000 in
set_option maxHeartbeats 4000000 in
theorem stationHours_c (a : Option Addr) (n c : Nat) (zs : List Int) (W : World) (hr : Rd W 1 (.slice a n c) n (zs.map (Value.int .i64))) (hz : ∀ z ∈ zs, -9223372036854775808 ≤ z ∧ z ≤ 9223372036854775807) (hg : Gl W) :
    Calls Tryd.prog 3 #[.slice a n c] W fun e w' => e = .returned (.bool true) ∧ G W w' none := by
  have hSB : SB (W.alloc (.cells #[.slice a n c, .int .i64 0] 25)) W.heap.size 0 := by
    have hB := Bk.new W 25 #[.slice a n c, .int .i64 0]
    refine ⟨0, a, n, c, zs, Nat.le_refl _, hr.quiet ((G.refl _ _).alloc _), fun b e => ?_, hz, hB.cell 0, hB.cell 1, hB.free 1, hB.lt⟩
    obtain ⟨a', c', e', r1, r2, r3, r4, r5⟩ := hr
    cases e'
    exact (r5 b e).2.1
  have hG0 : G W (W.alloc (.cells #[.slice a n c, .int .i64 0] 25)) (some W.heap.size) := (G.refl _ _).alloc _
  have hg0 : Gl (W.alloc (.cells #[.slice a n c, .int .i64 0] 25)) := hg.quiet ((G.refl _ _).alloc _)
  have hgW := hg.2.2
  clear hr hz
  go_enter Tryd.func3, Tryd.ntmps3
  go_wp2_with fail
  refine (station_c _ W.heap.size 0 hSB (by omega)).mono ?_; rintro e w1 ⟨r, h, rfl, hr, hHB, hSB1, hG1⟩
  have hg1 := hg0.grown hG1 (fun e => by have := Option.some.inj e; omega)
  have hG01 := hG0.trans hG1
  clear hSB hG0 hG1 hg0 hg
  go_wp2_with fail
  refine (moment_c _ W.heap.size _ hSB1 (by omega)).mono ?_; rintro e w2 ⟨t, rfl, ht0, ht1, hSB2, hG2⟩
  have hg2 := hg1.grown hG2 (fun e => by have := Option.some.inj e; omega)
  have hG02 := hG01.trans hG2
  clear hSB1 hG01 hG2 hg1
  go_wp2_with fail
  refine (window_c _ W.heap.size _ hSB2 (by omega)).mono ?_; rintro e w3 ⟨x, y, rfl, x0, x1, y0, y1, hSB3, hG3⟩
  have hg3 := hg2.grown hG3 (fun e => by have := Option.some.inj e; omega)
  have hG03 := hG02.trans hG3
  clear hSB2 hG02 hG3 hg2
  have hz3 := hSB3.lt
  have hB0 := (Bk.new w3 30 (stC ⟨#[]⟩ (fun _ => 0))).alloc (.cells #[.int .i64 0, .int .i64 0] 27)
  have hB6 := (Bk.newAt (w := w3.alloc (.cells (stC ⟨#[]⟩ (fun _ => 0)) 30)) (b := w3.heap.size + 1) (by simp) 27 #[.int .i64 0, .int .i64 0]).farRow (k := w3.heap.size) (by omega) (stC r h)
  have hI : HInv W w3.heap.size (w3.heap.size + 1) r h x y ((((w3.alloc (.cells (stC ⟨#[]⟩ (fun _ => 0)) 30)).alloc (.cells #[.int .i64 0, .int .i64 0] 27)).setRow w3.heap.size (stC r h)).setRow (w3.heap.size + 1) #[.int .i64 x, .int .i64 y]) := by
    refine ⟨?_, (hB0.setRow _).farRow (by omega) _, hB6.setRow _, ?_, by omega, by omega, hgW⟩
    · exact G.own (((((hG03.alloc _).alloc _).setRow (.inl (by omega)) _).setRow (.inl (by omega)) _)) (Nat.le_refl _)
    · exact (((hg3.quiet (((G.refl _ _).alloc _).alloc _)).grown (grownBy_setRow _ _ _) (fun e => by have := Option.some.inj e; omega))).grown (grownBy_setRow _ _ _) (fun e => by have := Option.some.inj e; omega)
  have hSB4 : SB ((((w3.alloc (.cells (stC ⟨#[]⟩ (fun _ => 0)) 30)).alloc (.cells #[.int .i64 0, .int .i64 0] 27)).setRow w3.heap.size (stC r h)).setRow (w3.heap.size + 1) #[.int .i64 x, .int .i64 y]) W.heap.size (0 + 40 + 1 + 8) := (((hSB3.alloc _).alloc _).setRow hz3 _).setRow (by omega) _
  have hsz : w3.heap.size + 2 ≤ ((((w3.alloc (.cells (stC ⟨#[]⟩ (fun _ => 0)) 30)).alloc (.cells #[.int .i64 0, .int .i64 0] 27)).setRow w3.heap.size (stC r h)).setRow (w3.heap.size + 1) #[.int .i64 x, .int .i64 y]).heap.size := by simp
  clear hSB3 hG03 hg3
  go_wp2_with (first | (refine wpList_store_row rfl 30 _ _ rfl w3.heap.size (stC r h) rfl rfl 30 _ hB0 (st_info _ _) rfl (st_one _ _) ?_) | (refine wpList_store_row rfl 27 _ _ rfl (w3.heap.size + 1) #[.int .i64 x, .int .i64 y] rfl rfl 27 _ hB6 (wn_info _ _) rfl (wn_one _ _) ?_))
  clear hB0 hB6
  generalize w3.heap.size = b4 at hI hSB4 hz3 hsz ⊢
  go_frame
  generalize hW4 : ((((w3.alloc (.cells (stC ⟨#[]⟩ (fun _ => 0)) 30)).alloc (.cells #[.int .i64 0, .int .i64 0] 27)).setRow b4 (stC r h)).setRow (b4 + 1) #[.int .i64 x, .int .i64 y]) = w4 at hI hSB4 hsz
  have hW5 : ((((w3.alloc (.cells #[.string ⟨#[]⟩, .int .i64 0, .int .i64 0, .int .i64 0, .int .i64 0, .int .i64 0, .int .i64 0, .int .i64 0, .int .i64 0, .int .i64 0, .int .i64 0, .int .i64 0, .int .i64 0, .int .i64 0, .int .i64 0] 30)).alloc (.cells #[.int .i64 0, .int .i64 0] 27)).setRow b4 (stC r h)).setRow (b4 + 1) #[.int .i64 x, .int .i64 y]) = w4 := hW4
  rw [hW5]
  clear hW4 hW5
  go_cut [7] (fun s7 wx => StRes W b4 (b4 + 1) r h x y s7 wx)
  case first =>
    refine wp_region_any (by kernel_rfl) ?_
    change wpAny _ _ _ _ _ _ _ (World.drew _)
    have hI0 := hI.quiet ((G.refl w4 none).drew)
    have hSB0 := hSB4.quiet ((G.refl w4 none).drew)
    have hsz0 : b4 + 2 ≤ w4.drew.heap.size := hsz
    clear hI hSB4 hsz
    generalize w4.drew = w5 at hI0 hSB0 hsz0 ⊢
    refine wpAny_take (i := 0) (v := .pointer (some ⟨W.heap.size, 0, none⟩)) rfl (by kernel_rfl) (by kernel_rfl) (by kernel_rfl) (fun _ _ _ h => h) (Or.inl ⟨by rfl, ?_⟩) ?_
    · intro w; go_simp
    refine ready_two (i := 1) (j := 2) (by kernel_rfl) rfl rfl (fun K hK => ?_) (fun K hK => ?_)
    · refine st_call rfl (f := 8) (args := #[.pointer (some ⟨W.heap.size, 0, none⟩)]) (w1 := w5) (by go_simp) ?_
      refine (stations_c w5 W.heap.size _ hSB0 (by omega)).mono ?_; rintro e w6 ⟨v, l, rfl, hl3, hown, hkeys, hSB6, hG6⟩
      refine ⟨v, rfl, hK _ _ ?_⟩
      clear hK K
      have hI6 := hI0.grown hG6 (fun e => by have := Option.some.inj e; omega) (fun e => by have := Option.some.inj e; omega) (fun k e => by have := Option.some.inj e; omega)
      have hsz6 := hG6.size
      have hown := OwnSts.low hown (Nat.le_succ _)
      refine ready_one (i := 2) (by kernel_rfl) rfl fun K hK => ?_
      refine st_val rfl (v := .agg #[.string r, .int .i64 (h 0), .int .i64 (h 1), .int .i64 (h 2), .int .i64 (h 3), .int .i64 (h 4), .int .i64 (h 5), .int .i64 (h 6), .int .i64 (h 7), .int .i64 (h 8), .int .i64 (h 9), .int .i64 (h 10), .int .i64 (h 11), .int .i64 (h 12), .int .i64 (h 13)]) (w' := w6) (run_load_row rfl b4 rfl 30 _ _ hI6.2.1 Tryd.underlying30 rfl (st_info r h)) ?_
      refine hK _ _ ?_
      clear hK K
      refine ready_one (i := 3) (by kernel_rfl) rfl fun K hK => ?_
      refine st_val rfl (v := .slice (some ⟨w6.heap.size, 0, none⟩) 1 1) (w' := w6.alloc (.cells (stC r h) 30)) (by go_simp; rfl) ?_
      refine hK _ _ ?_
      clear hK K
      refine ready_one (i := 4) (by kernel_rfl) rfl fun K hK => ?_
      refine st_wp rfl (app_fin _ _ rfl w5.heap.size v l rfl (hown.alloc _) w6.heap.size (Bk.new w6 _ _) rfl (by omega) (by simp; omega) (hI6.quiet ((G.refl _ _).alloc _)) (by omega) (by omega) (by have := hI6.2.2.2.2.1; omega) fun v' w9 hrd hI9 => ?_)
      refine hK _ _ ?_
      clear hK K
      refine ready_one (i := 5) (by kernel_rfl) rfl fun K hK => ?_
      refine st_val rfl (v := v') (w' := w9) (by go_simp) ?_
      refine hK _ _ ?_
      clear hK K
      refine wpAny_done (by kernel_rfl) ?_ _
      go_wp2_with fail
      go_meet
      refine ⟨l ++ [(r, h)], hrd, ?_, by simp; omega, hI9⟩
      intro p hp
      rcases List.mem_append.1 hp with hp | hp
      · exact ⟨stskeys_small (hkeys p hp).1, (hkeys p hp).2⟩
      · obtain rfl := List.mem_singleton.1 hp
        exact ⟨stkeys_small hr, hHB⟩
    · refine st_val rfl (v := .agg #[.string r, .int .i64 (h 0), .int .i64 (h 1), .int .i64 (h 2), .int .i64 (h 3), .int .i64 (h 4), .int .i64 (h 5), .int .i64 (h 6), .int .i64 (h 7), .int .i64 (h 8), .int .i64 (h 9), .int .i64 (h 10), .int .i64 (h 11), .int .i64 (h 12), .int .i64 (h 13)]) (w' := w5) (run_load_row rfl b4 rfl 30 _ _ hI0.2.1 Tryd.underlying30 rfl (st_info r h)) ?_
      refine hK _ _ ?_
      clear hK K
      refine ready_two (i := 1) (j := 3) (by kernel_rfl) rfl rfl (fun K hK => ?_) (fun K hK => ?_)
      · refine st_call rfl (f := 8) (args := #[.pointer (some ⟨W.heap.size, 0, none⟩)]) (w1 := w5) (by go_simp) ?_
        refine (stations_c w5 W.heap.size _ hSB0 (by omega)).mono ?_; rintro e w6 ⟨v, l, rfl, hl3, hown, hkeys, hSB6, hG6⟩
        refine ⟨v, rfl, hK _ _ ?_⟩
        clear hK K
        have hI6 := hI0.grown hG6 (fun e => by have := Option.some.inj e; omega) (fun e => by have := Option.some.inj e; omega) (fun k e => by have := Option.some.inj e; omega)
        have hsz6 := hG6.size
        have hown := OwnSts.low hown (Nat.le_succ _)
        refine ready_one (i := 3) (by kernel_rfl) rfl fun K hK => ?_
        refine st_val rfl (v := .slice (some ⟨w6.heap.size, 0, none⟩) 1 1) (w' := w6.alloc (.cells (stC r h) 30)) (by go_simp; rfl) ?_
        refine hK _ _ ?_
        clear hK K
        refine ready_one (i := 4) (by kernel_rfl) rfl fun K hK => ?_
        refine st_wp rfl (app_fin _ _ rfl w5.heap.size v l rfl (hown.alloc _) w6.heap.size (Bk.new w6 _ _) rfl (by omega) (by simp; omega) (hI6.quiet ((G.refl _ _).alloc _)) (by omega) (by omega) (by have := hI6.2.2.2.2.1; omega) fun v' w9 hrd hI9 => ?_)
        refine hK _ _ ?_
        clear hK K
        refine ready_one (i := 5) (by kernel_rfl) rfl fun K hK => ?_
        refine st_val rfl (v := v') (w' := w9) (by go_simp) ?_
        refine hK _ _ ?_
        clear hK K
        refine wpAny_done (by kernel_rfl) ?_ _
        go_wp2_with fail
        go_meet
        refine ⟨l ++ [(r, h)], hrd, ?_, by simp; omega, hI9⟩
        intro p hp
        rcases List.mem_append.1 hp with hp | hp
        · exact ⟨stskeys_small (hkeys p hp).1, (hkeys p hp).2⟩
        · obtain rfl := List.mem_singleton.1 hp
          exact ⟨stkeys_small hr, hHB⟩
      · refine st_val rfl (v := .slice (some ⟨w5.heap.size, 0, none⟩) 1 1) (w' := w5.alloc (.cells (stC r h) 30)) (by go_simp; rfl) ?_
        refine hK _ _ ?_
        clear hK K
        have hB7 := Bk.new w5 30 (stC r h)
        have hI7 := hI0.quiet ((G.refl w5 none).alloc (.cells (stC r h) 30))
        have hSB7 := hSB0.alloc (.cells (stC r h) 30)
        have hz7 : (w5.alloc (.cells (stC r h) 30)).heap.size = w5.heap.size + 1 := by simp
        generalize w5.alloc (.cells (stC r h) 30) = w7 at hB7 hI7 hSB7 hz7 ⊢
        refine ready_one (i := 1) (by kernel_rfl) rfl fun K hK => ?_
        refine st_call rfl (f := 8) (args := #[.pointer (some ⟨W.heap.size, 0, none⟩)]) (w1 := w7) (by go_simp) ?_
        refine (stations_c w7 W.heap.size _ hSB7 (by omega)).mono ?_; rintro e w6 ⟨v, l, rfl, hl3, hown, hkeys, hSB6, hG6⟩
        refine ⟨v, rfl, hK _ _ ?_⟩
        clear hK K
        have hI6 := hI7.grown hG6 (fun e => by have := Option.some.inj e; omega) (fun e => by have := Option.some.inj e; omega) (fun k e => by have := Option.some.inj e; omega)
        have hsz6 := hG6.size
        have hown := OwnSts.low hown (Nat.le_succ _)
        refine ready_one (i := 4) (by kernel_rfl) rfl fun K hK => ?_
        refine st_wp rfl (app_fin _ _ rfl w7.heap.size v l rfl hown w5.heap.size (hB7.grown hG6 (fun e => by have := Option.some.inj e; omega)) rfl (by omega) (by omega) hI6 (by omega) (by omega) (by have := hI6.2.2.2.2.1; omega) fun v' w9 hrd hI9 => ?_)
        refine hK _ _ ?_
        clear hK K
        refine ready_one (i := 5) (by kernel_rfl) rfl fun K hK => ?_
        refine st_val rfl (v := v') (w' := w9) (by go_simp) ?_
        refine hK _ _ ?_
        clear hK K
        refine wpAny_done (by kernel_rfl) ?_ _
        go_wp2_with fail
        go_meet
        refine ⟨l ++ [(r, h)], hrd, ?_, by simp; omega, hI9⟩
        intro p hp
        rcases List.mem_append.1 hp with hp | hp
        · exact ⟨stskeys_small (hkeys p hp).1, (hkeys p hp).2⟩
        · obtain rfl := List.mem_singleton.1 hp
          exact ⟨stkeys_small hr, hHB⟩
  case rest =>
    obtain ⟨l, hrd, hkeys, hl4, hI⟩ := hcut
    have hrs := stkeys_small hr
    have HE := Lib.hid (errs_at r h t)
    have HM := Lib.hid (errs_min r h x y)
    have HB := Lib.hid hHB
    have hB4 := hI.2.1
    clear hr hHB hz3
    go_wp2_with (refine wpList_load_row rfl 30 _ rfl b4 rfl 30 (stC r h) (0, 0) _ hB4 Tryd.underlying30 rfl (st_info _ _) ?_)
    refine (isOpen_c r h t _ hrs HB.out).mono ?_; rintro e w1 ⟨rfl, hG1⟩
    have hI1 := hI.quiet hG1
    have hrd1 := hrd.quiet hG1
    clear hI hrd hB4 hG1
    have hB4 := hI1.2.1
    go_wp2_with (refine wpList_load_row rfl 30 _ rfl b4 rfl 30 (stC r h) (0, 0) _ hB4 Tryd.underlying30 rfl (st_info _ _) ?_)
    refine (nextOpen_c r h t _ hrs HB.out).mono ?_; rintro e w2 ⟨rfl, hG2⟩
    have hI2 := hI1.quiet hG2
    have hrd2 := hrd1.quiet hG2
    clear hI1 hrd1 hB4 hG2
    have hB4 := hI2.2.1
    have hB6 := hI2.2.2.1
    go_wp2_with (first | (refine wpList_load_row rfl 30 _ rfl b4 rfl 30 (stC r h) (0, 0) _ hB4 Tryd.underlying30 rfl (st_info _ _) ?_) | (refine wpList_load_row rfl 27 _ rfl (b4 + 1) rfl 27 #[.int .i64 x, .int .i64 y] (0, 0) _ hB6 Tryd.underlying27 rfl (wn_info _ _) ?_))
    refine (openMinutes_c r h x y _ hrs HB.out).mono ?_; rintro e w3 ⟨rfl, hG3⟩
    have hI3 := hI2.quiet hG3
    have hrd3 := hrd2.quiet hG3
    clear hI2 hrd2 hB4 hB6 hG3
    have HA := Lib.hid (hI3.2.1.at_)
    go_wp2_with (refine wpList_load_at rfl 30 _ rfl ⟨b4, 0, none⟩ rfl #[.string r, .int .i64 (h 0), .int .i64 (h 1), .int .i64 (h 2), .int .i64 (h 3), .int .i64 (h 4), .int .i64 (h 5), .int .i64 (h 6), .int .i64 (h 7), .int .i64 (h 8), .int .i64 (h 9), .int .i64 (h 10), .int .i64 (h 11), .int .i64 (h 12), .int .i64 (h 13)] _ HA.out Tryd.underlying30 rfl (st_info _ _) ?_)
    refine (stationsFault_c _ [(r, h)] _ (rd_one r h rfl) ?_ (by simp)).mono ?_
    · intro p hp
      obtain rfl := List.mem_singleton.1 hp
      exact ⟨hrs, HB.out⟩
    rintro e w4 ⟨rfl, hG4⟩
    have hG4' := ((G.refl w3 none).alloc (.cells (stC r h) 30)).trans hG4
    have hI4 := hI3.quiet hG4'
    have hrd4 := hrd3.quiet hG4'
    clear hI3 hrd3 hG4 hG4' HA
    go_wp2_with fail
    refine (momentFault_c t _).mono ?_; rintro e w' ⟨rfl, rfl⟩
    go_wp2_with fail
    refine (errs_c [stErr [(r, h)], momE t] _ _ (Rd.new #[.int .i64 (stErr [(r, h)]), .int .i64 (momE t)] rfl (by show 2 ≤ maxLen; decide)) (by simp)).mono ?_; rintro e w' ⟨rfl, rfl⟩
    rw [HE.out]
    have hI5 := hI4.quiet ((G.refl w4 none).alloc (.cells #[.int .i64 (stErr [(r, h)]), .int .i64 (momE t)] 36))
    have hrd5 := hrd4.quiet ((G.refl w4 none).alloc (.cells #[.int .i64 (stErr [(r, h)]), .int .i64 (momE t)] 36))
    clear hI4 hrd4
    generalize w4.alloc (.cells #[.int .i64 (stErr [(r, h)]), .int .i64 (momE t)] 36) = w5 at hI5 hrd5 ⊢
    by_cases h0 : atE r h t = 0
    · obtain ⟨t0, t2, hst⟩ := atE_mom h0
      obtain ⟨t, rfl⟩ := Int.eq_ofNat_of_zero_le t0
      have HOK := Lib.hid (okHrs_of hst)
      have HIO : Hid (isOpenR r h (t : Int) = opB h t) := Lib.hid (by simp [isOpenR, h0])
      have htn : t < 5761440 := by omega
      clear HE ht0 ht1 t0 t2
      rw [HIO.out, h0]
      cases hno : nextO h t with
      | some m =>
        have HNR : Hid (nextR r h (t : Int) = (m, 0)) := Lib.hid (by simp [nextR, h0, hno])
        have HNO := Lib.hid hno
        clear hno h0 hst
        rw [HNR.out]
        have hB4 := hI5.2.1
        go_wp2_with (refine wpList_load_row rfl 30 _ rfl b4 rfl 30 (stC r h) (0, 0) _ hB4 Tryd.underlying30 rfl (st_info _ _) ?_)
        refine (nextOpenOf_c r h t _ HB.out HOK.out htn).mono ?_; rintro e w6 ⟨rfl, hG6⟩
        rw [HNO.out]
        have hI6 := hI5.quiet hG6
        have hrd6 := hrd5.quiet hG6
        clear hI5 hrd5 hG6 hB4
        have hB6 := hI6.2.2.1
        unfold nofV
        go_wp2_with fail
        refine (when_c _ _ _).mono ?_; rintro e w' ⟨rfl, rfl⟩
        simp only [Bool.false_eq_true, if_false]
        go_wp2_with (refine wpList_load_row rfl 27 _ rfl (b4 + 1) rfl 27 #[.int .i64 x, .int .i64 y] (0, 0) _ hB6 Tryd.underlying27 rfl (wn_info _ _) ?_)
        refine (windowFault_c x y _).mono ?_; rintro e w7 ⟨rfl, hG7⟩
        have hI7 := hI6.quiet hG7
        have hrd7 := hrd6.quiet hG7
        clear hI6 hrd6 hG7 hB6
        go_wp2_with fail
        refine (errs_c [stErr [(r, h)], winE x y] _ _ (Rd.new #[.int .i64 (stErr [(r, h)]), .int .i64 (winE x y)] rfl (by show 2 ≤ maxLen; decide)) (by simp)).mono ?_; rintro e w' ⟨rfl, rfl⟩
        rw [HM.out]
        have hI8 := hI7.quiet ((G.refl w7 none).alloc (.cells #[.int .i64 (stErr [(r, h)]), .int .i64 (winE x y)] 36))
        have hrd8 := hrd7.quiet ((G.refl w7 none).alloc (.cells #[.int .i64 (stErr [(r, h)]), .int .i64 (winE x y)] 36))
        clear hI7 hrd7
        generalize w7.alloc (.cells #[.int .i64 (stErr [(r, h)]), .int .i64 (winE x y)] 36) = w8 at hI8 hrd8 ⊢
        go_wp2_with fail
        refine (checkStations_c u7 l _ hrd8 hkeys (by omega)).mono ?_; rintro e w9 ⟨rfl, hG9⟩
        have hI9 := hI8.quiet hG9
        have hrd9 := hrd8.quiet hG9
        clear hI8 hrd8 hG9
        go_wp2_with fail
        refine (stationsFault_c u7 l _ hrd9 hkeys (by omega)).mono ?_; rintro e w10 ⟨rfl, hG10⟩
        have hI10 := hI9.quiet hG10
        clear hI9 hrd9 hG10
        have HA := Lib.hid (hI10.2.1.at_)
        go_wp2_with (refine wpList_load_at_g rfl 30 _ rfl ⟨b4, 0, none⟩ rfl (stC r h) _ HA.out Tryd.underlying30 rfl (st_info r h) ?_)
        refine (openAt_c r h t _ HB.out htn).mono ?_; rintro e w11 ⟨rfl, hG11⟩
        have hI11 := hI10.quiet hG11
        clear hI10 hG11 HA
        by_cases h3 : minE r h x y = 0
        · obtain ⟨x2, y2, hxy, hmr⟩ := minE_win h3
          obtain ⟨x, rfl⟩ := Int.eq_ofNat_of_zero_le x2
          obtain ⟨y, rfl⟩ := Int.eq_ofNat_of_zero_le (show 0 ≤ y by omega)
          have hxy' : x ≤ y := by omega
          have hy' : y ≤ 5761440 := by omega
          rw [h3, hmr]
          simp only [Int.toNat_natCast]
          clear h3 hmr x0 x1 y0 y1 x2 y2 hxy HM
          have HA := Lib.hid (hI11.2.1.at_)
          have HW := Lib.hid (hI11.2.2.1.at_)
          go_wp2_with (first | (refine wpList_load_at_g rfl 30 _ rfl ⟨b4, 0, none⟩ rfl (stC r h) _ HA.out Tryd.underlying30 rfl (st_info r h) ?_) | (refine wpList_load_at_g rfl 27 _ rfl ⟨b4 + 1, 0, none⟩ rfl #[.int .i64 (x : Int), .int .i64 (y : Int)] _ HW.out Tryd.underlying27 rfl (wn_info _ _) ?_))
          refine (openIn_c r h x y _ HB.out hxy' hy').mono ?_; rintro e w12 ⟨rfl, hG12⟩
          have hI12 := hI11.quiet hG12
          clear hI11 hG12
          go_wp2_with fail
          refine (lots_c _ hI12.2.2.2.1).mono ?_; rintro e w13 ⟨rfl, hG13⟩
          go_wp2_with fail
          go_ret
          exact ⟨rfl, hI12.1.trans hG13⟩
        · have hmr : minR r h x y = 0 := by simp [minR, h3]
          rw [hmr]
          clear hmr
          have h4 : (minE r h x y == 0) = false := by simpa using h3
          have h5 : (minE r h x y != 0) = true := by simpa using h3
          clear h3 HM
          generalize minE r h x y = E3 at h4 h5 ⊢
          go_wp2_with fail
          refine (lots_c _ hI11.2.2.2.1).mono ?_; rintro e w13 ⟨rfl, hG13⟩
          go_wp2_with fail
          go_ret
          exact ⟨rfl, hI11.1.trans hG13⟩
      | none =>
        have HNR : Hid (nextR r h (t : Int) = (0, 8)) := Lib.hid (by simp [nextR, h0, hno])
        have HNO := Lib.hid hno
        clear hno h0 hst
        rw [HNR.out]
        have hB4 := hI5.2.1
        go_wp2_with (refine wpList_load_row rfl 30 _ rfl b4 rfl 30 (stC r h) (0, 0) _ hB4 Tryd.underlying30 rfl (st_info _ _) ?_)
        refine (nextOpenOf_c r h t _ HB.out HOK.out htn).mono ?_; rintro e w6 ⟨rfl, hG6⟩
        rw [HNO.out]
        have hI6 := hI5.quiet hG6
        have hrd6 := hrd5.quiet hG6
        clear hI5 hrd5 hG6 hB4
        have hB6 := hI6.2.2.1
        unfold nofV
        go_wp2_with fail
        refine (when_c _ _ _).mono ?_; rintro e w' ⟨rfl, rfl⟩
        simp only [if_true]
        go_wp2_with (refine wpList_load_row rfl 27 _ rfl (b4 + 1) rfl 27 #[.int .i64 x, .int .i64 y] (0, 0) _ hB6 Tryd.underlying27 rfl (wn_info _ _) ?_)
        refine (windowFault_c x y _).mono ?_; rintro e w7 ⟨rfl, hG7⟩
        have hI7 := hI6.quiet hG7
        have hrd7 := hrd6.quiet hG7
        clear hI6 hrd6 hG7 hB6
        go_wp2_with fail
        refine (errs_c [stErr [(r, h)], winE x y] _ _ (Rd.new #[.int .i64 (stErr [(r, h)]), .int .i64 (winE x y)] rfl (by show 2 ≤ maxLen; decide)) (by simp)).mono ?_; rintro e w' ⟨rfl, rfl⟩
        rw [HM.out]
        have hI8 := hI7.quiet ((G.refl w7 none).alloc (.cells #[.int .i64 (stErr [(r, h)]), .int .i64 (winE x y)] 36))
        have hrd8 := hrd7.quiet ((G.refl w7 none).alloc (.cells #[.int .i64 (stErr [(r, h)]), .int .i64 (winE x y)] 36))
        clear hI7 hrd7
        generalize w7.alloc (.cells #[.int .i64 (stErr [(r, h)]), .int .i64 (winE x y)] 36) = w8 at hI8 hrd8 ⊢
        go_wp2_with fail
        refine (checkStations_c u7 l _ hrd8 hkeys (by omega)).mono ?_; rintro e w9 ⟨rfl, hG9⟩
        have hI9 := hI8.quiet hG9
        have hrd9 := hrd8.quiet hG9
        clear hI8 hrd8 hG9
        go_wp2_with fail
        refine (stationsFault_c u7 l _ hrd9 hkeys (by omega)).mono ?_; rintro e w10 ⟨rfl, hG10⟩
        have hI10 := hI9.quiet hG10
        clear hI9 hrd9 hG10
        have HA := Lib.hid (hI10.2.1.at_)
        go_wp2_with (refine wpList_load_at_g rfl 30 _ rfl ⟨b4, 0, none⟩ rfl (stC r h) _ HA.out Tryd.underlying30 rfl (st_info r h) ?_)
        refine (openAt_c r h t _ HB.out htn).mono ?_; rintro e w11 ⟨rfl, hG11⟩
        have hI11 := hI10.quiet hG11
        clear hI10 hG11 HA
        by_cases h3 : minE r h x y = 0
        · obtain ⟨x2, y2, hxy, hmr⟩ := minE_win h3
          obtain ⟨x, rfl⟩ := Int.eq_ofNat_of_zero_le x2
          obtain ⟨y, rfl⟩ := Int.eq_ofNat_of_zero_le (show 0 ≤ y by omega)
          have hxy' : x ≤ y := by omega
          have hy' : y ≤ 5761440 := by omega
          rw [h3, hmr]
          simp only [Int.toNat_natCast]
          clear h3 hmr x0 x1 y0 y1 x2 y2 hxy HM
          have HA := Lib.hid (hI11.2.1.at_)
          have HW := Lib.hid (hI11.2.2.1.at_)
          go_wp2_with (first | (refine wpList_load_at_g rfl 30 _ rfl ⟨b4, 0, none⟩ rfl (stC r h) _ HA.out Tryd.underlying30 rfl (st_info r h) ?_) | (refine wpList_load_at_g rfl 27 _ rfl ⟨b4 + 1, 0, none⟩ rfl #[.int .i64 (x : Int), .int .i64 (y : Int)] _ HW.out Tryd.underlying27 rfl (wn_info _ _) ?_))
          refine (openIn_c r h x y _ HB.out hxy' hy').mono ?_; rintro e w12 ⟨rfl, hG12⟩
          have hI12 := hI11.quiet hG12
          clear hI11 hG12
          go_wp2_with fail
          refine (lots_c _ hI12.2.2.2.1).mono ?_; rintro e w13 ⟨rfl, hG13⟩
          go_wp2_with fail
          go_ret
          exact ⟨rfl, hI12.1.trans hG13⟩
        · have hmr : minR r h x y = 0 := by simp [minR, h3]
          rw [hmr]
          clear hmr
          have h4 : (minE r h x y == 0) = false := by simpa using h3
          have h5 : (minE r h x y != 0) = true := by simpa using h3
          clear h3 HM
          generalize minE r h x y = E3 at h4 h5 ⊢
          go_wp2_with fail
          refine (lots_c _ hI11.2.2.2.1).mono ?_; rintro e w13 ⟨rfl, hG13⟩
          go_wp2_with fail
          go_ret
          exact ⟨rfl, hI11.1.trans hG13⟩
    · have hn : nextR r h t = (0, atE r h t) := by simp [nextR, h0]
      have hi : isOpenR r h t = false := by simp [isOpenR, h0]
      rw [hn, hi]
      clear hn hi HE
      have h1 : (atE r h t == 0) = false := by simpa using h0
      have h2 : (atE r h t != 0) = true := by simpa using h0
      clear h0
      generalize atE r h t = E at h1 h2 ⊢
      have hI6 := hI5
      have hrd6 := hrd5
      clear hI5 hrd5
      have hB6 := hI6.2.2.1
      go_wp2_with (refine wpList_load_row rfl 27 _ rfl (b4 + 1) rfl 27 #[.int .i64 x, .int .i64 y] (0, 0) _ hB6 Tryd.underlying27 rfl (wn_info _ _) ?_)
      refine (windowFault_c x y _).mono ?_; rintro e w7 ⟨rfl, hG7⟩
      have hI7 := hI6.quiet hG7
      have hrd7 := hrd6.quiet hG7
      clear hI6 hrd6 hG7 hB6
      go_wp2_with fail
      refine (errs_c [stErr [(r, h)], winE x y] _ _ (Rd.new #[.int .i64 (stErr [(r, h)]), .int .i64 (winE x y)] rfl (by show 2 ≤ maxLen; decide)) (by simp)).mono ?_; rintro e w' ⟨rfl, rfl⟩
      rw [HM.out]
      have hI8 := hI7.quiet ((G.refl w7 none).alloc (.cells #[.int .i64 (stErr [(r, h)]), .int .i64 (winE x y)] 36))
      have hrd8 := hrd7.quiet ((G.refl w7 none).alloc (.cells #[.int .i64 (stErr [(r, h)]), .int .i64 (winE x y)] 36))
      clear hI7 hrd7
      generalize w7.alloc (.cells #[.int .i64 (stErr [(r, h)]), .int .i64 (winE x y)] 36) = w8 at hI8 hrd8 ⊢
      go_wp2_with fail
      refine (checkStations_c u7 l _ hrd8 hkeys (by omega)).mono ?_; rintro e w9 ⟨rfl, hG9⟩
      have hI9 := hI8.quiet hG9
      have hrd9 := hrd8.quiet hG9
      clear hI8 hrd8 hG9
      go_wp2_with fail
      refine (stationsFault_c u7 l _ hrd9 hkeys (by omega)).mono ?_; rintro e w10 ⟨rfl, hG10⟩
      have hI10 := hI9.quiet hG10
      clear hI9 hrd9 hG10
      have hI11 := hI10
      clear hI10
      by_cases h3 : minE r h x y = 0
      · obtain ⟨x2, y2, hxy, hmr⟩ := minE_win h3
        obtain ⟨x, rfl⟩ := Int.eq_ofNat_of_zero_le x2
        obtain ⟨y, rfl⟩ := Int.eq_ofNat_of_zero_le (show 0 ≤ y by omega)
        have hxy' : x ≤ y := by omega
        have hy' : y ≤ 5761440 := by omega
        rw [h3, hmr]
        simp only [Int.toNat_natCast]
        clear h3 hmr x0 x1 y0 y1 x2 y2 hxy HM
        have HA := Lib.hid (hI11.2.1.at_)
        have HW := Lib.hid (hI11.2.2.1.at_)
        go_wp2_with (first | (refine wpList_load_at_g rfl 30 _ rfl ⟨b4, 0, none⟩ rfl (stC r h) _ HA.out Tryd.underlying30 rfl (st_info r h) ?_) | (refine wpList_load_at_g rfl 27 _ rfl ⟨b4 + 1, 0, none⟩ rfl #[.int .i64 (x : Int), .int .i64 (y : Int)] _ HW.out Tryd.underlying27 rfl (wn_info _ _) ?_))
        refine (openIn_c r h x y _ HB.out hxy' hy').mono ?_; rintro e w12 ⟨rfl, hG12⟩
        have hI12 := hI11.quiet hG12
        clear hI11 hG12
        go_wp2_with fail
        refine (lots_c _ hI12.2.2.2.1).mono ?_; rintro e w13 ⟨rfl, hG13⟩
        go_wp2_with fail
        go_ret
        exact ⟨rfl, hI12.1.trans hG13⟩
      · have hmr : minR r h x y = 0 := by simp [minR, h3]
        rw [hmr]
        clear hmr
        have h4 : (minE r h x y == 0) = false := by simpa using h3
        have h5 : (minE r h x y != 0) = true := by simpa using h3
        clear h3 HM
        generalize minE r h x y = E3 at h4 h5 ⊢
        go_wp2_with fail
        refine (lots_c _ hI11.2.2.2.1).mono ?_; rintro e w13 ⟨rfl, hG13⟩
        go_wp2_with fail
        go_ret
        exact ⟨rfl, hI11.1.trans hG13⟩
end Go.Proofs.YtjdkdnnbckogjaaDoor
