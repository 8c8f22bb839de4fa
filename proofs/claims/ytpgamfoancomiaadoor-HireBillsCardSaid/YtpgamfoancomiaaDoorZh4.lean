/- Chh, GenL, Clo, Stp, Hit. -/
import Derived.Test.YtpgamfoancomiaaDoorZh2
import Derived.Test.YtpgamfoancomiaaDoorZh1
import Derived.Test.YtpgamfoancomiaaDoorZh3
import Derived.Laws.ResultCell
import Derived.Deep.RegionHeld3
import Derived.OrdersHeld
/- Hires: a change to a copy of an open hire (hire.changed, rentref1.changed), whatever the function is that changes it. -/
namespace Go.Proofs.YtpgamfoancomiaaDoor
open Go.RowKit

/-- What a function that makes a hire returns. -/
def ChPost (E : Int) (h : Hh) (l : List Lg) (w : World) (e : Ending) (w' : World) : Prop :=
  ∃ (H : Hh) (a : Option Addr) (n c : Nat), e = .returned (.tuple #[.agg #[.string H.1, .string H.2.1, .int .i64 H.2.2.1, .int .i64 H.2.2.2, .slice a n c], .int .i64 E]) ∧ H = hiH E h ∧ (∀ k, (Value.slice a n c).ownBlock = some k → w.heap.size ≤ k) ∧ RdR w' 9 lgC (.slice a n c) (hiL E l) ∧ G w w' none
def S2 (g : Nat) (v : Value) (k : Nat) : Prop := k = g ∨ v.ownBlock = some k
/-- A function that changes a hire which it is handed by its address: h, l become h2, l2. -/
def ChFn (F : FuncId) (caps : Array Value) (h : Hh) (l : List Lg) (h2 : Hh) (l2 : List Lg) (A : World) : Prop :=
  ∀ (w1 : World) (g base : Nat) (v1 : Value), G A w1 none → OwnLg w1 base v1 l → Bk w1 g 33 (hiC h v1) → A.heap.size ≤ g → g < base → base ≤ w1.heap.size →
    Calls Tryd.prog F (#[.pointer (some ⟨g, 0, none⟩)] ++ caps) w1 fun e w2 => e = .returned (.tuple #[]) ∧ ∃ v2, Bk w2 g 33 (hiC h2 v2) ∧ RdR w2 9 lgC v2 l2 ∧ (∀ k, v2.ownBlock = some k → base ≤ k) ∧ GS (S2 g v1) w1 w2
/-- The error of a change: of a hire that may not be right; of one that is. -/
def chE (h : Hh) (l : List Lg) (h2 : Hh) (l2 : List Lg) : Int := if hiE h l = 0 then (if ioB l = true then hiE h2 l2 else 11) else hiE h l
def chR (l : List Lg) (h2 : Hh) (l2 : List Lg) : Int := if ioB l = true then hiE h2 l2 else 11
theorem hiE_pos {h : Hh} {l : List Lg} (e : hiE h l = 0) : 0 < l.length ∧ l.length ≤ 20 := by
  unfold hiE at e
  split at e
  · cases e
  split at e
  · cases e
  split at e
  · split at e
    · cases e
    · split at e
      · cases e
      · omega
  · contradiction
theorem ch_none {w w' : World} {E : Int} (hE : E ≠ 0) (h : Hh) (l : List Lg) (hG : G w w' none) : ChPost E h l w (.returned (.tuple #[.agg #[.string ⟨#[]⟩, .string ⟨#[]⟩, .int .i64 0, .int .i64 0, .slice none 0 0], .int .i64 E])) w' :=
  ⟨(⟨#[]⟩, ⟨#[]⟩, 0, 0), none, 0, 0, rfl, by rw [hiH, if_neg hE], fun _ hk => (by cases hk), by rw [hiL, if_neg hE]; exact RdR.nil _ _ _, hG⟩
set_option maxRecDepth 100000 in
set_option maxHeartbeats 4000000 in
theorem changed_c (F : FuncId) (caps : Array Value) (h : Hh) (v : Value) (l : List Lg) (h2 : Hh) (l2 : List Lg) (w : World) (hcf : ∀ (args : Array Value) (w : World), (callFunc F args).run Tryd.prog w = .ok (.enter F args) w) (hcl : 0 < l.length → ChFn F caps h l h2 l2 w) (hr : RdR w 9 lgC v l) (hl : LgOk l) (hs1 : Small h.1) (hs2 : Small h.2.1) (hb1 : bnd h.2.2.1) (hb2 : bnd h.2.2.2) (hn : l.length ≤ 1000)
    (hl2 : LgOk l2) (hs12 : Small h2.1) (hs22 : Small h2.2.1) (hb12 : bnd h2.2.2.1) (hb22 : bnd h2.2.2.2) (hn2 : l2.length ≤ 1000) :
    Calls Tryd.prog 72 #[.agg (hiC h v), .func (.func F) #[] caps] w (ChPost (chE h l h2 l2) h2 l2 w) := by
  have hH := (Bk.new w 33 (hiC h v)).alloc (.cells hiZ 33)
  have hG := ((G.refl w none).alloc (.cells (hiC h v) 33)).alloc (.cells hiZ 33)
  have hZ := Bk.newAt (w := w.alloc (.cells (hiC h v) 33)) (b := w.heap.size + 1) (by simp) 33 hiZ
  have hR := hr.quiet hG
  have HLO := Lib.hid hr.blk
  obtain ⟨a, cap, rfl, hcap, hm⟩ := RdR.form hr
  clear hr
  have hgs := hH.lt
  have hzs := hZ.lt
  simp only [hiC, hiZ] at hH hG hR hZ hgs hzs ⊢
  go_enter Tryd.func72, Tryd.ntmps72
  go_upto_region 1 with fail
  generalize (w.alloc (.cells #[.string h.1, .string h.2.1, .int .i64 h.2.2.1, .int .i64 h.2.2.2, .slice a l.length cap] 33)).alloc (.cells #[.string ⟨#[]⟩, .string ⟨#[]⟩, .int .i64 0, .int .i64 0, .slice none 0 0] 33) = w2 at hG hH hR hZ hgs hzs ⊢
  go_wp2_with (refine wpList_load_row rfl 33 _ rfl w.heap.size rfl 33 #[.string h.1, .string h.2.1, .int .i64 h.2.2.1, .int .i64 h.2.2.2, .slice a l.length cap] (0, 0) _ hH Tryd.underlying33 rfl (hi_info h _) ?_)
  refine (check_c h _ l _ hR hl hs1 hs2 hb1 hb2 hn).mono ?_; rintro e w3 ⟨rfl, hG3⟩
  have hH := hH.quiet hG3
  have hZ := hZ.quiet hG3
  have hz3 : w2.heap.size ≤ w3.heap.size := hG3.size
  have hG := hG.trans hG3
  have hR := hR.quiet hG3
  clear hG3
  obtain ⟨E, hE⟩ : ∃ E, hiE h l = E := ⟨_, rfl⟩
  have HT : Hid (E = 0 → ioB l = true → chE h l h2 l2 = hiE h2 l2) := Lib.hid fun p q => by unfold chE; rw [hE, if_pos p, if_pos q]
  have HF : Hid (E = 0 → ioB l = false → chE h l h2 l2 = 11) := Lib.hid fun p q => by unfold chE; rw [hE, if_pos p, if_neg (by rw [q]; simp)]
  have HN : Hid (E ≠ 0 → chE h l h2 l2 = E) := Lib.hid fun p => by unfold chE; rw [hE, if_neg p]
  have HPOS : Hid (E = 0 → 0 < l.length) := Lib.hid (fun e => (hiE_pos (hE.trans e)).1)
  rw [hE]
  clear hE
  by_cases k1 : E = 0
  · subst k1
    have hpos := HPOS.out rfl
    have HF0 := Lib.hid (HF.out rfl)
    have HT0 := Lib.hid (HT.out rfl)
    clear HF HT HN HPOS
    go_wp2_with (refine wpList_load_row rfl 33 _ rfl w.heap.size rfl 33 #[.string h.1, .string h.2.1, .int .i64 h.2.2.1, .int .i64 h.2.2.2, .slice a l.length cap] (0, 0) _ hH Tryd.underlying33 rfl (hi_info h _) ?_)
    refine (isOpen_h h _ l _ hR hpos hn).mono ?_; rintro e w4 ⟨rfl, hG4⟩
    have hH := hH.quiet hG4
    have hZ := hZ.quiet hG4
    have hz4 : w2.heap.size ≤ w4.heap.size := Nat.le_trans hz3 hG4.size
    have hG := hG.trans hG4
    have hR := hR.quiet hG4
    clear hG4 hz3
    obtain ⟨B, hB⟩ : ∃ B, ioB l = B := ⟨_, rfl⟩
    have HF := Lib.hid (fun e => HF0.out (hB.trans e))
    have HT := Lib.hid (fun e => HT0.out (hB.trans e))
    clear HF0 HT0
    rw [hB]
    clear hB
    cases B with
    | false =>
      have HX := Lib.hid (HF.out rfl)
      clear HF HT
      go_wp2_with (refine wpList_store_row rfl 33 _ _ rfl (w.heap.size + 1) #[.string ⟨#[]⟩, .string ⟨#[]⟩, .int .i64 0, .int .i64 0, .slice none 0 0] rfl rfl 33 _ hZ (hi_info (⟨#[]⟩, ⟨#[]⟩, 0, 0) (.slice none 0 0)) rfl (hi_one (⟨#[]⟩, ⟨#[]⟩, 0, 0) _ _ _) ?_)
      refine bodyPost_ret (results_cell_hi rfl _ _ (w.heap.size + 1) 33 #[.string ⟨#[]⟩, .string ⟨#[]⟩, .int .i64 0, .int .i64 0, .slice none 0 0] (0, 0) _ rfl (hZ.setRow _) Tryd.underlying33 rfl (hi_info (⟨#[]⟩, ⟨#[]⟩, 0, 0) (.slice none 0 0))) rfl ?_
      rw [HX.out]
      exact ch_none (by omega) h2 l2 (hG.setRow (.inl (by omega)) _)
    | true =>
      have HX := Lib.hid (HT.out rfl)
      clear HF HT
      have c4 : w4.cell? ⟨w.heap.size, 4, none⟩ = some (.slice a l.length cap) := hH.cell 4
      go_wp2_with fail
      refine (cloneLg_c _ l _ hR hn).mono ?_; rintro e w5 ⟨v1, rfl, hown, hG5⟩
      obtain ⟨a1, cap1, rfl, -, -⟩ := RdR.form (Rd.of_owns hown)
      have hz5 : w4.heap.size ≤ w5.heap.size := hG5.size
      have hH5 := hH.quiet hG5
      have hZ5 := hZ.quiet hG5
      have hG5 := hG.trans hG5
      have x4 := hH5.free 4
      have c5 : w5.cell? ⟨w.heap.size, 4, none⟩ = some (.slice a l.length cap) := hH5.cell 4
      clear hH hZ hG hR c4
      have hH6 : Bk (w5.setCell ⟨w.heap.size, 4, none⟩ (.slice a1 l.length cap1)) w.heap.size 33 (hiC h (.slice a1 l.length cap1)) := hH5.set 4 (.slice a1 l.length cap1)
      have hZ6 := hZ5.far (p := ⟨w.heap.size, 4, none⟩) (show w.heap.size + 1 ≠ w.heap.size by omega) (.slice a1 l.length cap1)
      have hG6 := hG5.setCell (p := ⟨w.heap.size, 4, none⟩) (.inl (Nat.le_refl _)) (.slice a1 l.length cap1)
      have hown6 : OwnLg (w5.setCell ⟨w.heap.size, 4, none⟩ (.slice a1 l.length cap1)) w4.heap.size (.slice a1 l.length cap1) l := OwnX.far hown (p := ⟨w.heap.size, 4, none⟩) (hown.ne (.inl (by show w.heap.size < w4.heap.size; omega))) (.slice a1 l.length cap1)
      have hz6 : w4.heap.size ≤ (w5.setCell ⟨w.heap.size, 4, none⟩ (.slice a1 l.length cap1)).heap.size := by simp [World.setCell]; exact hz5
      go_upto_region 7 with fail
      generalize w5.setCell ⟨w.heap.size, 4, none⟩ (.slice a1 l.length cap1) = w6 at hH6 hZ6 hG6 hown6 hz6 ⊢
      clear hH5 hZ5 hG5 hown c5 x4
      have HC := Lib.hid (hcl hpos w6 w.heap.size w4.heap.size (.slice a1 l.length cap1) hG6 hown6 hH6 (Nat.le_refl _) (by omega) hz6)
      go_wp2_with fail
      refine HC.out.mono ?_; rintro e w7 ⟨rfl, v2, hH7, hR7, hv2, hS⟩
      have hown7 := fun k (e : (Value.slice a1 l.length cap1).ownBlock = some k) => OwnX.low hown6 k e
      have hZ7 := hZ6.gs hS (fun e => by
        rcases e with e | e
        · omega
        · have := hown7 _ e; omega)
      have hG7 := GS.own hG6 hS (fun k e => by
        rcases e with e | e
        · omega
        · have := hown7 _ e; omega)
      obtain ⟨a2, cap2, rfl, -, -⟩ := RdR.form hR7
      have HV2 := Lib.hid hv2
      clear hH6 hZ6 hG6 hown6 hS HC hown7 hv2
      simp only [hiC] at hH7
      go_wp2_with (refine wpList_load_row rfl 33 _ rfl w.heap.size rfl 33 #[.string h2.1, .string h2.2.1, .int .i64 h2.2.2.1, .int .i64 h2.2.2.2, .slice a2 l2.length cap2] (0, 0) _ hH7 Tryd.underlying33 rfl (hi_info h2 _) ?_)
      refine (right_c h2 _ l2 _ hR7 hl2 hs12 hs22 hb12 hb22 hn2).mono ?_; rintro e w8 ⟨H, a3, n3, c3, rfl, hHH, hBB, hR8, hG8⟩
      have hZ8 := hZ7.quiet hG8
      have hG08 := hG7.trans hG8
      have HHH := Lib.hid hHH
      have HB3 : Hid (∀ k, (Value.slice a3 n3 c3).ownBlock = some k → w4.heap.size ≤ k) := Lib.hid fun k e => HV2.out k (hBB k e)
      have HR8 := Lib.hid hR8
      clear hHH hBB hR8 hG8 hG7 hZ7 hH7 hR7
      go_wp2_with (refine wpList_store_row rfl 33 _ _ rfl (w.heap.size + 1) #[.string H.1, .string H.2.1, .int .i64 H.2.2.1, .int .i64 H.2.2.2, .slice a3 n3 c3] rfl rfl 33 _ hZ8 (hi_info H _) rfl (hi_one H _ _ _) ?_)
      refine bodyPost_ret (results_cell_hi rfl _ _ (w.heap.size + 1) 33 #[.string H.1, .string H.2.1, .int .i64 H.2.2.1, .int .i64 H.2.2.2, .slice a3 n3 c3] (0, 0) _ rfl (hZ8.setRow _) Tryd.underlying33 rfl (hi_info H _)) rfl ?_
      exact ⟨H, a3, n3, c3, by rw [HX.out]; rfl, by rw [HX.out]; exact HHH.out, fun k e => by have := HB3.out k e; omega, by rw [HX.out]; exact Rd.grown HR8.out ((G.refl w8 (some (w.heap.size + 1))).setRow (.inr rfl) _) (fun k e hk => by cases e; have := HB3.out _ hk; omega), hG08.setRow (.inl (by omega)) _⟩
  · have k1' : (E != 0) = true := by simpa using k1
    have K1 := Lib.hid k1
    have HX := Lib.hid (HN.out k1)
    clear k1 HF HT HN
    go_wp2_with (refine wpList_store_row rfl 33 _ _ rfl (w.heap.size + 1) #[.string ⟨#[]⟩, .string ⟨#[]⟩, .int .i64 0, .int .i64 0, .slice none 0 0] rfl rfl 33 _ hZ (hi_info (⟨#[]⟩, ⟨#[]⟩, 0, 0) (.slice none 0 0)) rfl (hi_one (⟨#[]⟩, ⟨#[]⟩, 0, 0) _ _ _) ?_)
    refine bodyPost_ret (results_cell_hi rfl _ _ (w.heap.size + 1) 33 #[.string ⟨#[]⟩, .string ⟨#[]⟩, .int .i64 0, .int .i64 0, .slice none 0 0] (0, 0) _ rfl (hZ.setRow _) Tryd.underlying33 rfl (hi_info (⟨#[]⟩, ⟨#[]⟩, 0, 0) (.slice none 0 0))) rfl ?_
    rw [HX.out]
    exact ch_none K1.out h2 l2 (hG.setRow (.inl (by omega)) _)
set_option maxRecDepth 100000 in
set_option maxHeartbeats 4000000 in
theorem changedR_c (F : FuncId) (caps : Array Value) (h : Hh) (v : Value) (l : List Lg) (h2 : Hh) (l2 : List Lg) (w : World) (hcf : ∀ (args : Array Value) (w : World), (callFunc F args).run Tryd.prog w = .ok (.enter F args) w) (hcl : 0 < l.length → ChFn F caps h l h2 l2 w) (hr : RdR w 9 lgC v l) (hn : l.length ≤ 1000)
    (hl2 : LgOk l2) (hs12 : Small h2.1) (hs22 : Small h2.2.1) (hb12 : bnd h2.2.2.1) (hb22 : bnd h2.2.2.2) (hn2 : l2.length ≤ 1000) :
    Calls Tryd.prog 77 #[.agg (hiC h v), .func (.func F) #[] caps] w (ChPost (chR l h2 l2) h2 l2 w) := by
  have hH := (Bk.new w 33 (hiC h v)).alloc (.cells hiZ 33)
  have hG := ((G.refl w none).alloc (.cells (hiC h v) 33)).alloc (.cells hiZ 33)
  have hZ := Bk.newAt (w := w.alloc (.cells (hiC h v) 33)) (b := w.heap.size + 1) (by simp) 33 hiZ
  have hR := hr.quiet hG
  have HLO := Lib.hid hr.blk
  obtain ⟨a, cap, rfl, hcap, hm⟩ := RdR.form hr
  clear hr
  have hgs := hH.lt
  have hzs := hZ.lt
  simp only [hiC, hiZ] at hH hG hR hZ hgs hzs ⊢
  go_enter Tryd.func77, Tryd.ntmps77
  go_upto_region 1 with fail
  generalize (w.alloc (.cells #[.string h.1, .string h.2.1, .int .i64 h.2.2.1, .int .i64 h.2.2.2, .slice a l.length cap] 33)).alloc (.cells #[.string ⟨#[]⟩, .string ⟨#[]⟩, .int .i64 0, .int .i64 0, .slice none 0 0] 33) = w2 at hG hH hR hZ hgs hzs ⊢
  go_wp2_with (refine wpList_load_row rfl 33 _ rfl w.heap.size rfl 33 #[.string h.1, .string h.2.1, .int .i64 h.2.2.1, .int .i64 h.2.2.2, .slice a l.length cap] (0, 0) _ hH Tryd.underlying33 rfl (hi_info h _) ?_)
  refine (isOpenR_c h _ l _ hR hn).mono ?_; rintro e w4 ⟨rfl, hG4⟩
  have hH := hH.quiet hG4
  have hZ := hZ.quiet hG4
  have hz4 : w2.heap.size ≤ w4.heap.size := hG4.size
  have hG := hG.trans hG4
  have hR := hR.quiet hG4
  clear hG4
  obtain ⟨B, hB⟩ : ∃ B, ioB l = B := ⟨_, rfl⟩
  have HF : Hid (B = false → chR l h2 l2 = 11) := Lib.hid (fun e => by unfold chR; rw [hB, e, if_neg (by simp)])
  have HP : Hid (B = true → 0 < l.length) := Lib.hid (fun e => ioB_pos (hB.trans e))
  have HT : Hid (B = true → chR l h2 l2 = hiE h2 l2) := Lib.hid (fun e => by unfold chR; rw [hB, e, if_pos rfl])
  rw [hB]
  clear hB
  cases B with
  | false =>
    have HX := Lib.hid (HF.out rfl)
    clear HF HT
    go_wp2_with (refine wpList_store_row rfl 33 _ _ rfl (w.heap.size + 1) #[.string ⟨#[]⟩, .string ⟨#[]⟩, .int .i64 0, .int .i64 0, .slice none 0 0] rfl rfl 33 _ hZ (hi_info (⟨#[]⟩, ⟨#[]⟩, 0, 0) (.slice none 0 0)) rfl (hi_one (⟨#[]⟩, ⟨#[]⟩, 0, 0) _ _ _) ?_)
    refine bodyPost_ret (results_cell_hi rfl _ _ (w.heap.size + 1) 33 #[.string ⟨#[]⟩, .string ⟨#[]⟩, .int .i64 0, .int .i64 0, .slice none 0 0] (0, 0) _ rfl (hZ.setRow _) Tryd.underlying33 rfl (hi_info (⟨#[]⟩, ⟨#[]⟩, 0, 0) (.slice none 0 0))) rfl ?_
    rw [HX.out]
    exact ch_none (by omega) h2 l2 (hG.setRow (.inl (by omega)) _)
  | true =>
    have HX := Lib.hid (HT.out rfl)
    have hpos := HP.out rfl
    clear HF HT HP
    have c4 : w4.cell? ⟨w.heap.size, 4, none⟩ = some (.slice a l.length cap) := hH.cell 4
    go_wp2_with fail
    refine (cloneLg_c _ l _ hR hn).mono ?_; rintro e w5 ⟨v1, rfl, hown, hG5⟩
    obtain ⟨a1, cap1, rfl, -, -⟩ := RdR.form (Rd.of_owns hown)
    have hz5 : w4.heap.size ≤ w5.heap.size := hG5.size
    have hH5 := hH.quiet hG5
    have hZ5 := hZ.quiet hG5
    have hG5 := hG.trans hG5
    have x4 := hH5.free 4
    have c5 : w5.cell? ⟨w.heap.size, 4, none⟩ = some (.slice a l.length cap) := hH5.cell 4
    clear hH hZ hG hR c4
    have hH6 : Bk (w5.setCell ⟨w.heap.size, 4, none⟩ (.slice a1 l.length cap1)) w.heap.size 33 (hiC h (.slice a1 l.length cap1)) := hH5.set 4 (.slice a1 l.length cap1)
    have hZ6 := hZ5.far (p := ⟨w.heap.size, 4, none⟩) (show w.heap.size + 1 ≠ w.heap.size by omega) (.slice a1 l.length cap1)
    have hG6 := hG5.setCell (p := ⟨w.heap.size, 4, none⟩) (.inl (Nat.le_refl _)) (.slice a1 l.length cap1)
    have hown6 : OwnLg (w5.setCell ⟨w.heap.size, 4, none⟩ (.slice a1 l.length cap1)) w4.heap.size (.slice a1 l.length cap1) l := OwnX.far hown (p := ⟨w.heap.size, 4, none⟩) (hown.ne (.inl (by show w.heap.size < w4.heap.size; omega))) (.slice a1 l.length cap1)
    have hz6 : w4.heap.size ≤ (w5.setCell ⟨w.heap.size, 4, none⟩ (.slice a1 l.length cap1)).heap.size := by simp [World.setCell]; exact hz5
    go_upto_region 4 with fail
    generalize w5.setCell ⟨w.heap.size, 4, none⟩ (.slice a1 l.length cap1) = w6 at hH6 hZ6 hG6 hown6 hz6 ⊢
    clear hH5 hZ5 hG5 hown c5 x4
    have HC := Lib.hid (hcl hpos w6 w.heap.size w4.heap.size (.slice a1 l.length cap1) hG6 hown6 hH6 (Nat.le_refl _) (by omega) hz6)
    go_wp2_with fail
    refine HC.out.mono ?_; rintro e w7 ⟨rfl, v2, hH7, hR7, hv2, hS⟩
    have hown7 := fun k (e : (Value.slice a1 l.length cap1).ownBlock = some k) => OwnX.low hown6 k e
    have hZ7 := hZ6.gs hS (fun e => by
      rcases e with e | e
      · omega
      · have := hown7 _ e; omega)
    have hG7 := GS.own hG6 hS (fun k e => by
      rcases e with e | e
      · omega
      · have := hown7 _ e; omega)
    obtain ⟨a2, cap2, rfl, -, -⟩ := RdR.form hR7
    have HV2 := Lib.hid hv2
    clear hH6 hZ6 hG6 hown6 hS HC hown7 hv2
    simp only [hiC] at hH7
    go_wp2_with (refine wpList_load_row rfl 33 _ rfl w.heap.size rfl 33 #[.string h2.1, .string h2.2.1, .int .i64 h2.2.2.1, .int .i64 h2.2.2.2, .slice a2 l2.length cap2] (0, 0) _ hH7 Tryd.underlying33 rfl (hi_info h2 _) ?_)
    refine (made_c h2 _ l2 _ hR7 hl2 hs12 hs22 hb12 hb22 hn2).mono ?_; rintro e w8 ⟨H, a3, n3, c3, rfl, hHH, hBB, hR8, hG8⟩
    have hZ8 := hZ7.quiet hG8
    have hG08 := hG7.trans hG8
    have HHH := Lib.hid hHH
    have HB3 : Hid (∀ k, (Value.slice a3 n3 c3).ownBlock = some k → w4.heap.size ≤ k) := Lib.hid fun k e => HV2.out k (hBB k e)
    have HR8 := Lib.hid hR8
    clear hHH hBB hR8 hG8 hG7 hZ7 hH7 hR7
    go_wp2_with (refine wpList_store_row rfl 33 _ _ rfl (w.heap.size + 1) #[.string H.1, .string H.2.1, .int .i64 H.2.2.1, .int .i64 H.2.2.2, .slice a3 n3 c3] rfl rfl 33 _ hZ8 (hi_info H _) rfl (hi_one H _ _ _) ?_)
    refine bodyPost_ret (results_cell_hi rfl _ _ (w.heap.size + 1) 33 #[.string H.1, .string H.2.1, .int .i64 H.2.2.1, .int .i64 H.2.2.2, .slice a3 n3 c3] (0, 0) _ rfl (hZ8.setRow _) Tryd.underlying33 rfl (hi_info H _)) rfl ?_
    exact ⟨H, a3, n3, c3, by rw [HX.out]; rfl, by rw [HX.out]; exact HHH.out, fun k e => by have := HB3.out k e; omega, by rw [HX.out]; exact Rd.grown HR8.out ((G.refl w8 (some (w.heap.size + 1))).setRow (.inr rfl) _) (fun k e hk => by cases e; have := HB3.out _ hk; omega), hG08.setRow (.inl (by omega)) _⟩
end Go.Proofs.YtpgamfoancomiaaDoor

/- Generator: a reading. -/
namespace Go.Proofs.YtpgamfoancomiaaDoor
open Go.RowKit

def bnd2 (n : Int) : Prop := -2199023255552 ≤ n ∧ n ≤ 2199023255552
def rgB (x : Rg) : Prop := bnd2 x.1 ∧ Small x.2.1 ∧ bnd x.2.2.1 ∧ bnd x.2.2.2
def ReadingPost (s K : Nat) (w : World) (e : Ending) (w' : World) : Prop :=
  ∃ r : Rg, e = .returned (.agg (rgC r)) ∧ rgB r ∧ SB w' s (K + 12) ∧ G w w' (some s)
theorem rg_one (x : Rg) : (rgC x).all (·.oneCell') = true := by simp [rgC, Value.oneCell']
theorem reading_fin {w w3 : World} {s K : Nat} {r : Rg} (hs : s < w.heap.size) (hr : rgB r) (hSB : SB w3 s (K + 12)) (hG : G w w3 (some s)) :
    ReadingPost s K w (.returned (.agg (rgC r))) (w3.setRow w.heap.size (rgC r)) :=
  ⟨r, rfl, hr, hSB.setRow hs _, hG.setRow (.inl (Nat.le_refl _)) _⟩
set_option maxRecDepth 100000 in
set_option maxHeartbeats 4000000 in
theorem reading_c (t : Int) (w : World) (s : Nat) (K : Nat) (ht : bnd t) (hs : SB w s K) (hk : K ≤ 900000000000) :
    Calls Tryd.prog 11 #[.pointer (some ⟨s, 0, none⟩), .int .i64 t] w (ReadingPost s K w) := by
  have hslt := hs.lt
  unfold bnd at ht
  have HT := Lib.hid ht
  obtain ⟨ht0, ht1⟩ := ht
  go_enter Tryd.func11, Tryd.ntmps11
  go_wp2_with fail
  refine (some_c _ _ _ [⟨#[115, 49]⟩, ⟨#[115, 49]⟩, ⟨#[115, 50]⟩, ⟨#[115, 51]⟩] _ _ K ((hs.alloc _).alloc _) (by omega) (by decide) (by decide) (Rd.newAt _ (by simp) rfl (by decide)) (hs.newAt _ _ _ (by omega))).mono ?_
  rintro e w2 ⟨k, rfl, hp, hSB2, hG2⟩
  have HK := Lib.hid (small_pick hp (by decide))
  have hz2 : w.heap.size + 2 ≤ w2.heap.size := by have := hG2.size; simp at this; omega
  have hB2 := ((Bk.new w 37 #[.int .i64 0, .string ⟨#[]⟩, .int .i64 0, .int .i64 0]).alloc (.cells _ 9)).grown hG2 (by simp; omega)
  have hG02 : G w w2 (some s) := (((G.refl w (some s)).alloc _).alloc _).trans hG2
  clear hG2 hp
  go_wp2_with fail
  refine (pick_c _ _ _ [0, 5, 100, 500, 999990, 999999] _ _ _ (hSB2.alloc _) (by omega) (by decide) (by decide) (Rd.newAt _ rfl rfl (by decide)) (hSB2.newAt _ _ _ (Nat.le_refl _))).mono ?_
  rintro e w3 ⟨m, rfl, hp, hSB3, hG3⟩
  have HM := Lib.hid (bnd_pick hp (by decide))
  have hB3 := (hB2.alloc (.cells _ 3)).grown hG3 (by simp; omega)
  have hG03 := (hG02.alloc _).trans hG3
  clear hG3 hp hB2 hG02 hSB2 hz2
  go_wp2_with fail
  refine (range_c 0 8 _ _ _ hSB3 (by omega) (by omega) (by omega) (by omega)).mono ?_; rintro e w4 ⟨f, rfl, f0, f1, hSB4, hG4⟩
  have HF : Hid (bnd f) := Lib.hid (by unfold bnd; omega)
  have hB4 := hB3.grown hG4 (fun e => by have := Option.some.inj e; omega)
  have hG04 := hG03.trans hG4
  clear hG4 hB3 hG03 hSB3 f0 f1
  have hN5 := Bk.new w4 37 #[.int .i64 t, .string k, .int .i64 m, .int .i64 f]
  have hSB5 := hSB4.alloc (.cells #[.int .i64 t, .string k, .int .i64 m, .int .i64 f] 37)
  have hB5 := hB4.alloc (.cells #[.int .i64 t, .string k, .int .i64 m, .int .i64 f] 37)
  have hG05 := hG04.alloc (.cells #[.int .i64 t, .string k, .int .i64 m, .int .i64 f] 37)
  have hs4 := hSB4.lt
  have hl4 := hB4.lt
  have hgw : w.heap.size ≤ w4.heap.size := hG04.size
  clear hB4 hG04 hSB4
  go_wp2_with fail
  generalize w4.alloc (.cells #[.int .i64 t, .string k, .int .i64 m, .int .i64 f] 37) = w5 at hN5 hSB5 hB5 hG05 ⊢
  generalize w4.heap.size = g at hN5 hs4 hl4 hgw ⊢
  refine (flip_c _ _ _ _ hSB5 (by omega) (by omega)).mono ?_; rintro e w6 ⟨q, rfl, hSB6, hG6⟩
  have hN6 := hN5.grown hG6 (fun e => by have := Option.some.inj e; omega)
  have hB6 := hB5.grown hG6 (fun e => by have := Option.some.inj e; omega)
  have hG06 := hG05.trans hG6
  clear hN5 hB5 hG05 hG6 hSB5
  cases q with
  | false =>
    go_wp2_with (first | (refine wpList_load_row rfl 37 _ rfl g rfl 37 #[.int .i64 t, .string k, .int .i64 m, .int .i64 f] (0, 0) _ hN6 Tryd.underlying37 rfl (rg_info (t, k, m, f)) ?_) | (refine wpList_store_row rfl 37 _ _ rfl w.heap.size #[.int .i64 t, .string k, .int .i64 m, .int .i64 f] rfl rfl 37 _ hB6 (rg_info (t, k, m, f)) rfl (rg_one (t, k, m, f)) ?_))
    refine bodyPost_ret (results_cell_row rfl _ _ w.heap.size 37 #[.int .i64 t, .string k, .int .i64 m, .int .i64 f] (0, 0) _ rfl (hB6.setRow _) Tryd.underlying37 rfl (rg_info (t, k, m, f))) rfl ?_
    exact reading_fin (r := (t, k, m, f)) hslt ⟨by have := HT.out; unfold bnd2; dsimp only; omega, HK.out, HM.out, HF.out⟩ (hSB6.le (by omega)) hG06
  | true =>
    have hwr : IntKind.i64.wrap (t + 1) = t + 1 := by rw [IntKind.wrap_i64]; omega
    go_wp2_with fail
    refine (pick_c _ _ _ [t, t + 1, -1, 5761440] _ _ _ (hSB6.alloc _) (by omega) (by decide) (by decide) (Rd.newAt _ rfl rfl (by decide)) (hSB6.newAt _ _ _ (Nat.le_refl _))).mono ?_; rintro e w7 ⟨t2, rfl, hp, hSB7, hG7⟩
    have HT2 : Hid (bnd2 t2) := Lib.hid (by simp only [List.mem_cons, List.mem_nil_iff, or_false] at hp; unfold bnd2; omega)
    have hN7 := (hN6.alloc (.cells _ 3)).grown hG7 (fun e => by have := Option.some.inj e; omega)
    have hB7 := (hB6.alloc (.cells _ 3)).grown hG7 (fun e => by have := Option.some.inj e; omega)
    have hG07 := (hG06.alloc _).trans hG7
    clear hN6 hB6 hG06 hG7 hSB6 hp
    go_wp2_with fail
    refine (some_c _ _ _ [⟨#[115, 49]⟩, ⟨#[]⟩, ⟨#[65]⟩] _ _ _ (hSB7.alloc _) (by omega) (by decide) (by decide) (Rd.newAt _ rfl rfl (by decide)) (hSB7.newAt _ _ _ (Nat.le_refl _))).mono ?_; rintro e w8 ⟨k2, rfl, hp, hSB8, hG8⟩
    have HK2 := Lib.hid (small_pick hp (by decide))
    have hN8 := (hN7.alloc (.cells _ 9)).grown hG8 (fun e => by have := Option.some.inj e; omega)
    have hB8 := (hB7.alloc (.cells _ 9)).grown hG8 (fun e => by have := Option.some.inj e; omega)
    have hG08 := (hG07.alloc _).trans hG8
    clear hN7 hB7 hG07 hG8 hSB7 hp
    go_wp2_with fail
    refine (odd_c _ _ _ _ _ hSB8 (by omega) (by omega) (by omega) (by omega) (by omega)).mono ?_; rintro e w9 ⟨m2, rfl, m20, m21, hSB9, hG9⟩
    have HM2 : Hid (bnd m2) := Lib.hid ⟨m20, m21⟩
    have hN9 := hN8.grown hG9 (fun e => by have := Option.some.inj e; omega)
    have hB9 := hB8.grown hG9 (fun e => by have := Option.some.inj e; omega)
    have hG09 := hG08.trans hG9
    clear hN8 hB8 hG08 hG9 hSB8 m20 m21
    go_wp2_with fail
    refine (odd_c _ _ _ _ _ hSB9 (by omega) (by omega) (by omega) (by omega) (by omega)).mono ?_; rintro e wa ⟨f2, rfl, f20, f21, hSBa, hGa⟩
    have HF2 : Hid (bnd f2) := Lib.hid ⟨f20, f21⟩
    have hNa := hN9.grown hGa (fun e => by have := Option.some.inj e; omega)
    have hBa := hB9.grown hGa (fun e => by have := Option.some.inj e; omega)
    have hG0a := hG09.trans hGa
    clear hN9 hB9 hG09 hGa hSB9 f20 f21 hwr
    have n0 : wa.cell? ⟨g, 0, none⟩ = some (.int .i64 t) := hNa.cell 0
    have n1 : wa.cell? ⟨g, 1, none⟩ = some (.string k) := hNa.cell 1
    have n2 : wa.cell? ⟨g, 2, none⟩ = some (.int .i64 m) := hNa.cell 2
    have n3 : wa.cell? ⟨g, 3, none⟩ = some (.int .i64 f) := hNa.cell 3
    have x0 := hNa.free 0
    have x1 := hNa.free 1
    have x2 := hNa.free 2
    have x3 := hNa.free 3
    go_upto_region 4 with fail
    have hNb : Bk ((((wa.setCell ⟨g, 0, none⟩ (.int .i64 t2)).setCell ⟨g, 1, none⟩ (.string k2)).setCell ⟨g, 2, none⟩ (.int .i64 m2)).setCell ⟨g, 3, none⟩ (.int .i64 f2)) g 37 #[.int .i64 t2, .string k2, .int .i64 m2, .int .i64 f2] := (((hNa.set 0 _).set 1 _).set 2 _).set 3 _
    have hBb := (((hBa.far (p := ⟨g, 0, none⟩) (show w.heap.size ≠ g by omega) (.int .i64 t2)).far (p := ⟨g, 1, none⟩) (show w.heap.size ≠ g by omega) (.string k2)).far (p := ⟨g, 2, none⟩) (show w.heap.size ≠ g by omega) (.int .i64 m2)).far (p := ⟨g, 3, none⟩) (show w.heap.size ≠ g by omega) (.int .i64 f2)
    have hSBb := (((hSBa.setCell (p := ⟨g, 0, none⟩) hs4 (.int .i64 t2)).setCell (p := ⟨g, 1, none⟩) hs4 (.string k2)).setCell (p := ⟨g, 2, none⟩) hs4 (.int .i64 m2)).setCell (p := ⟨g, 3, none⟩) hs4 (.int .i64 f2)
    have hGb := (((hG0a.setCell (p := ⟨g, 0, none⟩) (.inl hgw) (.int .i64 t2)).setCell (p := ⟨g, 1, none⟩) (.inl hgw) (.string k2)).setCell (p := ⟨g, 2, none⟩) (.inl hgw) (.int .i64 m2)).setCell (p := ⟨g, 3, none⟩) (.inl hgw) (.int .i64 f2)
    generalize (((wa.setCell ⟨g, 0, none⟩ (.int .i64 t2)).setCell ⟨g, 1, none⟩ (.string k2)).setCell ⟨g, 2, none⟩ (.int .i64 m2)).setCell ⟨g, 3, none⟩ (.int .i64 f2) = wb at hNb hBb hSBb hGb ⊢
    go_wp2_with (first | (refine wpList_load_row rfl 37 _ rfl g rfl 37 #[.int .i64 t2, .string k2, .int .i64 m2, .int .i64 f2] (0, 0) _ hNb Tryd.underlying37 rfl (rg_info (t2, k2, m2, f2)) ?_) | (refine wpList_store_row rfl 37 _ _ rfl w.heap.size #[.int .i64 t2, .string k2, .int .i64 m2, .int .i64 f2] rfl rfl 37 _ hBb (rg_info (t2, k2, m2, f2)) rfl (rg_one (t2, k2, m2, f2)) ?_))
    refine bodyPost_ret (results_cell_row rfl _ _ w.heap.size 37 #[.int .i64 t2, .string k2, .int .i64 m2, .int .i64 f2] (0, 0) _ rfl (hBb.setRow _) Tryd.underlying37 rfl (rg_info (t2, k2, m2, f2))) rfl ?_
    exact reading_fin (r := (t2, k2, m2, f2)) hslt ⟨HT2.out, HK2.out, HM2.out, HF2.out⟩ (hSBb.le (by omega)) hGb
end Go.Proofs.YtpgamfoancomiaaDoor

/- Hires: what a function that Close hands on does with a hire. Its regions are written by gench.py. -/
namespace Go.Proofs.YtpgamfoancomiaaDoor
open Go.RowKit

/-- The last leg comes in so. -/
def inL (l : List Lg) (r : Rg) : List Lg := match l[l.length - 1]? with
  | some x => l.set (l.length - 1) (x.1, x.2.1, r)
  | none => l
theorem inL_len (l : List Lg) (r : Rg) : (inL l r).length = l.length := by
  unfold inL
  split
  · simp
  · rfl
theorem LgOk.inL {l : List Lg} {r : Rg} (h : LgOk l) (hr : Small r.2.1) : LgOk (inL l r) := by
  unfold Go.Proofs.YtpgamfoancomiaaDoor.inL
  split
  · next x hx =>
    intro y hy
    rcases List.mem_or_eq_of_mem_set hy with hy | rfl
    · exact h y hy
    · have := h x (List.mem_of_getElem? hx)
      exact ⟨this.1, this.2.1, hr⟩
  · exact h
theorem G.setCells (b : Nat) : ∀ (vs : List Value) (o : Nat) (w : World), G w (w.setCells b o vs) (some b)
  | [], _, _ => G.refl _ _
  | v :: r, o, w => by
    rw [World.setCells]
    exact ((G.refl w (some b)).setCell (p := ⟨b, o, none⟩) (.inr rfl) v).trans (G.setCells b r (o + 1) _)
theorem OwnX.form {α : Type} {T : TypeId} {z : Nat} {c : α → Array Value} {w : World} {base : Nat} {v : Value} {l : List α} (h : OwnX T z c w base v l) (h0 : 0 < l.length) : ∃ g cap cur, v = .slice (some ⟨g, 0, none⟩) l.length cap ∧ Bk w g T cur ∧ base ≤ g := by
  rcases h.2 with ⟨rfl, h3⟩ | ⟨g, cap, cur, rfl, hb, hg, _⟩
  · omega
  · exact ⟨g, cap, cur, rfl, hg, hb⟩
theorem there_lg {w : World} {base g1 cap : Nat} {l : List Lg} {p : Lg} (h : OwnLg w base (.slice (some ⟨g1, 0, none⟩) l.length cap) l) (hp : l[l.length - 1]? = some p) : w.there g1 ((l.length - 1) * 9 + 5) 4 := by
  obtain ⟨g, cap', cur, e, hB, -⟩ := OwnX.form h (by have := (List.getElem?_eq_some_iff.1 hp).1; omega)
  cases e
  intro j hj
  refine ⟨?_, hB.free _⟩
  obtain ⟨u, hu⟩ : ∃ u, (lgC p).toList[5 + j]? = some u := ⟨_, List.getElem?_eq_getElem (by simp [lgC]; omega)⟩
  have := RdR.cell lgC_sz (Rd.of_owns h) (G.refl w none) hp (5 + j) u hu
  rw [← Nat.add_assoc, Nat.zero_add] at this
  rw [this]
  rfl
theorem own_inL {w : World} {base g1 cap : Nat} {l : List Lg} {p : Lg} (h : OwnLg w base (.slice (some ⟨g1, 0, none⟩) l.length cap) l) (hp : l[l.length - 1]? = some p) (r : Rg) :
    OwnLg (w.setCells g1 ((l.length - 1) * 9 + 5) (#[.int .i64 r.1, .string r.2.1, .int .i64 r.2.2.1, .int .i64 r.2.2.2] : Array Value).toList) base (.slice (some ⟨g1, 0, none⟩) l.length cap) (inL l r) := by
  have e : inL l r = l.set (l.length - 1) (p.1, p.2.1, r) := by unfold inL; rw [hp]
  have hk := (List.getElem?_eq_some_iff.1 hp).1
  show World.ownsRow _ _ _ _ _ (inL l r).length _
  rw [inL_len, e]
  generalize l.length - 1 = k at hp hk ⊢
  have hs : ∀ q : Lg, (l.set k q)[k]? = some q := fun q => by rw [List.getElem?_set_self hk]
  have h1 := OwnX.set lgC_sz h hp 5 (.int .i64 r.1) (by omega) (q := (p.1, p.2.1, (r.1, p.2.2.2))) rfl
  have h2 := OwnX.set lgC_sz h1 (hs _) 6 (.string r.2.1) (by omega) (q := (p.1, p.2.1, (r.1, r.2.1, p.2.2.2.2))) rfl
  rw [List.set_set] at h2
  have h3 := OwnX.set lgC_sz h2 (hs _) 7 (.int .i64 r.2.2.1) (by omega) (q := (p.1, p.2.1, (r.1, r.2.1, r.2.2.1, p.2.2.2.2.2))) rfl
  rw [List.set_set] at h3
  have h4 := OwnX.set lgC_sz h3 (hs _) 8 (.int .i64 r.2.2.2) (by omega) (q := (p.1, p.2.1, r)) rfl
  rw [List.set_set] at h4
  exact h4
theorem cf_close : ∀ (args : Array Value) (w : World), (callFunc 76 args).run Tryd.prog w = .ok (.enter 76 args) w := fun args w => by kernel_rfl
theorem cf_closeR : ∀ (args : Array Value) (w : World), (callFunc 80 args).run Tryd.prog w = .ok (.enter 80 args) w := fun args w => by kernel_rfl
set_option maxRecDepth 100000 in
set_option maxHeartbeats 4000000 in
theorem close1_c (h : Hh) (l : List Lg) (r : Rg) (b : Nat) (A : World) (hB : Bk A b 37 (rgC r)) (h0 : 0 < l.length) (hn : l.length ≤ 1000) :
    ChFn 76 #[.pointer (some ⟨b, 0, none⟩)] h l h (inL l r) A := by
  intro w1 g base v1 hG hown hH hg hgb hbs
  have hb := hB.lt
  have hB1 := hB.quiet hG
  obtain ⟨g1, cap, cur, rfl, -, hg1⟩ := OwnX.form hown h0
  obtain ⟨p, hp⟩ : ∃ p, l[l.length - 1]? = some p := ⟨_, List.getElem?_eq_getElem (by omega)⟩
  have HP := Lib.hid hp
  have hne : g ≠ g1 := by omega
  have hnb : b ≠ g1 := by omega
  clear hp hB
  simp only [hiC, rgC] at hH hB1 ⊢
  go_enter Tryd.func76, Tryd.ntmps76
  have hH2 := hH.quiet ((G.refl w1 none).drew)
  have hB2 := hB1.quiet ((G.refl w1 none).drew)
  have HO2 := Lib.hid (OwnX.drew hown)
  have hG02 : G w1 w1.drew none := (G.refl w1 none).drew
  -- @REGION1
  refine wp_region_held_drew (S := (fun w' => w'.cell? ⟨g, 0, none⟩ = some (.string h.1) ∧ w'.cell? ⟨g, 1, none⟩ = some (.string h.2.1) ∧ w'.cell? ⟨g, 2, none⟩ = some (.int .i64 h.2.2.1) ∧ w'.cell? ⟨g, 3, none⟩ = some (.int .i64 h.2.2.2) ∧ w'.cell? ⟨g, 4, none⟩ = some (.slice (some ⟨g1, 0, none⟩) l.length cap) ∧ w'.cell? ⟨b, 0, none⟩ = some (.int .i64 r.1) ∧ w'.cell? ⟨b, 1, none⟩ = some (.string r.2.1) ∧ w'.cell? ⟨b, 2, none⟩ = some (.int .i64 r.2.2.1) ∧ w'.cell? ⟨b, 3, none⟩ = some (.int .i64 r.2.2.2))) (by kernel_rfl) ?_ (fun hHeld => ?_)
  · exact ⟨hH2.cell 0, hH2.cell 1, hH2.cell 2, hH2.cell 3, hH2.cell 4, hB2.cell 0, hB2.cell 1, hB2.cell 2, hB2.cell 3⟩
  refine wpAnyH_take (i := 0) (oi := { dst := some 3, op := Op.move (Operand.tmp 0), type := 112, pos := _, after := #[], guard := none }) (v := ?_) rfl (by kernel_rfl) (by kernel_rfl) (by kernel_rfl) (fun _ _ _ h => h) (Or.inl ⟨by rfl, ?_⟩) (by assumption) ?_
  rotate_left
  · (intro w hSw; obtain ⟨s0, s1, s2, s3, s4, s5, s6, s7, s8⟩ := hSw; (go_simp <;> with_reducible rfl))
  try simp only [Act.put, List.setIfInBounds_toArray, List.set_cons_zero, List.set_cons_succ]
  refine wpAnyH_take (i := 1) (oi := { dst := some 4, op := Op.nilCheck (Operand.tmp 3), type := 0, pos := _, after := #[{ on := 0, ground := Ground.data }], guard := none }) (v := ?_) rfl (by kernel_rfl) (by kernel_rfl) (by kernel_rfl) (fun _ _ _ h => h) (Or.inl ⟨by rfl, ?_⟩) (by assumption) ?_
  rotate_left
  · (intro w hSw; obtain ⟨s0, s1, s2, s3, s4, s5, s6, s7, s8⟩ := hSw; (go_simp <;> with_reducible rfl))
  try simp only [Act.put, List.setIfInBounds_toArray, List.set_cons_zero, List.set_cons_succ]
  refine wpAnyH_take (i := 2) (oi := { dst := some 5, op := Op.load 33 (Operand.tmp 4), type := 33, pos := _, after := #[{ on := 1, ground := Ground.data }], guard := none }) (v := ?_) rfl (by kernel_rfl) (by kernel_rfl) (by kernel_rfl) (fun _ _ _ h => h) (Or.inl ⟨by rfl, ?_⟩) (by assumption) ?_
  rotate_left
  · (intro w hSw; obtain ⟨s0, s1, s2, s3, s4, s5, s6, s7, s8⟩ := hSw; (go_simp <;> with_reducible rfl))
  try simp only [Act.put, List.setIfInBounds_toArray, List.set_cons_zero, List.set_cons_succ]
  refine wpAnyH_take (i := 4) (oi := { dst := some 7, op := Op.load 37 (Operand.tmp 1), type := 37, pos := _, after := #[], guard := none }) (v := ?_) rfl (by kernel_rfl) (by kernel_rfl) (by kernel_rfl) (fun _ _ _ h => h) (Or.inl ⟨by rfl, ?_⟩) (by assumption) ?_
  rotate_left
  · (intro w hSw; obtain ⟨s0, s1, s2, s3, s4, s5, s6, s7, s8⟩ := hSw; (go_simp <;> with_reducible rfl))
  try simp only [Act.put, List.setIfInBounds_toArray, List.set_cons_zero, List.set_cons_succ]
  refine wpAnyH_ready (rs := [3]) (by kernel_rfl) (by simp) ?_
  refine AllReadyH.cons (o := { dst := some 6, op := Op.call { callee := Callee.value (Operand.func 74), args := #[Operand.tmp 5], argTypes := #[33] }, type := 101, pos := _, after := #[{ on := 2, ground := Ground.data }], guard := none }) rfl (fun K hK => ?_) AllReadyH.nil
  go_simp
  refine (lastOf_c h g1 0 l.length cap _ h0 hn).mono ?_
  rintro e w3 ⟨rfl, hG3⟩
  have hH3 := hH2.quiet hG3
  have hB3 := hB2.quiet hG3
  have HO := Lib.hid (OwnX.quiet HO2.out hG3)
  have hG03 := hG02.trans hG3
  clear hG3
  refine hK.out _ _ ?_ (fun hHeld => ?_)
  · exact ⟨hH3.cell 0, hH3.cell 1, hH3.cell 2, hH3.cell 3, hH3.cell 4, hB3.cell 0, hB3.cell 1, hB3.cell 2, hB3.cell 3⟩
  clear hK K
  try simp only [Act.put, List.setIfInBounds_toArray, List.set_cons_zero, List.set_cons_succ]
  refine wpAnyH_take (i := 5) (oi := { dst := some 8, op := Op.nilCheck (Operand.tmp 6), type := 0, pos := _, after := #[{ on := 3, ground := Ground.data }, { on := 0, ground := Ground.phase }, { on := 1, ground := Ground.phase }, { on := 2, ground := Ground.phase }, { on := 3, ground := Ground.phase }, { on := 4, ground := Ground.phase }], guard := none }) (v := ?_) rfl (by kernel_rfl) (by kernel_rfl) (by kernel_rfl) (fun _ _ _ h => h) (Or.inl ⟨by rfl, ?_⟩) (by assumption) ?_
  rotate_left
  · (intro w hSw; obtain ⟨s0, s1, s2, s3, s4, s5, s6, s7, s8⟩ := hSw; (go_simp <;> with_reducible rfl))
  try simp only [Act.put, List.setIfInBounds_toArray, List.set_cons_zero, List.set_cons_succ]
  refine wpAnyH_take (i := 6) (oi := { dst := some 9, op := Op.fieldAddr 99 (Operand.tmp 8) 2, type := 0, pos := _, after := #[{ on := 5, ground := Ground.data }, { on := 0, ground := Ground.phase }, { on := 1, ground := Ground.phase }, { on := 2, ground := Ground.phase }, { on := 3, ground := Ground.phase }, { on := 4, ground := Ground.phase }], guard := none }) (v := ?_) rfl (by kernel_rfl) (by kernel_rfl) (by kernel_rfl) (fun _ _ _ h => h) (Or.inl ⟨by rfl, ?_⟩) (by assumption) ?_
  rotate_left
  · (intro w hSw; obtain ⟨s0, s1, s2, s3, s4, s5, s6, s7, s8⟩ := hSw; (go_simp <;> with_reducible rfl))
  try simp only [Act.put, List.setIfInBounds_toArray, List.set_cons_zero, List.set_cons_succ]
  refine wpAnyH_ready (rs := [7]) (by kernel_rfl) (by simp) ?_
  refine AllReadyH.cons (o := { dst := none, op := Op.store 37 (Operand.tmp 9) (Operand.tmp 7), type := 0, pos := _, after := #[{ on := 6, ground := Ground.data }, { on := 4, ground := Ground.data }, { on := 3, ground := Ground.chain }, { on := 0, ground := Ground.phase }, { on := 1, ground := Ground.phase }, { on := 2, ground := Ground.phase }, { on := 3, ground := Ground.phase }, { on := 4, ground := Ground.phase }], guard := none }) rfl (fun K hK => ?_) AllReadyH.nil
  refine st_wp rfl (wp_store_mid 37 _ _ rfl g1 ((l.length - 1) * 9 + 5) #[.int .i64 r.1, .string r.2.1, .int .i64 r.2.2.1, .int .i64 r.2.2.2] rfl rfl (there_lg HO.out HP.out) (rg_info r) (rg_one r) ?_)
  have hQ := own_inL HO.out HP.out r
  have hGs := G.setCells g1 (#[.int .i64 r.1, .string r.2.1, .int .i64 r.2.2.1, .int .i64 r.2.2.2] : Array Value).toList ((l.length - 1) * 9 + 5) w3
  have hH4 := hH3.grown hGs (fun e => hne (Option.some.inj e))
  have hB4 := hB3.grown hGs (fun e => hnb (Option.some.inj e))
  refine hK.out _ _ ?_ (fun hHeld => ?_)
  · exact ⟨hH4.cell 0, hH4.cell 1, hH4.cell 2, hH4.cell 3, hH4.cell 4, hB4.cell 0, hB4.cell 1, hB4.cell 2, hB4.cell 3⟩
  clear hK K
  try simp only [Act.put, List.setIfInBounds_toArray, List.set_cons_zero, List.set_cons_succ]
  refine wpAnyH_done (by kernel_rfl) ?_ _
  -- @END1
  go_wp2_with fail
  (try simp only [Exit.inBlock, Exit.then])
  refine bodyPost_end (results_none rfl _ _ _) rfl ?_
  exact ⟨rfl, _, hH4, Rd.of_owns hQ, fun k e => by cases e; exact hg1, (GS.of_G hG03).trans (GS.of_Gs hGs (.inr rfl))⟩
set_option maxRecDepth 100000 in
set_option maxHeartbeats 4000000 in
theorem closeR1_c (h : Hh) (l : List Lg) (r : Rg) (b : Nat) (A : World) (hB : Bk A b 37 (rgC r)) (h0 : 0 < l.length) (hn : l.length ≤ 1000) :
    ChFn 80 #[.pointer (some ⟨b, 0, none⟩)] h l h (inL l r) A := by
  intro w1 g base v1 hG hown hH hg hgb hbs
  have hb := hB.lt
  have hB1 := hB.quiet hG
  obtain ⟨g1, cap, cur, rfl, -, hg1⟩ := OwnX.form hown h0
  obtain ⟨p, hp⟩ : ∃ p, l[l.length - 1]? = some p := ⟨_, List.getElem?_eq_getElem (by omega)⟩
  have hne : g ≠ g1 := by omega
  have hnb : b ≠ g1 := by omega
  clear hB
  simp only [hiC, rgC] at hH hB1 ⊢
  go_enter Tryd.func80, Tryd.ntmps80
  have hH2 := hH.quiet ((G.refl w1 none).drew)
  have hB2 := hB1.quiet ((G.refl w1 none).drew)
  have HTH := Lib.hid (there_lg (OwnX.drew hown) hp)
  have hQ := Lib.hid (own_inL (OwnX.drew hown) hp r)
  have hG02 : G w1 w1.drew none := (G.refl w1 none).drew
  obtain ⟨m, hm⟩ : ∃ m, l.length - 1 = m := ⟨_, rfl⟩
  have hw : IntKind.i64.wrap ((l.length : Int) - 1) = (m : Int) := by rw [IntKind.wrap_i64]; omega
  have hlt : m < l.length := by omega
  rw [hm] at HTH hQ
  clear hm hp
  -- @REGION2
  refine wp_region_held_drew (S := (fun w' => w'.cell? ⟨g, 0, none⟩ = some (.string h.1) ∧ w'.cell? ⟨g, 1, none⟩ = some (.string h.2.1) ∧ w'.cell? ⟨g, 2, none⟩ = some (.int .i64 h.2.2.1) ∧ w'.cell? ⟨g, 3, none⟩ = some (.int .i64 h.2.2.2) ∧ w'.cell? ⟨g, 4, none⟩ = some (.slice (some ⟨g1, 0, none⟩) l.length cap) ∧ w'.cell? ⟨b, 0, none⟩ = some (.int .i64 r.1) ∧ w'.cell? ⟨b, 1, none⟩ = some (.string r.2.1) ∧ w'.cell? ⟨b, 2, none⟩ = some (.int .i64 r.2.2.1) ∧ w'.cell? ⟨b, 3, none⟩ = some (.int .i64 r.2.2.2))) (by kernel_rfl) ?_ (fun hHeld => ?_)
  · exact ⟨hH2.cell 0, hH2.cell 1, hH2.cell 2, hH2.cell 3, hH2.cell 4, hB2.cell 0, hB2.cell 1, hB2.cell 2, hB2.cell 3⟩
  refine wpAnyH_take (i := 0) (oi := { dst := some 3, op := Op.move (Operand.tmp 0), type := 112, pos := _, after := #[], guard := none }) (v := ?_) rfl (by kernel_rfl) (by kernel_rfl) (by kernel_rfl) (fun _ _ _ h => h) (Or.inl ⟨by rfl, ?_⟩) (by assumption) ?_
  rotate_left
  · (intro w hSw; obtain ⟨s0, s1, s2, s3, s4, s5, s6, s7, s8⟩ := hSw; (go_simp <;> with_reducible rfl))
  try simp only [Act.put, List.setIfInBounds_toArray, List.set_cons_zero, List.set_cons_succ]
  refine wpAnyH_take (i := 1) (oi := { dst := some 4, op := Op.nilCheck (Operand.tmp 3), type := 0, pos := _, after := #[{ on := 0, ground := Ground.data }], guard := none }) (v := ?_) rfl (by kernel_rfl) (by kernel_rfl) (by kernel_rfl) (fun _ _ _ h => h) (Or.inl ⟨by rfl, ?_⟩) (by assumption) ?_
  rotate_left
  · (intro w hSw; obtain ⟨s0, s1, s2, s3, s4, s5, s6, s7, s8⟩ := hSw; (go_simp <;> with_reducible rfl))
  try simp only [Act.put, List.setIfInBounds_toArray, List.set_cons_zero, List.set_cons_succ]
  refine wpAnyH_take (i := 2) (oi := { dst := some 5, op := Op.fieldAddr 33 (Operand.tmp 4) 3, type := 0, pos := _, after := #[{ on := 1, ground := Ground.data }], guard := none }) (v := ?_) rfl (by kernel_rfl) (by kernel_rfl) (by kernel_rfl) (fun _ _ _ h => h) (Or.inl ⟨by rfl, ?_⟩) (by assumption) ?_
  rotate_left
  · (intro w hSw; obtain ⟨s0, s1, s2, s3, s4, s5, s6, s7, s8⟩ := hSw; (go_simp <;> with_reducible rfl))
  try simp only [Act.put, List.setIfInBounds_toArray, List.set_cons_zero, List.set_cons_succ]
  refine wpAnyH_take (i := 3) (oi := { dst := some 6, op := Op.load 31 (Operand.tmp 5), type := 31, pos := _, after := #[{ on := 2, ground := Ground.data }], guard := none }) (v := ?_) rfl (by kernel_rfl) (by kernel_rfl) (by kernel_rfl) (fun _ _ _ h => h) (Or.inl ⟨by rfl, ?_⟩) (by assumption) ?_
  rotate_left
  · (intro w hSw; obtain ⟨s0, s1, s2, s3, s4, s5, s6, s7, s8⟩ := hSw; (go_simp <;> with_reducible rfl))
  try simp only [Act.put, List.setIfInBounds_toArray, List.set_cons_zero, List.set_cons_succ]
  refine wpAnyH_take (i := 4) (oi := { dst := some 7, op := Op.move (Operand.tmp 0), type := 112, pos := _, after := #[], guard := none }) (v := ?_) rfl (by kernel_rfl) (by kernel_rfl) (by kernel_rfl) (fun _ _ _ h => h) (Or.inl ⟨by rfl, ?_⟩) (by assumption) ?_
  rotate_left
  · (intro w hSw; obtain ⟨s0, s1, s2, s3, s4, s5, s6, s7, s8⟩ := hSw; (go_simp <;> with_reducible rfl))
  try simp only [Act.put, List.setIfInBounds_toArray, List.set_cons_zero, List.set_cons_succ]
  refine wpAnyH_take (i := 5) (oi := { dst := some 8, op := Op.nilCheck (Operand.tmp 7), type := 0, pos := _, after := #[{ on := 4, ground := Ground.data }], guard := none }) (v := ?_) rfl (by kernel_rfl) (by kernel_rfl) (by kernel_rfl) (fun _ _ _ h => h) (Or.inl ⟨by rfl, ?_⟩) (by assumption) ?_
  rotate_left
  · (intro w hSw; obtain ⟨s0, s1, s2, s3, s4, s5, s6, s7, s8⟩ := hSw; (go_simp <;> with_reducible rfl))
  try simp only [Act.put, List.setIfInBounds_toArray, List.set_cons_zero, List.set_cons_succ]
  refine wpAnyH_take (i := 6) (oi := { dst := some 9, op := Op.fieldAddr 33 (Operand.tmp 8) 3, type := 0, pos := _, after := #[{ on := 5, ground := Ground.data }], guard := none }) (v := ?_) rfl (by kernel_rfl) (by kernel_rfl) (by kernel_rfl) (fun _ _ _ h => h) (Or.inl ⟨by rfl, ?_⟩) (by assumption) ?_
  rotate_left
  · (intro w hSw; obtain ⟨s0, s1, s2, s3, s4, s5, s6, s7, s8⟩ := hSw; (go_simp <;> with_reducible rfl))
  try simp only [Act.put, List.setIfInBounds_toArray, List.set_cons_zero, List.set_cons_succ]
  refine wpAnyH_take (i := 7) (oi := { dst := some 10, op := Op.load 31 (Operand.tmp 9), type := 31, pos := _, after := #[{ on := 6, ground := Ground.data }], guard := none }) (v := ?_) rfl (by kernel_rfl) (by kernel_rfl) (by kernel_rfl) (fun _ _ _ h => h) (Or.inl ⟨by rfl, ?_⟩) (by assumption) ?_
  rotate_left
  · (intro w hSw; obtain ⟨s0, s1, s2, s3, s4, s5, s6, s7, s8⟩ := hSw; (go_simp <;> with_reducible rfl))
  try simp only [Act.put, List.setIfInBounds_toArray, List.set_cons_zero, List.set_cons_succ]
  refine wpAnyH_take (i := 8) (oi := { dst := some 11, op := Op.call { callee := Callee.builtin Builtin.len, args := #[Operand.tmp 10], argTypes := #[31] }, type := 3, pos := _, after := #[{ on := 7, ground := Ground.data }], guard := none }) (v := ?_) rfl (by kernel_rfl) (by kernel_rfl) (by kernel_rfl) (fun _ _ _ h => h) (Or.inl ⟨by rfl, ?_⟩) (by assumption) ?_
  rotate_left
  · (intro w hSw; obtain ⟨s0, s1, s2, s3, s4, s5, s6, s7, s8⟩ := hSw; (go_simp <;> with_reducible rfl))
  try simp only [Act.put, List.setIfInBounds_toArray, List.set_cons_zero, List.set_cons_succ]
  refine wpAnyH_take (i := 9) (oi := { dst := some 12, op := Op.binOp BinOp.sub 3 (Operand.tmp 11) (Operand.const (Value.int IntKind.i64 1)) 3, type := 3, pos := _, after := #[{ on := 8, ground := Ground.data }], guard := none }) (v := ?_) rfl (by kernel_rfl) (by kernel_rfl) (by kernel_rfl) (fun _ _ _ h => h) (Or.inl ⟨by rfl, ?_⟩) (by assumption) ?_
  rotate_left
  · (intro w hSw; obtain ⟨s0, s1, s2, s3, s4, s5, s6, s7, s8⟩ := hSw; (go_simp <;> with_reducible rfl))
  try simp only [Act.put, List.setIfInBounds_toArray, List.set_cons_zero, List.set_cons_succ]
  refine wpAnyH_take (i := 10) (oi := { dst := some 13, op := Op.load 37 (Operand.tmp 1), type := 37, pos := _, after := #[], guard := none }) (v := ?_) rfl (by kernel_rfl) (by kernel_rfl) (by kernel_rfl) (fun _ _ _ h => h) (Or.inl ⟨by rfl, ?_⟩) (by assumption) ?_
  rotate_left
  · (intro w hSw; obtain ⟨s0, s1, s2, s3, s4, s5, s6, s7, s8⟩ := hSw; (go_simp <;> with_reducible rfl))
  try simp only [Act.put, List.setIfInBounds_toArray, List.set_cons_zero, List.set_cons_succ]
  refine wpAnyH_take (i := 11) (oi := { dst := some 14, op := Op.indexAddr 31 (Operand.tmp 6) (Operand.tmp 12), type := 0, pos := _, after := #[{ on := 3, ground := Ground.data }, { on := 9, ground := Ground.data }, { on := 0, ground := Ground.phase }, { on := 1, ground := Ground.phase }, { on := 2, ground := Ground.phase }, { on := 3, ground := Ground.phase }, { on := 4, ground := Ground.phase }, { on := 5, ground := Ground.phase }, { on := 6, ground := Ground.phase }, { on := 7, ground := Ground.phase }, { on := 8, ground := Ground.phase }, { on := 9, ground := Ground.phase }, { on := 10, ground := Ground.phase }], guard := none }) (v := ?_) rfl (by kernel_rfl) (by kernel_rfl) (by kernel_rfl) (fun _ _ _ h => h) (Or.inl ⟨by rfl, ?_⟩) (by assumption) ?_
  rotate_left
  · (intro w hSw; obtain ⟨s0, s1, s2, s3, s4, s5, s6, s7, s8⟩ := hSw; (go_simp <;> with_reducible rfl))
  try simp only [Act.put, List.setIfInBounds_toArray, List.set_cons_zero, List.set_cons_succ]
  refine wpAnyH_take (i := 12) (oi := { dst := some 15, op := Op.fieldAddr 99 (Operand.tmp 14) 2, type := 0, pos := _, after := #[{ on := 11, ground := Ground.data }, { on := 0, ground := Ground.phase }, { on := 1, ground := Ground.phase }, { on := 2, ground := Ground.phase }, { on := 3, ground := Ground.phase }, { on := 4, ground := Ground.phase }, { on := 5, ground := Ground.phase }, { on := 6, ground := Ground.phase }, { on := 7, ground := Ground.phase }, { on := 8, ground := Ground.phase }, { on := 9, ground := Ground.phase }, { on := 10, ground := Ground.phase }], guard := none }) (v := ?_) rfl (by kernel_rfl) (by kernel_rfl) (by kernel_rfl) (fun _ _ _ h => h) (Or.inl ⟨by rfl, ?_⟩) (by assumption) ?_
  rotate_left
  · (intro w hSw; obtain ⟨s0, s1, s2, s3, s4, s5, s6, s7, s8⟩ := hSw; (go_simp <;> with_reducible rfl))
  try simp only [Act.put, List.setIfInBounds_toArray, List.set_cons_zero, List.set_cons_succ]
  refine wpAnyH_ready (rs := [13]) (by kernel_rfl) (by simp) ?_
  refine AllReadyH.cons (o := { dst := none, op := Op.store 37 (Operand.tmp 15) (Operand.tmp 13), type := 0, pos := _, after := #[{ on := 12, ground := Ground.data }, { on := 10, ground := Ground.data }, { on := 0, ground := Ground.phase }, { on := 1, ground := Ground.phase }, { on := 2, ground := Ground.phase }, { on := 3, ground := Ground.phase }, { on := 4, ground := Ground.phase }, { on := 5, ground := Ground.phase }, { on := 6, ground := Ground.phase }, { on := 7, ground := Ground.phase }, { on := 8, ground := Ground.phase }, { on := 9, ground := Ground.phase }, { on := 10, ground := Ground.phase }], guard := none }) rfl (fun K hK => ?_) AllReadyH.nil
  refine st_wp rfl (wp_store_mid 37 _ _ rfl g1 (m * 9 + 5) #[.int .i64 r.1, .string r.2.1, .int .i64 r.2.2.1, .int .i64 r.2.2.2] rfl rfl (HTH.out) (rg_info r) (rg_one r) ?_)
  have hGs := G.setCells g1 (#[.int .i64 r.1, .string r.2.1, .int .i64 r.2.2.1, .int .i64 r.2.2.2] : Array Value).toList (m * 9 + 5) w1.drew
  have hH4 := hH2.grown hGs (fun e => hne (Option.some.inj e))
  have hB4 := hB2.grown hGs (fun e => hnb (Option.some.inj e))
  refine hK.out _ _ ?_ (fun hHeld => ?_)
  · exact ⟨hH4.cell 0, hH4.cell 1, hH4.cell 2, hH4.cell 3, hH4.cell 4, hB4.cell 0, hB4.cell 1, hB4.cell 2, hB4.cell 3⟩
  clear hK K
  try simp only [Act.put, List.setIfInBounds_toArray, List.set_cons_zero, List.set_cons_succ]
  refine wpAnyH_done (by kernel_rfl) ?_ _
  -- @END2
  go_wp2_with fail
  (try simp only [Exit.inBlock, Exit.then])
  refine bodyPost_end (results_none rfl _ _ _) rfl ?_
  exact ⟨rfl, _, hH4, Rd.of_owns hQ.out, fun k e => by cases e; exact hg1, (GS.of_G hG02).trans (GS.of_Gs hGs (.inr rfl))⟩
end Go.Proofs.YtpgamfoancomiaaDoor

/- A region that draws its order, told operation by operation: each one's value is told once, whatever the order. No program. -/
namespace Go.Proofs.YtpgamfoancomiaaDoor
open Go.RowKit

/-- What an operation left. -/
def valOf (a : Act) (o : Oper) : Value := match o.dst with | some d => a.tmps.getD d undef | none => undef
/-- Values put where the operations put theirs. -/
def putAll (f : Nat → Value) : Nat → List Oper → Act → Act
  | _, [], a => a
  | i, o :: r, a => putAll f (i + 1) r (a.put o.dst (f i))
def dstsOf (l : List Oper) : List Nat := l.filterMap (·.dst)
/-- No guards; who is waited for stands ahead; each writes a slot of its own, that there is. -/
def stepsB (md : Region.Mode) (l : List Oper) (n : Nat) : Bool :=
  (l.zipIdx.all fun p => p.1.guard.isNone && (p.1.after.all fun e => !Region.binds md e || decide (e.on < p.2)) && (match p.1.dst with | some d => decide (d < n) | none => true)) && decide (dstsOf l).Nodup
/-- Is number j waited for by o? -/
def predB (md : Region.Mode) (o : Oper) (j : Nat) : Bool := o.after.any fun e => Region.binds md e && e.on == j
def Same (ops : List Oper) (a0 a : Act) : Prop := a.defers = a0.defers ∧ a.tmps.size = a0.tmps.size ∧ ∀ d, d ∉ dstsOf ops → a.tmps.getD d undef = a0.tmps.getD d undef
theorem put_defers (a : Act) (d : Option Tmp) (v : Value) : (a.put d v).defers = a.defers := by cases d <;> rfl
theorem put_size (a : Act) (d : Option Tmp) (v : Value) : (a.put d v).tmps.size = a.tmps.size := by cases d <;> simp [Act.put]
theorem put_getD_ne (a : Act) (d : Option Tmp) (v : Value) (k : Nat) (h : d ≠ some k) : (a.put d v).tmps.getD k undef = a.tmps.getD k undef := by
  cases d with
  | none => rfl
  | some d =>
    have : d ≠ k := fun e => h (by rw [e])
    simp [Act.put, this]
theorem put_getD (a : Act) (d : Nat) (v : Value) (h : d < a.tmps.size) : (a.put (some d) v).tmps.getD d undef = v := by
  simp [Act.put, h]
section
variable {P : Program} {Q : Exit → Act → World → Prop} {md : Region.Mode}
/-- What an operation is asked for. -/
def StepOk (P : Program) (md : Region.Mode) (Q : Exit → Act → World → Prop) (ops : List Oper) (a0 : Act) (J : Nat → World → Prop) (V : Nat → Value → World → Prop) (Kp : World → World → Prop) (i : Nat) (o : Oper) : Prop :=
  ∀ n a w, J n w → Same ops a0 a → (∀ j oj, predB md o j = true → ops[j]? = some oj → V j (valOf a oj) w) → ∀ K : Act → World → Prop, (∀ v w', (o.dst = none → v = undef) → V i v w' → J (n + 1) w' → Kp w w' → K (a.put o.dst v) w') → Oper.wp P o a w K Q
def AllOk (P : Program) (md : Region.Mode) (Q : Exit → Act → World → Prop) (ops : List Oper) (a0 : Act) (J : Nat → World → Prop) (V : Nat → Value → World → Prop) (Kp : World → World → Prop) : Nat → List Oper → Prop
  | _, [] => True
  | i, o :: r => StepOk P md Q ops a0 J V Kp i o ∧ AllOk P md Q ops a0 J V Kp (i + 1) r
theorem allOk_at {ops : List Oper} {a0 : Act} {J : Nat → World → Prop} {V : Nat → Value → World → Prop} {Kp : World → World → Prop} : ∀ (l : List Oper) (b : Nat), AllOk P md Q ops a0 J V Kp b l → ∀ (i : Nat) (o : Oper), l[i]? = some o → StepOk P md Q ops a0 J V Kp (b + i) o
  | [], _, _, i, o, h => by simp at h
  | x :: r, b, hA, i, o, h => by
    cases i with
    | zero => obtain rfl : x = o := by simpa using h
              exact hA.1
    | succ i =>
      have := allOk_at r (b + 1) hA.2 i o (by simpa using h)
      rwa [show b + 1 + i = b + (i + 1) by omega] at this
theorem dst_mem {l : List Oper} {i : Nat} {o : Oper} {d : Nat} (h : l[i]? = some o) (hd : o.dst = some d) : d ∈ dstsOf l :=
  List.mem_filterMap.2 ⟨o, List.mem_of_getElem? h, hd⟩
theorem dst_inj : ∀ {l : List Oper}, (dstsOf l).Nodup → ∀ {i j : Nat} {o p : Oper} {d : Nat}, l[i]? = some o → l[j]? = some p → o.dst = some d → p.dst = some d → i = j
  | [], _, i, _, _, _, _, h, _, _, _ => by simp at h
  | x :: r, hn, i, j, o, p, d, hi, hj, ho, hp => by
    have hr : (dstsOf r).Nodup := by
      unfold dstsOf at hn ⊢
      rw [List.filterMap_cons] at hn
      split at hn
      · exact hn
      · exact (List.nodup_cons.1 hn).2
    have hx : ∀ {k : Nat} {q : Oper}, x.dst = some d → r[k]? = some q → q.dst = some d → False := fun {k q} h1 h2 h3 => by
      unfold dstsOf at hn
      rw [List.filterMap_cons, h1] at hn
      exact (List.nodup_cons.1 hn).1 (dst_mem h2 h3)
    cases i with
    | zero =>
      obtain rfl : x = o := by simpa using hi
      cases j with
      | zero => rfl
      | succ j => exact (hx ho (by simpa using hj) hp).elim
    | succ i =>
      cases j with
      | zero =>
        obtain rfl : x = p := by simpa using hj
        exact (hx hp (by simpa using hi) ho).elim
      | succ j => exact congrArg (· + 1) (dst_inj hr (i := i) (j := j) (by simpa using hi) (by simpa using hj) ho hp)
theorem putAll_same (f : Nat → Value) : ∀ (l : List Oper) (i : Nat) (a : Act), (putAll f i l a).defers = a.defers ∧ (putAll f i l a).tmps.size = a.tmps.size ∧ ∀ d, d ∉ dstsOf l → (putAll f i l a).tmps.getD d undef = a.tmps.getD d undef
  | [], _, a => ⟨rfl, rfl, fun _ _ => rfl⟩
  | o :: r, i, a => by
    obtain ⟨h1, h2, h3⟩ := putAll_same f r (i + 1) (a.put o.dst (f i))
    refine ⟨h1.trans (put_defers _ _ _), h2.trans (put_size _ _ _), fun d hd => ?_⟩
    have hd2 : d ∉ dstsOf r := fun h => hd (by
      unfold dstsOf at h ⊢
      rw [List.filterMap_cons]
      split
      · exact h
      · exact List.mem_cons_of_mem _ h)
    refine (h3 d hd2).trans (put_getD_ne _ _ _ _ fun e => hd ?_)
    unfold dstsOf
    rw [List.filterMap_cons, e]
    exact List.mem_cons_self ..
theorem putAll_at (f : Nat → Value) : ∀ (l : List Oper) (b : Nat) (a : Act), (dstsOf l).Nodup → (∀ d ∈ dstsOf l, d < a.tmps.size) → ∀ (i : Nat) (o : Oper) (d : Nat), l[i]? = some o → o.dst = some d → (putAll f b l a).tmps.getD d undef = f (b + i)
  | [], _, _, _, _, i, o, d, h, _ => by simp at h
  | x :: r, b, a, hn, hlt, i, o, d, h, hd => by
    have hr : (dstsOf r).Nodup := by
      unfold dstsOf at hn ⊢
      rw [List.filterMap_cons] at hn
      split at hn
      · exact hn
      · exact (List.nodup_cons.1 hn).2
    have hltr : ∀ d ∈ dstsOf r, d < (a.put x.dst (f b)).tmps.size := fun d hd => by
      rw [put_size]
      refine hlt d ?_
      unfold dstsOf at hd ⊢
      rw [List.filterMap_cons]
      split
      · exact hd
      · exact List.mem_cons_of_mem _ hd
    cases i with
    | zero =>
      obtain rfl : x = o := by simpa using h
      have hnd : d ∉ dstsOf r := fun hm => by
        unfold dstsOf at hn
        rw [List.filterMap_cons, hd] at hn
        exact (List.nodup_cons.1 hn).1 hm
      show (putAll f (b + 1) r (a.put x.dst (f b))).tmps.getD d undef = f b
      rw [(putAll_same f r (b + 1) _).2.2 d hnd, hd]
      exact put_getD _ _ _ (hlt d (dst_mem (l := x :: r) (i := 0) rfl hd))
    | succ i =>
      have := putAll_at f r (b + 1) (a.put x.dst (f b)) hr hltr i o d (by simpa using h) hd
      rw [show b + 1 + i = b + (i + 1) by omega] at this
      exact this
theorem act_ext {a b : Act} (h1 : a.defers = b.defers) (h2 : a.tmps.size = b.tmps.size) (h3 : ∀ d, a.tmps.getD d undef = b.tmps.getD d undef) : a = b := by
  obtain ⟨t, d⟩ := a
  obtain ⟨t', d'⟩ := b
  dsimp only at h1 h2 h3
  subst h1
  congr 1
  apply Array.ext h2
  intro i hi hj
  have := h3 i
  simpa [hi, hj] using this
theorem act_putAll {ops : List Oper} {a0 a : Act} (hn : (dstsOf ops).Nodup) (hlt : ∀ d ∈ dstsOf ops, d < a0.tmps.size) (h : Same ops a0 a) : a = putAll (fun i => match ops[i]? with | some o => valOf a o | none => undef) 0 ops a0 := by
  obtain ⟨h1, h2, h3⟩ := h
  obtain ⟨k1, k2, k3⟩ := putAll_same (fun i => match ops[i]? with | some o => valOf a o | none => undef) ops 0 a0
  refine act_ext (h1.trans k1.symm) (h2.trans k2.symm) fun d => ?_
  by_cases hd : d ∈ dstsOf ops
  · obtain ⟨o, ho, hod⟩ := List.mem_filterMap.1 hd
    obtain ⟨i, hi⟩ := List.getElem?_of_mem ho
    rw [putAll_at _ ops 0 a0 hn hlt i o d hi hod, Nat.zero_add]
    simp only [hi]
    unfold valOf
    rw [hod]
  · rw [h3 d hd, k3 d hd]
theorem count_set (listed : Array Bool) (i : Nat) (h : listed.getD i true = false) : (listed.setIfInBounds i true).toList.countP (fun b => !b) + 1 = listed.toList.countP (fun b => !b) := by
  have hi : i < listed.size := by
    rcases Nat.lt_or_ge i listed.size with h' | h'
    · exact h'
    · simp [Array.getElem?_eq_none h'] at h
  have hv : listed[i] = false := by simpa [hi] using h
  rw [Array.toList_setIfInBounds, List.countP_set (by simpa using hi)]
  have hp : 0 < listed.toList.countP (fun b => !b) := List.countP_pos_iff.2 ⟨listed[i], by simp, by simp [hv]⟩
  have e : listed.toList[i]'(by simpa using hi) = false := by simpa using hv
  rw [e]
  simp only [Bool.not_false, Bool.not_true, if_true, Bool.false_eq_true, if_false]
  omega
/-- The law. -/
theorem wpAny_steps {l : List Oper} {a0 : Act} (J : Nat → World → Prop) (V : Nat → Value → World → Prop) (Kp : World → World → Prop) (n : Nat) (hn : a0.tmps.size = n) (hB : stepsB md l n = true)
    (keep : ∀ i v w w', Kp w w' → V i v w → V i v w') (step : AllOk P md Q l a0 J V Kp 0 l)
    (fin : ∀ (f : Nat → Value) w, J l.length w → (∀ i, i < l.length → V i (f i) w) → Q .normal (putAll f 0 l a0) w) :
    ∀ (fuel : Nat) (listed : Array Bool) (a : Act) (w : World), listed.size = l.length → listed.toList.countP (fun b => !b) = fuel → Same l a0 a → J (l.length - fuel) w → (∀ i o, l[i]? = some o → listed.getD i true = true → V i (valOf a o) w) → wpAny P md l.toArray Q fuel listed a w := by
  unfold stepsB at hB
  rw [Bool.and_eq_true, decide_eq_true_iff, List.all_eq_true] at hB
  obtain ⟨hB1, hnd⟩ := hB
  have hat : ∀ (i : Nat) (o : Oper), l[i]? = some o → o.guard = none ∧ (∀ e ∈ o.after, Region.binds md e = true → e.on < i) ∧ ∀ d, o.dst = some d → d < n := fun i o h => by
    have := hB1 (o, i) (List.mem_zipIdx_iff_getElem?.2 (by simpa using h))
    simp only [Bool.and_eq_true, Array.all_eq_true', Bool.or_eq_true, Bool.not_eq_true', decide_eq_true_eq] at this
    obtain ⟨⟨h1, h2⟩, h3⟩ := this
    refine ⟨Option.isNone_iff_eq_none.1 h1, fun e he hb => ?_, fun d hd => ?_⟩
    · rcases h2 e he with h | h
      · rw [hb] at h; cases h
      · exact h
    · rw [hd] at h3
      simpa using h3
  have hlt : ∀ d ∈ dstsOf l, d < a0.tmps.size := fun d hd => by
    obtain ⟨o, ho, hod⟩ := List.mem_filterMap.1 hd
    obtain ⟨i, hi⟩ := List.getElem?_of_mem ho
    rw [hn]
    exact (hat i o hi).2.2 d hod
  have done : ∀ (listed : Array Bool) (a : Act) (w : World), listed.size = l.length → (∀ i, i < l.length → listed.getD i true = true) → Same l a0 a → J l.length w → (∀ i o, l[i]? = some o → listed.getD i true = true → V i (valOf a o) w) → Q .normal a w := by
    intro listed a w hs hall hsame hJ hV
    rw [act_putAll hnd hlt hsame]
    refine fin _ w hJ fun i hi => ?_
    have hg : l[i]? = some l[i] := List.getElem?_eq_getElem hi
    rw [hg]
    exact hV i _ hg (hall i hi)
  have alls : ∀ (listed : Array Bool), Region.ready md l.toArray listed = [] → ∀ i, i < l.length → listed.getD i true = true := by
    intro listed hr i
    induction i using Nat.strongRecOn with
    | ind i ih =>
      intro hi
      cases hb : listed.getD i true with
      | true => rfl
      | false =>
        exfalso
        have hg : l[i]? = some l[i] := List.getElem?_eq_getElem hi
        have hm : i ∈ Region.ready md l.toArray listed := mem_ready.2 ⟨hb, l[i], by simp, fun e he hbd => by
          have hlt := (hat i _ hg).2.1 e he hbd
          have h1 := ih e.on hlt (by omega)
          have h2 : i < listed.size := by
            rcases Nat.lt_or_ge i listed.size with h' | h'
            · exact h'
            · simp [Array.getElem?_eq_none h'] at hb
          have h3 : e.on < listed.size := by omega
          simpa [h3] using h1⟩
        rw [hr] at hm
        cases hm
  intro fuel
  induction fuel with
  | zero =>
    intro listed a w hs hc hsame hJ hV
    have hall : ∀ i, i < l.length → listed.getD i true = true := fun i hi => by
      cases hb : listed.getD i true with
      | true => rfl
      | false => have := count_set listed i hb; omega
    refine ⟨?_, done listed a w hs hall hsame hJ hV⟩
    refine List.eq_nil_iff_forall_not_mem.2 fun i hi => ?_
    obtain ⟨h1, o, h2, _⟩ := mem_ready.1 hi
    have h3 : i < l.length := by
      have := (Array.getElem?_eq_some_iff.1 h2).1
      simpa using this
    rw [hall i h3] at h1
    cases h1
  | succ fuel ih =>
    intro listed a w hs hc hsame hJ hV
    have hcl : listed.toList.countP (fun b => !b) ≤ l.length := by
      have := List.countP_le_length (p := fun b => !b) (l := listed.toList)
      simpa [hs] using this
    refine ⟨fun hr => ?_, fun i hi => ?_⟩
    · have hall := alls listed hr
      exfalso
      have h0 : listed.toList.countP (fun b => !b) = 0 := List.countP_eq_zero.2 fun b hb => by
        obtain ⟨k, hk, rfl⟩ := List.getElem_of_mem hb
        have hk' : k < listed.size := by simpa using hk
        have := hall k (by omega)
        simp [hk'] at this
        simp [this]
      omega
    · obtain ⟨hun, o, ho, hafter⟩ := mem_ready.1 hi
      have hol : l[i]? = some o := by simpa using ho
      obtain ⟨hg, hord, hd⟩ := hat i o hol
      have hil : i < listed.size := by
        rcases Nat.lt_or_ge i listed.size with h' | h'
        · exact h'
        · simp [Array.getElem?_eq_none h'] at hun
      refine wpOp_step ho fun K' hK => ?_
      rw [if_pos (by simp [Region.wanted, hg])]
      have hst := allOk_at l 0 step i o hol
      rw [Nat.zero_add] at hst
      refine hst (l.length - (fuel + 1)) a w hJ hsame (fun j oj hp hj => ?_) K' (fun v w' hvu hv hJ' hkp => hK _ _ ?_)
      · unfold predB at hp
        rw [Array.any_eq_true'] at hp
        obtain ⟨e, he, h2⟩ := hp
        rw [Bool.and_eq_true, beq_iff_eq] at h2
        obtain ⟨h2, rfl⟩ := h2
        refine hV e.on oj hj ?_
        have h3 := hafter e he h2
        have h4 : e.on < listed.size := by have := hord e he h2; omega
        simpa [h4] using h3
      · refine ih (listed.setIfInBounds i true) (a.put o.dst v) w' (by simpa using hs) (by have := count_set listed i hun; omega) ?_ ?_ ?_
        · obtain ⟨s1, s2, s3⟩ := hsame
          refine ⟨(put_defers _ _ _).trans s1, (put_size _ _ _).trans s2, fun d hdn => ?_⟩
          rw [put_getD_ne _ _ _ _ (fun e => hdn (dst_mem hol e))]
          exact s3 d hdn
        · rw [show l.length - fuel = l.length - (fuel + 1) + 1 by omega]
          exact hJ'
        · intro j oj hj hl
          by_cases hij : i = j
          · subst hij
            rw [hol] at hj
            obtain rfl := Option.some.inj hj
            cases hod : o.dst with
            | none =>
              have : valOf (a.put none v) o = undef := by unfold valOf; rw [hod]
              rw [this, ← hvu hod]
              exact hv
            | some d =>
              have : valOf (a.put (some d) v) o = v := by
                unfold valOf
                rw [hod]
                exact put_getD a d v (by rw [hsame.2.1, hn]; exact hd d hod)
              rw [this]
              exact hv
          · rw [getD_set_ne true hij] at hl
            have hold := keep j _ w w' hkp (hV j oj hj hl)
            have : valOf (a.put o.dst v) oj = valOf a oj := by
              unfold valOf
              cases hod : oj.dst with
              | none => rfl
              | some d =>
                exact put_getD_ne _ _ _ _ fun e => hij (dst_inj hnd hol hj e hod)
            rw [this]
            exact hold
end
end Go.Proofs.YtpgamfoancomiaaDoor

/- Hires: Start, StartOf. -/
namespace Go.Proofs.YtpgamfoancomiaaDoor
open Go.RowKit

theorem RdR.oneLg {w : World} {g : Nat} {b : Lg} (h : Bk w g 99 (lgC b)) : RdR w 9 lgC (.slice (some ⟨g, 0, none⟩) 1 1) [b] := h.rd 9 1 rfl (by omega)
theorem openLeg_l (s : ByteArray) (r : Rg) (w : World) : Calls Tryd.prog 71 #[.string s, .agg #[.int .i64 r.1, .string r.2.1, .int .i64 r.2.2.1, .int .i64 r.2.2.2]] w fun e w' => e = .returned (.agg #[.string s, .int .i64 r.1, .string r.2.1, .int .i64 r.2.2.1, .int .i64 r.2.2.2, .int .i64 (-1), .string ⟨#[]⟩, .int .i64 0, .int .i64 0]) ∧ G w w' none := openLeg_c s r w
set_option maxRecDepth 100000 in
set_option maxHeartbeats 4000000 in
theorem start_c (h : Hh) (s : ByteArray) (r : Rg) (w : World) (hs : Small s) (hsr : Small r.2.1) (hs1 : Small h.1) (hs2 : Small h.2.1) (hb1 : bnd h.2.2.1) (hb2 : bnd h.2.2.2) :
    Calls Tryd.prog 19 #[.string h.1, .string h.2.1, .agg #[.int .i64 h.2.2.1, .int .i64 h.2.2.2], .string s, .agg (rgC r)] w
      (MadePost h [(s, r, noIn)] (fun k => w.heap.size ≤ k) w) := by
  have hb0 : LgOk [(s, r, noIn)] := fun x hx => by
    obtain rfl := List.mem_singleton.1 hx
    exact ⟨hs, hsr, by show Small ⟨#[]⟩; unfold Small; decide⟩
  have hWi := ((Bk.new w 30 #[.int .i64 h.2.2.1, .int .i64 h.2.2.2]).alloc (.cells (rgC r) 37)).alloc (.cells hiZ 33)
  have hRe := (Bk.newAt (w := w.alloc (.cells #[.int .i64 h.2.2.1, .int .i64 h.2.2.2] 30)) (b := w.heap.size + 1) (by simp) 37 (rgC r)).alloc (.cells hiZ 33)
  have hZ := Bk.newAt (w := (w.alloc (.cells #[.int .i64 h.2.2.1, .int .i64 h.2.2.2] 30)).alloc (.cells (rgC r) 37)) (b := w.heap.size + 2) (by simp) 33 hiZ
  have hG := (((G.refl w none).alloc (.cells #[.int .i64 h.2.2.1, .int .i64 h.2.2.2] 30)).alloc (.cells (rgC r) 37)).alloc (.cells hiZ 33)
  simp only [rgC, hiZ, hiC] at hWi hRe hZ hG ⊢
  go_enter Tryd.func19, Tryd.ntmps19
  go_upto_region 1 with fail
  generalize ((w.alloc (.cells #[.int .i64 h.2.2.1, .int .i64 h.2.2.2] 30)).alloc (.cells #[.int .i64 r.1, .string r.2.1, .int .i64 r.2.2.1, .int .i64 r.2.2.2] 37)).alloc (.cells #[.string ⟨#[]⟩, .string ⟨#[]⟩, .int .i64 0, .int .i64 0, .slice none 0 0] 33) = w2 at hWi hRe hZ hG ⊢
  -- @REGION
  have hWi3 := hWi.quiet ((G.refl w2 none).drew)
  have hRe3 := hRe.quiet ((G.refl w2 none).drew)
  have hZ3 := hZ.quiet ((G.refl w2 none).drew)
  have hG3 := hG.drew
  clear hWi hRe hZ hG
  refine wp_region_held_drew (S := (fun w' => w'.cell? ⟨w.heap.size, 0, none⟩ = some (.int .i64 h.2.2.1) ∧ w'.cell? ⟨w.heap.size, 1, none⟩ = some (.int .i64 h.2.2.2) ∧ w'.cell? ⟨w.heap.size + 1, 0, none⟩ = some (.int .i64 r.1) ∧ w'.cell? ⟨w.heap.size + 1, 1, none⟩ = some (.string r.2.1) ∧ w'.cell? ⟨w.heap.size + 1, 2, none⟩ = some (.int .i64 r.2.2.1) ∧ w'.cell? ⟨w.heap.size + 1, 3, none⟩ = some (.int .i64 r.2.2.2))) (by kernel_rfl) ?_ (fun hHeld => ?_)
  · exact ⟨hWi3.cell 0, hWi3.cell 1, hRe3.cell 0, hRe3.cell 1, hRe3.cell 2, hRe3.cell 3⟩
  refine wpAnyH_take (i := 0) (oi := { dst := some 12, op := Op.move (Operand.tmp 0), type := 9, pos := _, after := #[], guard := none }) (v := ?_) rfl (by kernel_rfl) (by kernel_rfl) (by kernel_rfl) (fun _ _ _ h => h) (Or.inl ⟨by rfl, ?_⟩) (by assumption) ?_
  rotate_left
  · (intro w hSw; obtain ⟨s0, s1, s2, s3, s4, s5⟩ := hSw; (go_simp <;> with_reducible rfl))
  try simp only [Act.put, List.setIfInBounds_toArray, List.set_cons_zero, List.set_cons_succ]
  refine wpAnyH_take (i := 1) (oi := { dst := some 13, op := Op.move (Operand.tmp 1), type := 9, pos := _, after := #[], guard := none }) (v := ?_) rfl (by kernel_rfl) (by kernel_rfl) (by kernel_rfl) (fun _ _ _ h => h) (Or.inl ⟨by rfl, ?_⟩) (by assumption) ?_
  rotate_left
  · (intro w hSw; obtain ⟨s0, s1, s2, s3, s4, s5⟩ := hSw; (go_simp <;> with_reducible rfl))
  try simp only [Act.put, List.setIfInBounds_toArray, List.set_cons_zero, List.set_cons_succ]
  refine wpAnyH_take (i := 2) (oi := { dst := some 14, op := Op.load 30 (Operand.tmp 7), type := 30, pos := _, after := #[], guard := none }) (v := ?_) rfl (by kernel_rfl) (by kernel_rfl) (by kernel_rfl) (fun _ _ _ h => h) (Or.inl ⟨by rfl, ?_⟩) (by assumption) ?_
  rotate_left
  · (intro w hSw; obtain ⟨s0, s1, s2, s3, s4, s5⟩ := hSw; (go_simp <;> with_reducible rfl))
  try simp only [Act.put, List.setIfInBounds_toArray, List.set_cons_zero, List.set_cons_succ]
  refine wpAnyH_take (i := 3) (oi := { dst := some 15, op := Op.move (Operand.tmp 3), type := 9, pos := _, after := #[], guard := none }) (v := ?_) rfl (by kernel_rfl) (by kernel_rfl) (by kernel_rfl) (fun _ _ _ h => h) (Or.inl ⟨by rfl, ?_⟩) (by assumption) ?_
  rotate_left
  · (intro w hSw; obtain ⟨s0, s1, s2, s3, s4, s5⟩ := hSw; (go_simp <;> with_reducible rfl))
  try simp only [Act.put, List.setIfInBounds_toArray, List.set_cons_zero, List.set_cons_succ]
  refine wpAnyH_take (i := 4) (oi := { dst := some 16, op := Op.load 37 (Operand.tmp 9), type := 37, pos := _, after := #[], guard := none }) (v := ?_) rfl (by kernel_rfl) (by kernel_rfl) (by kernel_rfl) (fun _ _ _ h => h) (Or.inl ⟨by rfl, ?_⟩) (by assumption) ?_
  rotate_left
  · (intro w hSw; obtain ⟨s0, s1, s2, s3, s4, s5⟩ := hSw; (go_simp <;> with_reducible rfl))
  try simp only [Act.put, List.setIfInBounds_toArray, List.set_cons_zero, List.set_cons_succ]
  refine wpAnyH_ready (rs := [5]) (by kernel_rfl) (by simp) ?_
  refine AllReadyH.cons (o := { dst := some 17, op := Op.call { callee := Callee.value (Operand.func 71), args := #[Operand.tmp 15, Operand.tmp 16], argTypes := #[9, 37] }, type := 99, pos := _, after := #[{ on := 3, ground := Ground.data }, { on := 4, ground := Ground.data }], guard := none }) rfl (fun K hK => ?_) AllReadyH.nil
  go_simp
  refine (openLeg_l s r _).mono ?_
  rintro e w4 ⟨rfl, hH⟩
  have hWi4 := hWi3.quiet hH
  have hRe4 := hRe3.quiet hH
  have hZ4 := hZ3.quiet hH
  have hG4 := hG3.trans hH
  clear hH
  refine hK.out _ _ ?_ (fun hHeld => ?_)
  · exact ⟨hWi4.cell 0, hWi4.cell 1, hRe4.cell 0, hRe4.cell 1, hRe4.cell 2, hRe4.cell 3⟩
  clear hK K
  try simp only [Act.put, List.setIfInBounds_toArray, List.set_cons_zero, List.set_cons_succ]
  refine wpAnyH_ready (rs := [6]) (by kernel_rfl) (by simp) ?_
  refine AllReadyH.cons (o := { dst := some 18, op := Op.buildSlice 31 1 #[(0, Operand.tmp 17)], type := 31, pos := _, after := #[{ on := 5, ground := Ground.data }], guard := none }) rfl (fun K hK => ?_) AllReadyH.nil
  go_simp
  have hH := (G.refl w4 none).alloc (.cells #[.string s, .int .i64 r.1, .string r.2.1, .int .i64 r.2.2.1, .int .i64 r.2.2.2, .int .i64 (-1), .string ⟨#[]⟩, .int .i64 0, .int .i64 0] 99)
  have hWi5 := hWi4.quiet hH
  have hRe5 := hRe4.quiet hH
  have hZ5 := hZ4.quiet hH
  have hG5 := hG4.trans hH
  clear hH
  refine hK.out _ _ ?_ (fun hHeld => ?_)
  · exact ⟨hWi5.cell 0, hWi5.cell 1, hRe5.cell 0, hRe5.cell 1, hRe5.cell 2, hRe5.cell 3⟩
  clear hK K
  try simp only [Act.put, List.setIfInBounds_toArray, List.set_cons_zero, List.set_cons_succ]
  refine wpAnyH_take (i := 7) (oi := { dst := some 19, op := Op.build 33 #[(0, Operand.tmp 12), (1, Operand.tmp 13), (2, Operand.tmp 14), (3, Operand.tmp 18)], type := 33, pos := _, after := #[{ on := 0, ground := Ground.data }, { on := 1, ground := Ground.data }, { on := 2, ground := Ground.data }, { on := 6, ground := Ground.data }], guard := none }) (v := ?_) rfl (by kernel_rfl) (by kernel_rfl) (by kernel_rfl) (fun _ _ _ h => h) (Or.inl ⟨by rfl, ?_⟩) (by assumption) ?_
  rotate_left
  · (intro w hSw; obtain ⟨s0, s1, s2, s3, s4, s5⟩ := hSw; (go_simp <;> with_reducible rfl))
  try simp only [Act.put, List.setIfInBounds_toArray, List.set_cons_zero, List.set_cons_succ]
  refine wpAnyH_ready (rs := [8]) (by kernel_rfl) (by simp) ?_
  refine AllReadyH.cons (o := { dst := some 20, op := Op.call { callee := Callee.value (Operand.func 70), args := #[Operand.tmp 19], argTypes := #[33] }, type := 45, pos := _, after := #[{ on := 7, ground := Ground.data }, { on := 5, ground := Ground.chain }], guard := none }) rfl (fun K hK => ?_) AllReadyH.nil
  go_simp
  refine (right_c h (.slice (some ⟨w4.heap.size, 0, none⟩) 1 1) [(s, r, noIn)] _ (RdR.oneLg (b := (s, r, noIn)) (Bk.new w4 _ _)) hb0 hs1 hs2 hb1 hb2 (by simp)).mono ?_
  rintro e w6 ⟨H, a, n, c, rfl, hHH, hBB, hR6, hH⟩
  have HHH := Lib.hid hHH
  have HBB := Lib.hid hBB
  clear hHH hBB
  have hWi6 := hWi5.quiet hH
  have hRe6 := hRe5.quiet hH
  have hZ6 := hZ5.quiet hH
  have hG6 := hG5.trans hH
  clear hH
  refine hK.out _ _ ?_ (fun hHeld => ?_)
  · exact ⟨hWi6.cell 0, hWi6.cell 1, hRe6.cell 0, hRe6.cell 1, hRe6.cell 2, hRe6.cell 3⟩
  clear hK K
  try simp only [Act.put, List.setIfInBounds_toArray, List.set_cons_zero, List.set_cons_succ]
  refine wpAnyH_take (i := 9) (oi := { dst := some 21, op := Op.extract (Operand.tmp 20) 0, type := 33, pos := _, after := #[{ on := 8, ground := Ground.data }], guard := none }) (v := ?_) rfl (by kernel_rfl) (by kernel_rfl) (by kernel_rfl) (fun _ _ _ h => h) (Or.inl ⟨by rfl, ?_⟩) (by assumption) ?_
  rotate_left
  · (intro w hSw; obtain ⟨s0, s1, s2, s3, s4, s5⟩ := hSw; (go_simp <;> with_reducible rfl))
  try simp only [Act.put, List.setIfInBounds_toArray, List.set_cons_zero, List.set_cons_succ]
  refine wpAnyH_take (i := 10) (oi := { dst := some 22, op := Op.extract (Operand.tmp 20) 1, type := 40, pos := _, after := #[{ on := 8, ground := Ground.data }], guard := none }) (v := ?_) rfl (by kernel_rfl) (by kernel_rfl) (by kernel_rfl) (fun _ _ _ h => h) (Or.inl ⟨by rfl, ?_⟩) (by assumption) ?_
  rotate_left
  · (intro w hSw; obtain ⟨s0, s1, s2, s3, s4, s5⟩ := hSw; (go_simp <;> with_reducible rfl))
  try simp only [Act.put, List.setIfInBounds_toArray, List.set_cons_zero, List.set_cons_succ]
  refine wpAnyH_ready (rs := [11]) (by kernel_rfl) (by simp) ?_
  refine AllReadyH.cons (o := { dst := none, op := Op.store 33 (Operand.tmp 10) (Operand.tmp 21), type := 0, pos := _, after := #[{ on := 9, ground := Ground.data }, { on := 8, ground := Ground.chain }, { on := 0, ground := Ground.phase }, { on := 1, ground := Ground.phase }, { on := 2, ground := Ground.phase }, { on := 3, ground := Ground.phase }, { on := 4, ground := Ground.phase }, { on := 5, ground := Ground.phase }, { on := 6, ground := Ground.phase }, { on := 7, ground := Ground.phase }, { on := 8, ground := Ground.phase }, { on := 9, ground := Ground.phase }, { on := 10, ground := Ground.phase }], guard := none }) rfl (fun K hK => ?_) AllReadyH.nil
  refine st_wp rfl (wp_store_row 33 _ _ rfl (w.heap.size + 2) #[.string H.1, .string H.2.1, .int .i64 H.2.2.1, .int .i64 H.2.2.2, .slice a n c] rfl rfl 33 _ hZ6 (hi_info H _) rfl (hi_one H a n c) ?_)
  have hWi7 := hWi6.farRow (show w.heap.size ≠ w.heap.size + 2 by omega) #[.string H.1, .string H.2.1, .int .i64 H.2.2.1, .int .i64 H.2.2.2, .slice a n c]
  have hRe7 := hRe6.farRow (show w.heap.size + 1 ≠ w.heap.size + 2 by omega) #[.string H.1, .string H.2.1, .int .i64 H.2.2.1, .int .i64 H.2.2.2, .slice a n c]
  refine hK.out _ _ ?_ (fun hHeld => ?_)
  · exact ⟨hWi7.cell 0, hWi7.cell 1, hRe7.cell 0, hRe7.cell 1, hRe7.cell 2, hRe7.cell 3⟩
  clear hK K
  try simp only [Act.put]
  refine wpAnyH_take (i := 12) (oi := { dst := some 11, op := Op.assign (Operand.tmp 22), type := 40, pos := _, after := #[{ on := 10, ground := Ground.data }, { on := 11, ground := Ground.chain }, { on := 0, ground := Ground.phase }, { on := 1, ground := Ground.phase }, { on := 2, ground := Ground.phase }, { on := 3, ground := Ground.phase }, { on := 4, ground := Ground.phase }, { on := 5, ground := Ground.phase }, { on := 6, ground := Ground.phase }, { on := 7, ground := Ground.phase }, { on := 8, ground := Ground.phase }, { on := 9, ground := Ground.phase }, { on := 10, ground := Ground.phase }, { on := 11, ground := Ground.phase }], guard := none }) (v := ?_) rfl (by kernel_rfl) (by kernel_rfl) (by kernel_rfl) (fun _ _ _ h => h) (Or.inl ⟨by rfl, ?_⟩) (by assumption) ?_
  rotate_left
  · (intro w hSw; obtain ⟨s0, s1, s2, s3, s4, s5⟩ := hSw; (go_simp <;> with_reducible rfl))
  try simp only [Act.put, List.setIfInBounds_toArray, List.set_cons_zero, List.set_cons_succ]
  refine wpAnyH_done (by kernel_rfl) ?_ _
  -- @END
  go_wp2_with fail
  refine bodyPost_ret (results_cell_hi rfl _ _ (w.heap.size + 2) 33 #[.string H.1, .string H.2.1, .int .i64 H.2.2.1, .int .i64 H.2.2.2, .slice a n c] (0, 0) _ rfl (hZ6.setRow _) Tryd.underlying33 rfl (hi_info H _)) rfl ?_
  have hw4 := hZ4.lt
  have hk4 : ∀ k, (Value.slice a n c).ownBlock = some k → k = w4.heap.size := fun k hk => by have := HBB.out k hk; cases this; rfl
  exact ⟨H, a, n, c, rfl, HHH.out, fun k hk => by have := hk4 k hk; omega, Rd.grown hR6 ((G.refl w6 (some (w.heap.size + 2))).setRow (.inr rfl) _) (fun k e hk => by cases e; have := hk4 _ hk; omega), hG6.setRow (.inl (by omega)) _⟩
set_option maxRecDepth 100000 in
set_option maxHeartbeats 4000000 in
theorem startOf_c (h : Hh) (s : ByteArray) (r : Rg) (w : World) (hs : Small s) (hsr : Small r.2.1) (hs1 : Small h.1) (hs2 : Small h.2.1) (hb1 : bnd h.2.2.1) (hb2 : bnd h.2.2.2) :
    Calls Tryd.prog 104 #[.string h.1, .string h.2.1, .agg #[.int .i64 h.2.2.1, .int .i64 h.2.2.2], .string s, .agg (rgC r)] w
      (MadePost h [(s, r, noIn)] (fun k => w.heap.size ≤ k) w) := by
  have hb0 : LgOk [(s, r, noIn)] := fun x hx => by
    obtain rfl := List.mem_singleton.1 hx
    exact ⟨hs, hsr, by show Small ⟨#[]⟩; unfold Small; decide⟩
  have hWi := ((Bk.new w 30 #[.int .i64 h.2.2.1, .int .i64 h.2.2.2]).alloc (.cells (rgC r) 37)).alloc (.cells hiZ 33)
  have hRe := (Bk.newAt (w := w.alloc (.cells #[.int .i64 h.2.2.1, .int .i64 h.2.2.2] 30)) (b := w.heap.size + 1) (by simp) 37 (rgC r)).alloc (.cells hiZ 33)
  have hZ := Bk.newAt (w := (w.alloc (.cells #[.int .i64 h.2.2.1, .int .i64 h.2.2.2] 30)).alloc (.cells (rgC r) 37)) (b := w.heap.size + 2) (by simp) 33 hiZ
  have hG := (((G.refl w none).alloc (.cells #[.int .i64 h.2.2.1, .int .i64 h.2.2.2] 30)).alloc (.cells (rgC r) 37)).alloc (.cells hiZ 33)
  simp only [rgC, hiZ, hiC] at hWi hRe hZ hG ⊢
  go_enter Tryd.func104, Tryd.ntmps104
  go_upto_region 1 with fail
  generalize ((w.alloc (.cells #[.int .i64 h.2.2.1, .int .i64 h.2.2.2] 30)).alloc (.cells #[.int .i64 r.1, .string r.2.1, .int .i64 r.2.2.1, .int .i64 r.2.2.2] 37)).alloc (.cells #[.string ⟨#[]⟩, .string ⟨#[]⟩, .int .i64 0, .int .i64 0, .slice none 0 0] 33) = w2 at hWi hRe hZ hG ⊢
  go_wp2_with (first | (refine wpList_load_row rfl 30 _ rfl w.heap.size rfl 30 #[.int .i64 h.2.2.1, .int .i64 h.2.2.2] (0, 0) _ hWi Tryd.underlying30 rfl (wi_info _ _) ?_) | (refine wpList_load_row rfl 37 _ rfl (w.heap.size + 1) rfl 37 #[.int .i64 r.1, .string r.2.1, .int .i64 r.2.2.1, .int .i64 r.2.2.2] (0, 0) _ hRe Tryd.underlying37 rfl (rg_info r) ?_))
  have hZ2 := hZ.alloc (.cells #[.string s, .int .i64 r.1, .string r.2.1, .int .i64 r.2.2.1, .int .i64 r.2.2.2, .int .i64 (-1), .string ⟨#[]⟩, .int .i64 0, .int .i64 0] 99)
  have hG2 := hG.alloc (.cells #[.string s, .int .i64 r.1, .string r.2.1, .int .i64 r.2.2.1, .int .i64 r.2.2.2, .int .i64 (-1), .string ⟨#[]⟩, .int .i64 0, .int .i64 0] 99)
  have hw4 := hZ.lt
  clear hZ hG
  refine (made_c h (.slice (some ⟨w2.heap.size, 0, none⟩) 1 1) [(s, r, noIn)] _ (RdR.oneLg (b := (s, r, noIn)) (Bk.new w2 _ _)) hb0 hs1 hs2 hb1 hb2 (by simp)).mono ?_
  rintro e w6 ⟨H, a, n, c, rfl, hHH, hBB, hR6, hH⟩
  have HHH := Lib.hid hHH
  have HBB := Lib.hid hBB
  have hZ6 := hZ2.quiet hH
  have hG6 := hG2.trans hH
  clear hHH hBB hH hZ2 hG2
  go_wp2_with (refine wpList_store_row rfl 33 _ _ rfl (w.heap.size + 2) #[.string H.1, .string H.2.1, .int .i64 H.2.2.1, .int .i64 H.2.2.2, .slice a n c] rfl rfl 33 _ hZ6 (hi_info H _) rfl (hi_one H a n c) ?_)
  refine bodyPost_ret (results_cell_hi rfl _ _ (w.heap.size + 2) 33 #[.string H.1, .string H.2.1, .int .i64 H.2.2.1, .int .i64 H.2.2.2, .slice a n c] (0, 0) _ rfl (hZ6.setRow _) Tryd.underlying33 rfl (hi_info H _)) rfl ?_
  have hk4 : ∀ k, (Value.slice a n c).ownBlock = some k → k = w2.heap.size := fun k hk => by have := HBB.out k hk; cases this; rfl
  exact ⟨H, a, n, c, rfl, HHH.out, fun k hk => by have := hk4 k hk; omega, Rd.grown hR6 ((G.refl w6 (some (w.heap.size + 2))).setRow (.inr rfl) _) (fun k e hk => by cases e; have := hk4 _ hk; omega), hG6.setRow (.inl (by omega)) _⟩
end Go.Proofs.YtpgamfoancomiaaDoor
