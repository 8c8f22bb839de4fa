/- Grh. -/
import Derived.Test.YtdcofbciebkfkaaDoorZm7
import Derived.Test.YtdcofbciebkfkaaDoorZm6
import Derived.Test.YtdcofbciebkfkaaDoorZm5
import Derived.Deep.CutRange
import Derived.Laws.ResultCell
/- Generator: RightHire. Written by gengrh.py. -/
namespace Go.Proofs.YtdcofbciebkfkaaDoor
open Go.RowKit

theorem rh_fin {w w3 : World} {s K K' : Nat} {H : Hh} {l : List Lg} {a : Option Addr} {c : Nat} (hok : HOk H l) (hR : RdR w3 9 lgC (.slice a l.length c) l) (hb : ∀ k, (Value.slice a l.length c).ownBlock = some k → w.heap.size + 1 ≤ k) (hSB : SB w3 s K') (hK : K' ≤ K + 700) (hG : G w w3 (some s)) (hs : s < w.heap.size) :
    RhPost s K w (.returned (.agg (hiC H (.slice a l.length c)))) (w3.setRow w.heap.size (hiC H (.slice a l.length c))) :=
  ⟨H, l, a, c, rfl, hok, Rd.grown hR ((G.refl w3 (some w.heap.size)).setRow (.inr rfl) _) (fun k e hk => by cases e; have := hb _ hk; omega), fun k e => by have := hb k e; omega, (hSB.setRow hs _).le hK, hG.setRow (.inl (Nat.le_refl _)) _⟩
theorem sm_ann : Small ⟨#[97, 110, 110]⟩ := small_of (by decide)
theorem sm_v1 : Small ⟨#[118, 49]⟩ := small_of (by decide)
theorem sm_s1 : Small ⟨#[115, 49]⟩ := small_of (by decide)
abbrev HIZ : Array Value := #[.string ⟨#[]⟩, .string ⟨#[]⟩, .int .i64 0, .int .i64 0, .slice none 0 0]
/-- What the drawn region that begins a hire leaves; what one that changes it leaves. -/
def RhA (w : World) (s K : Nat) (s8 s9 : Value) (w' : World) : Prop :=
  ∃ (g8 : Nat) (H : Hh) (l : List Lg) (E : Int), s8 = .pointer (some ⟨g8, 0, none⟩) ∧ s9 = .int .i64 E ∧ (E = 0 → HOk H l ∧ HV (w.heap.size + 1) g8 g8 H l w') ∧ Bk w' w.heap.size 33 HIZ ∧ SB w' s K ∧ G w w' (some s)
def RhB (w : World) (s K g8 : Nat) (H : Hh) (l : List Lg) (s13 s14 : Value) (w' : World) : Prop :=
  ∃ (g13 : Nat) (H2 : Hh) (l2 : List Lg) (E : Int), s13 = .pointer (some ⟨g13, 0, none⟩) ∧ s14 = .int .i64 E ∧ (E = 0 → HOk H2 l2 ∧ HV (w.heap.size + 1) g13 g8 H2 l2 w') ∧ HV (w.heap.size + 1) g8 g8 H l w' ∧ Bk w' w.heap.size 33 HIZ ∧ SB w' s K ∧ G w w' (some s)
def RhOut (w : World) (s K gk : Nat) (s19 : Value) (wr : World) : Prop :=
  ∃ k : Nat, k ≤ 6 ∧ gk = 6 - k ∧ s19 = .int .i64 k ∧ Bk wr w.heap.size 33 HIZ ∧ SB wr s (K + 100 * k) ∧ G w wr (some s)
def RhIn (w : World) (s K : Nat) (f : Int) (g8 n gi : Nat) (s10 s49 : Value) (wr : World) : Prop :=
  ∃ (j : Nat) (t : Int) (H : Hh) (l : List Lg), j ≤ n ∧ gi = n - j ∧ s10 = .int .i64 t ∧ s49 = .int .i64 j ∧ (f ≤ t ∧ t ≤ f + 500 * j) ∧ HOk H l ∧ HV (w.heap.size + 1) g8 g8 H l wr ∧ Bk wr w.heap.size 33 HIZ ∧ SB wr s (K + 26 * j) ∧ G w wr (some s)
set_option maxRecDepth 100000 in
set_option maxHeartbeats 20000000 in
theorem rightHire_c (key : ByteArray) (f : Int) (w : World) (s K : Nat) (hkey : keyB key = true) (hks : Small key) (hf0 : 0 ≤ f) (hf1 : f ≤ 1000000) (hs : SB w s K) (hk : K ≤ 800000000000) :
    Calls Tryd.prog 79 #[.pointer (some ⟨s, 0, none⟩), .string key, .int .i64 f] w (RhPost s K w) := by
  have hslt := hs.lt
  have HKEY := Lib.hid hkey
  have HKS := Lib.hid hks
  clear hkey hks
  go_enter Tryd.func79, Tryd.ntmps79
  go_wp2_with fail
  go_loopg [19] 6 (fun gk s19 wr => RhOut w s K gk s19 wr)
  case atStart => exact ⟨0, by omega, rfl, rfl, Bk.new w _ _, hs.alloc _, (G.refl _ _).alloc _⟩
  case round =>
    obtain ⟨k, hk6, rfl, rfl, hB, hSB, hG⟩ := hrel
    clear hs
    by_cases hk2 : k < 6
    · have HK := Lib.hid hk2
      go_wp2_with fail
      refine (pick_c _ _ _ [60, 100, 1440, 2000, 3000] _ _ _ (hSB.alloc _) (by omega) (by decide) (by decide) (Rd.newAt _ rfl rfl (by decide)) (hSB.newAt _ _ _ (Nat.le_refl _))).mono ?_; rintro e w1 ⟨p, rfl, hp, hSB1, hG1⟩
      have hpb : 60 ≤ p ∧ p ≤ 3000 := by simp only [List.mem_cons, List.mem_nil_iff, or_false] at hp; omega
      have hw : IntKind.i64.wrap (f + p) = f + p := by rw [IntKind.wrap_i64]; omega
      have hB1 := (hB.alloc (.cells _ 3)).grown hG1 (fun e => by have := Option.some.inj e; omega)
      have hG01 := (hG.alloc (.cells _ 3)).trans hG1
      have hW2 := Bk.new w1 30 #[.int .i64 f, .int .i64 (f + p)]
      have hSB2 := hSB1.alloc (.cells #[.int .i64 f, .int .i64 (f + p)] 30)
      have hB2 := hB1.alloc (.cells #[.int .i64 f, .int .i64 (f + p)] 30)
      have hG02 := hG01.alloc (.cells #[.int .i64 f, .int .i64 (f + p)] 30)
      have hs1 := hSB1.lt
      have hn1 : w.heap.size < w1.heap.size := hB1.lt
      clear hB hSB hG hSB1 hB1 hG1 hG01 hp
      go_upto_region 4 with fail
      generalize w1.alloc (.cells #[.int .i64 f, .int .i64 (f + p)] 30) = w2 at hW2 hSB2 hB2 hG02 ⊢
      generalize w1.heap.size = g7 at hW2 hs1 hn1 ⊢
      have HO := Lib.hid ((KS.old hB2 (by omega)).and (KS.old hW2 hs1))
      have hn2 : w.heap.size + 1 ≤ w2.heap.size := hB2.lt
      have hSB := hSB2
      have hG := hG02
      clear hB2 hW2 hSB2 hG02
      go_cut [8, 9] from 20 to 99 (fun s8 s9 w' => RhA w s (K + 100 * k + 20) s8 s9 w')
      case first =>
        have hq := (G.refl w2 none).drew
        have hSB0 := hSB.quiet hq
        have hG0 := hG.trans0 hq
        have hS0 : GS (Snew s w2.heap.size) w2 w2.drew := GS.of_G hq
        clear hq hSB hG
        refine wp_region_held_drew (S := (fun w' => w'.cell? ⟨g7, 0, none⟩ = some (.int .i64 f) ∧ w'.cell? ⟨g7, 1, none⟩ = some (.int .i64 (f + p)))) (by kernel_rfl) ?_ (fun hHeld => ?_)
        · exact ⟨(HO.out _ hS0).2.cell 0, (HO.out _ hS0).2.cell 1⟩
        generalize w2.drew = wd at hHeld hSB0 hG0 hS0 ⊢
        refine wpAnyH_take (i := 0) (oi := ⟨_, _, _, _, _, _⟩) (v := ?_) rfl (by kernel_rfl) (by kernel_rfl) (by kernel_rfl) (fun _ _ _ h => h) (Or.inl ⟨by rfl, ?_⟩) (by assumption) ?_
        rotate_left
        · (intro w hSw; obtain ⟨s0, s1⟩ := hSw; (go_simp <;> with_reducible rfl))
        try simp only [Act.put, List.setIfInBounds_toArray, List.set_cons_zero, List.set_cons_succ]
        refine wpAnyH_take (i := 1) (oi := ⟨_, _, _, _, _, _⟩) (v := ?_) rfl (by kernel_rfl) (by kernel_rfl) (by kernel_rfl) (fun _ _ _ h => h) (Or.inl ⟨by rfl, ?_⟩) (by assumption) ?_
        rotate_left
        · (intro w hSw; obtain ⟨s0, s1⟩ := hSw; (go_simp <;> with_reducible rfl))
        try simp only [Act.put, List.setIfInBounds_toArray, List.set_cons_zero, List.set_cons_succ]
        refine wpAnyH_take (i := 4) (oi := ⟨_, _, _, _, _, _⟩) (v := ?_) rfl (by kernel_rfl) (by kernel_rfl) (by kernel_rfl) (fun _ _ _ h => h) (Or.inl ⟨by rfl, ?_⟩) (by assumption) ?_
        rotate_left
        · (intro w hSw; obtain ⟨s0, s1⟩ := hSw; (go_simp <;> with_reducible rfl))
        try simp only [Act.put, List.setIfInBounds_toArray, List.set_cons_zero, List.set_cons_succ]
        refine wpAnyH_take (i := 5) (oi := ⟨_, _, _, _, _, _⟩) (v := ?_) rfl (by kernel_rfl) (by kernel_rfl) (by kernel_rfl) (fun _ _ _ h => h) (Or.inl ⟨by rfl, ?_⟩) (by assumption) ?_
        rotate_left
        · (intro w hSw; obtain ⟨s0, s1⟩ := hSw; (go_simp <;> with_reducible rfl))
        try simp only [Act.put, List.setIfInBounds_toArray, List.set_cons_zero, List.set_cons_succ]
        refine wpAnyH_take (i := 8) (oi := ⟨_, _, _, _, _, _⟩) (v := ?_) rfl (by kernel_rfl) (by kernel_rfl) (by kernel_rfl) (fun _ _ _ h => h) (Or.inl ⟨by rfl, ?_⟩) (by assumption) ?_
        rotate_left
        · (intro w hSw; obtain ⟨s0, s1⟩ := hSw; (go_simp <;> with_reducible rfl))
        try simp only [Act.put, List.setIfInBounds_toArray, List.set_cons_zero, List.set_cons_succ]
        refine wpAnyH_take (i := 9) (oi := ⟨_, _, _, _, _, _⟩) (v := ?_) rfl (by kernel_rfl) (by kernel_rfl) (by kernel_rfl) (fun _ _ _ h => h) (Or.inl ⟨by rfl, ?_⟩) (by assumption) ?_
        rotate_left
        · (intro w hSw; obtain ⟨s0, s1⟩ := hSw; (go_simp <;> with_reducible rfl))
        try simp only [Act.put, List.setIfInBounds_toArray, List.set_cons_zero, List.set_cons_succ]
        refine wpAnyH_ready (rs := [2, 6, 15]) (by kernel_rfl) (by simp) ?_
        refine (AllReadyH.cons (o := ⟨_, _, _, _, _, _⟩) rfl (fun K hK => ?_) (AllReadyH.cons (o := ⟨_, _, _, _, _, _⟩) rfl (fun K hK => ?_) (AllReadyH.cons (o := ⟨_, _, _, _, _, _⟩) rfl (fun K hK => ?_) AllReadyH.nil)))
        · go_simp
          have hh := (G.refl wd none).alloc (.cells #[.string ⟨#[97, 110, 110]⟩, .string ⟨#[97, 110, 110]⟩, .string ⟨#[98, 111, 98]⟩, .string ⟨#[99, 105, 100]⟩] 9)
          have hN := Kp.made (s := s) (w := wd) 4 9 #[.string ⟨#[97, 110, 110]⟩, .string ⟨#[97, 110, 110]⟩, .string ⟨#[98, 111, 98]⟩, .string ⟨#[99, 105, 100]⟩] rfl (by decide) hSB0.lt
          have hglA := hSB0.lt
          have hSB1 := hSB0.quiet hh
          have hG1 := hG0.trans0 hh
          have hS1 := hS0.trans (GS.of_G hh)
          clear hh hSB0 hG0 hS0
          have hKA_1 := hN
          clear hN
          generalize wd.alloc (.cells #[.string ⟨#[97, 110, 110]⟩, .string ⟨#[97, 110, 110]⟩, .string ⟨#[98, 111, 98]⟩, .string ⟨#[99, 105, 100]⟩] 9) = w1_x at hSB1 hG1 hS1 hKA_1 ⊢
          refine hK.out _ _ ?_ (fun hHeld => ?_)
          · exact ⟨(HO.out _ hS1).2.cell 0, (HO.out _ hS1).2.cell 1⟩
          clear hK K
          try simp only [Act.put, List.setIfInBounds_toArray, List.set_cons_zero, List.set_cons_succ]
          refine wpAnyH_ready (rs := [3, 6, 15]) (by kernel_rfl) (by simp) ?_
          refine (AllReadyH.cons (o := ⟨_, _, _, _, _, _⟩) rfl (fun K hK => ?_) (AllReadyH.cons (o := ⟨_, _, _, _, _, _⟩) rfl (fun K hK => ?_) (AllReadyH.cons (o := ⟨_, _, _, _, _, _⟩) rfl (fun K hK => ?_) AllReadyH.nil)))
          · go_simp
            refine (some_c _ _ _ [⟨#[97, 110, 110]⟩, ⟨#[97, 110, 110]⟩, ⟨#[98, 111, 98]⟩, ⟨#[99, 105, 100]⟩] _ _ _ hSB1 (by omega) (by decide) (by decide) hKA_1.now (hSB1.ne hglA)).mono ?_
            rintro e w2_d ⟨d, rfl, hp, hSB2, hh⟩
            have HSd := Lib.hid (small_pick hp (by decide))
            clear hp hKA_1
            have hG2 := hG1.trans hh
            have hS2 := hS1.trans (GS.stream hh)
            clear hh hSB1 hG1 hS1
            refine hK.out _ _ ?_ (fun hHeld => ?_)
            · exact ⟨(HO.out _ hS2).2.cell 0, (HO.out _ hS2).2.cell 1⟩
            clear hK K
            try simp only [Act.put, List.setIfInBounds_toArray, List.set_cons_zero, List.set_cons_succ]
            refine wpAnyH_ready (rs := [6, 15]) (by kernel_rfl) (by simp) ?_
            refine (AllReadyH.cons (o := ⟨_, _, _, _, _, _⟩) rfl (fun K hK => ?_) (AllReadyH.cons (o := ⟨_, _, _, _, _, _⟩) rfl (fun K hK => ?_) AllReadyH.nil))
            · go_simp
              have hh := (G.refl w2_d none).alloc (.cells #[.string ⟨#[118, 49]⟩, .string ⟨#[118, 49]⟩, .string ⟨#[118, 50]⟩, .string ⟨#[118, 51]⟩] 9)
              have hN := Kp.made (s := s) (w := w2_d) 4 9 #[.string ⟨#[118, 49]⟩, .string ⟨#[118, 49]⟩, .string ⟨#[118, 50]⟩, .string ⟨#[118, 51]⟩] rfl (by decide) hSB2.lt
              have hglB := hSB2.lt
              have hSB3 := hSB2.quiet hh
              have hG3 := hG2.trans0 hh
              have hS3 := hS2.trans (GS.of_G hh)
              clear hh hSB2 hG2 hS2
              have hKB_3 := hN
              clear hN
              generalize w2_d.alloc (.cells #[.string ⟨#[118, 49]⟩, .string ⟨#[118, 49]⟩, .string ⟨#[118, 50]⟩, .string ⟨#[118, 51]⟩] 9) = w3_x at hSB3 hG3 hS3 hKB_3 ⊢
              refine hK.out _ _ ?_ (fun hHeld => ?_)
              · exact ⟨(HO.out _ hS3).2.cell 0, (HO.out _ hS3).2.cell 1⟩
              clear hK K
              try simp only [Act.put, List.setIfInBounds_toArray, List.set_cons_zero, List.set_cons_succ]
              refine wpAnyH_ready (rs := [7, 15]) (by kernel_rfl) (by simp) ?_
              refine (AllReadyH.cons (o := ⟨_, _, _, _, _, _⟩) rfl (fun K hK => ?_) (AllReadyH.cons (o := ⟨_, _, _, _, _, _⟩) rfl (fun K hK => ?_) AllReadyH.nil))
              · go_simp
                refine (some_c _ _ _ [⟨#[118, 49]⟩, ⟨#[118, 49]⟩, ⟨#[118, 50]⟩, ⟨#[118, 51]⟩] _ _ _ hSB3 (by omega) (by decide) (by decide) hKB_3.now (hSB3.ne hglB)).mono ?_
                rintro e w4_v ⟨v, rfl, hp, hSB4, hh⟩
                have HSv := Lib.hid (small_pick hp (by decide))
                clear hp hKB_3
                have hG4 := hG3.trans hh
                have hS4 := hS3.trans (GS.stream hh)
                clear hh hSB3 hG3 hS3
                refine hK.out _ _ ?_ (fun hHeld => ?_)
                · exact ⟨(HO.out _ hS4).2.cell 0, (HO.out _ hS4).2.cell 1⟩
                clear hK K
                try simp only [Act.put, List.setIfInBounds_toArray, List.set_cons_zero, List.set_cons_succ]
                refine wpAnyH_ready (rs := [10, 15]) (by kernel_rfl) (by simp) ?_
                refine (AllReadyH.cons (o := ⟨_, _, _, _, _, _⟩) rfl (fun K hK => ?_) (AllReadyH.cons (o := ⟨_, _, _, _, _, _⟩) rfl (fun K hK => ?_) AllReadyH.nil))
                · go_simp
                  refine (reading_c f _ s _ (by unfold bnd; omega) hSB4 (by omega)).mono ?_
                  rintro e w5_r ⟨r, rfl, hr, hSB5, hh⟩
                  have HBr := Lib.hid hr
                  clear hr
                  have hG5 := hG4.trans hh
                  have hS5 := hS4.trans (GS.stream hh)
                  clear hh hSB4 hG4 hS4
                  refine hK.out _ _ ?_ (fun hHeld => ?_)
                  · exact ⟨(HO.out _ hS5).2.cell 0, (HO.out _ hS5).2.cell 1⟩
                  clear hK K
                  try simp only [Act.put, List.setIfInBounds_toArray, List.set_cons_zero, List.set_cons_succ]
                  refine wpAnyH_ready (rs := [11, 15]) (by kernel_rfl) (by simp) ?_
                  refine (AllReadyH.cons (o := ⟨_, _, _, _, _, _⟩) rfl (fun K hK => ?_) (AllReadyH.cons (o := ⟨_, _, _, _, _, _⟩) rfl (fun K hK => ?_) AllReadyH.nil))
                  · go_simp
                    refine (startOf_c (key, d, f, f + p) v r _ HSv.out HBr.out.2.1 HKS.out HSd.out (by unfold bnd; dsimp only; omega) (by unfold bnd; dsimp only; omega)).mono ?_
                    rintro e w6_m ⟨H', a', n', c', rfl, hHH, hbb, hR6, hh⟩
                    have HHH := Lib.hid hHH
                    have HB := Lib.hid (fun k e => Nat.le_trans hS5.size (hbb k e))
                    clear hHH hbb
                    have hSB6 := hSB5.quiet hh
                    have hG6 := hG5.trans0 hh
                    have hS6 := hS5.trans (GS.of_G hh)
                    clear hh hSB5 hG5 hS5
                    refine hK.out _ _ ?_ (fun hHeld => ?_)
                    · exact ⟨(HO.out _ hS6).2.cell 0, (HO.out _ hS6).2.cell 1⟩
                    clear hK K
                    try simp only [Act.put, List.setIfInBounds_toArray, List.set_cons_zero, List.set_cons_succ]
                    refine wpAnyH_take (i := 12) (oi := ⟨_, _, _, _, _, _⟩) (v := ?_) rfl (by kernel_rfl) (by kernel_rfl) (by kernel_rfl) (fun _ _ _ h => h) (Or.inl ⟨by rfl, ?_⟩) (by assumption) ?_
                    rotate_left
                    · (intro w hSw; obtain ⟨s0, s1⟩ := hSw; (go_simp <;> with_reducible rfl))
                    try simp only [Act.put, List.setIfInBounds_toArray, List.set_cons_zero, List.set_cons_succ]
                    refine wpAnyH_take (i := 13) (oi := ⟨_, _, _, _, _, _⟩) (v := ?_) rfl (by kernel_rfl) (by kernel_rfl) (by kernel_rfl) (fun _ _ _ h => h) (Or.inl ⟨by rfl, ?_⟩) (by assumption) ?_
                    rotate_left
                    · (intro w hSw; obtain ⟨s0, s1⟩ := hSw; (go_simp <;> with_reducible rfl))
                    try simp only [Act.put, List.setIfInBounds_toArray, List.set_cons_zero, List.set_cons_succ]
                    refine wpAnyH_take (i := 14) (oi := ⟨_, _, _, _, _, _⟩) (v := ?_) rfl (by kernel_rfl) (by kernel_rfl) (by kernel_rfl) (fun _ _ _ h => h) (Or.inl ⟨by rfl, ?_⟩) (by assumption) ?_
                    rotate_left
                    · (intro w hSw; obtain ⟨s0, s1⟩ := hSw; (go_simp <;> with_reducible rfl))
                    try simp only [Act.put, List.setIfInBounds_toArray, List.set_cons_zero, List.set_cons_succ]
                    refine wpAnyH_ready (rs := [15]) (by kernel_rfl) (by simp) ?_
                    refine (AllReadyH.cons (o := ⟨_, _, _, _, _, _⟩) rfl (fun K hK => ?_) AllReadyH.nil)
                    go_simp
                    have hh := (G.refl w6_m none).alloc (.cells #[.string ⟨#[]⟩, .string ⟨#[]⟩, .int .i64 0, .int .i64 0, .slice none 0 0] 33)
                    have hz : w2.heap.size ≤ w6_m.heap.size := hS6.size
                    have hZZ := Bk.new w6_m 33 #[.string ⟨#[]⟩, .string ⟨#[]⟩, .int .i64 0, .int .i64 0, .slice none 0 0]
                    have hNE : ∀ k, (Value.slice a' n' c').ownBlock = some k → k ≠ w6_m.heap.size := fun k e => Nat.ne_of_lt (Rd.blk hR6 k e)
                    have hSB7 := hSB6.quiet hh
                    have hG7 := hG6.trans0 hh
                    have hS7 := hS6.trans (GS.of_G hh)
                    have hR7 := Rd.quiet hR6 hh
                    clear hh hSB6 hG6 hS6 hR6
                    have hZ7 := hZZ
                    have hne7 := hNE
                    generalize w6_m.alloc (.cells #[.string ⟨#[]⟩, .string ⟨#[]⟩, .int .i64 0, .int .i64 0, .slice none 0 0] 33) = w7_x at hSB7 hG7 hS7 hZ7 hR7 ⊢
                    refine hK.out _ _ ?_ (fun hHeld => ?_)
                    · exact ⟨(HO.out _ hS7).2.cell 0, (HO.out _ hS7).2.cell 1⟩
                    clear hK K
                    try simp only [Act.put, List.setIfInBounds_toArray, List.set_cons_zero, List.set_cons_succ]
                    refine wpAnyH_ready (rs := [16]) (by kernel_rfl) (by simp) ?_
                    refine (AllReadyH.cons (o := ⟨_, _, _, _, _, _⟩) rfl (fun K hK => ?_) AllReadyH.nil)
                    refine st_wp rfl (wp_store_row 33 _ _ rfl (w6_m.heap.size) #[.string H'.1, .string H'.2.1, .int .i64 H'.2.2.1, .int .i64 H'.2.2.2, .slice a' n' c'] rfl rfl 33 _ hZ7 (hi_info H' _) rfl (hi_one H' a' n' c') ?_)
                    have hSB8 := hSB7.setRow (r := w6_m.heap.size) (by omega) #[.string H'.1, .string H'.2.1, .int .i64 H'.2.2.1, .int .i64 H'.2.2.2, .slice a' n' c']
                    have hG8 := hG7.setRow (g := w6_m.heap.size) (.inl (by omega)) #[.string H'.1, .string H'.2.1, .int .i64 H'.2.2.1, .int .i64 H'.2.2.2, .slice a' n' c']
                    have hS8 := hS7.trans (GS.row (g := w6_m.heap.size) hz #[.string H'.1, .string H'.2.1, .int .i64 H'.2.2.1, .int .i64 H'.2.2.2, .slice a' n' c'])
                    have hR8 := Rd.grown hR7 ((G.refl _ (some (w6_m.heap.size))).setRow (.inr rfl) #[.string H'.1, .string H'.2.1, .int .i64 H'.2.2.1, .int .i64 H'.2.2.2, .slice a' n' c']) (fun k e hk => by cases e; exact hne7 _ hk rfl)
                    have hZ8 := hZ7.setRow #[.string H'.1, .string H'.2.1, .int .i64 H'.2.2.1, .int .i64 H'.2.2.2, .slice a' n' c']
                    have hne8 := hne7
                    clear hSB7 hG7
                    refine hK.out _ _ ?_ (fun hHeld => ?_)
                    · exact ⟨(HO.out _ hS8).2.cell 0, (HO.out _ hS8).2.cell 1⟩
                    clear hK K
                    try simp only [Act.put, List.setIfInBounds_toArray, List.set_cons_zero, List.set_cons_succ]
                    refine wpAnyH_take (i := 17) (oi := ⟨_, _, _, _, _, _⟩) (v := ?_) rfl (by kernel_rfl) (by kernel_rfl) (by kernel_rfl) (fun _ _ _ h => h) (Or.inl ⟨by rfl, ?_⟩) (by assumption) ?_
                    rotate_left
                    · (intro w hSw; obtain ⟨s0, s1⟩ := hSw; (go_simp <;> with_reducible rfl))
                    try simp only [Act.put, List.setIfInBounds_toArray, List.set_cons_zero, List.set_cons_succ]
                    refine wpAnyH_done (by kernel_rfl) ?_ _
                    go_wp2_with fail
                    go_meet
                    case rel => exact ⟨_, (key, d, f, f + p), [(v, r, noIn)], _, rfl, rfl, hv_leaf (fun e => e) HHH.out hR8 hZ8 (fun k e => ⟨by have := HB.out k e; omega, hne8 k e, hne8 k e⟩) (by omega) (fun x hx => by obtain rfl := List.mem_singleton.1 hx; exact ⟨HSv.out, HBr.out.2.1, small_nil⟩) HKS.out HSd.out (by unfold bnd; dsimp only; omega) (by unfold bnd; dsimp only; omega), (HO.out _ hS8).1, hSB8.le (by omega), hG8⟩
                  · go_simp
                    have hh := (G.refl w5_r none).alloc (.cells #[.string ⟨#[]⟩, .string ⟨#[]⟩, .int .i64 0, .int .i64 0, .slice none 0 0] 33)
                    have hz : w2.heap.size ≤ w5_r.heap.size := hS5.size
                    have hZZ := Bk.new w5_r 33 #[.string ⟨#[]⟩, .string ⟨#[]⟩, .int .i64 0, .int .i64 0, .slice none 0 0]
                    have hSB6 := hSB5.quiet hh
                    have hG6 := hG5.trans0 hh
                    have hS6 := hS5.trans (GS.of_G hh)
                    clear hh hSB5 hG5 hS5
                    have hZ6 := hZZ
                    generalize w5_r.alloc (.cells #[.string ⟨#[]⟩, .string ⟨#[]⟩, .int .i64 0, .int .i64 0, .slice none 0 0] 33) = w6_x at hSB6 hG6 hS6 hZ6 ⊢
                    refine hK.out _ _ ?_ (fun hHeld => ?_)
                    · exact ⟨(HO.out _ hS6).2.cell 0, (HO.out _ hS6).2.cell 1⟩
                    clear hK K
                    try simp only [Act.put, List.setIfInBounds_toArray, List.set_cons_zero, List.set_cons_succ]
                    refine wpAnyH_ready (rs := [11]) (by kernel_rfl) (by simp) ?_
                    refine (AllReadyH.cons (o := ⟨_, _, _, _, _, _⟩) rfl (fun K hK => ?_) AllReadyH.nil)
                    go_simp
                    refine (startOf_c (key, d, f, f + p) v r _ HSv.out HBr.out.2.1 HKS.out HSd.out (by unfold bnd; dsimp only; omega) (by unfold bnd; dsimp only; omega)).mono ?_
                    rintro e w7_m ⟨H', a', n', c', rfl, hHH, hbb, hR7, hh⟩
                    have HHH := Lib.hid hHH
                    have HB := Lib.hid (fun k e => Nat.le_trans hS6.size (hbb k e))
                    have hne7 : ∀ k, (Value.slice a' n' c').ownBlock = some k → k ≠ w5_r.heap.size := fun k e => by have := hbb k e; have := hZ6.lt; omega
                    clear hHH hbb
                    have hSB7 := hSB6.quiet hh
                    have hG7 := hG6.trans0 hh
                    have hS7 := hS6.trans (GS.of_G hh)
                    have hZ7 := hZ6.quiet hh
                    clear hh hSB6 hG6 hS6 hZ6
                    refine hK.out _ _ ?_ (fun hHeld => ?_)
                    · exact ⟨(HO.out _ hS7).2.cell 0, (HO.out _ hS7).2.cell 1⟩
                    clear hK K
                    try simp only [Act.put, List.setIfInBounds_toArray, List.set_cons_zero, List.set_cons_succ]
                    refine wpAnyH_take (i := 12) (oi := ⟨_, _, _, _, _, _⟩) (v := ?_) rfl (by kernel_rfl) (by kernel_rfl) (by kernel_rfl) (fun _ _ _ h => h) (Or.inl ⟨by rfl, ?_⟩) (by assumption) ?_
                    rotate_left
                    · (intro w hSw; obtain ⟨s0, s1⟩ := hSw; (go_simp <;> with_reducible rfl))
                    try simp only [Act.put, List.setIfInBounds_toArray, List.set_cons_zero, List.set_cons_succ]
                    refine wpAnyH_take (i := 13) (oi := ⟨_, _, _, _, _, _⟩) (v := ?_) rfl (by kernel_rfl) (by kernel_rfl) (by kernel_rfl) (fun _ _ _ h => h) (Or.inl ⟨by rfl, ?_⟩) (by assumption) ?_
                    rotate_left
                    · (intro w hSw; obtain ⟨s0, s1⟩ := hSw; (go_simp <;> with_reducible rfl))
                    try simp only [Act.put, List.setIfInBounds_toArray, List.set_cons_zero, List.set_cons_succ]
                    refine wpAnyH_take (i := 14) (oi := ⟨_, _, _, _, _, _⟩) (v := ?_) rfl (by kernel_rfl) (by kernel_rfl) (by kernel_rfl) (fun _ _ _ h => h) (Or.inl ⟨by rfl, ?_⟩) (by assumption) ?_
                    rotate_left
                    · (intro w hSw; obtain ⟨s0, s1⟩ := hSw; (go_simp <;> with_reducible rfl))
                    try simp only [Act.put, List.setIfInBounds_toArray, List.set_cons_zero, List.set_cons_succ]
                    refine wpAnyH_ready (rs := [16]) (by kernel_rfl) (by simp) ?_
                    refine (AllReadyH.cons (o := ⟨_, _, _, _, _, _⟩) rfl (fun K hK => ?_) AllReadyH.nil)
                    refine st_wp rfl (wp_store_row 33 _ _ rfl (w5_r.heap.size) #[.string H'.1, .string H'.2.1, .int .i64 H'.2.2.1, .int .i64 H'.2.2.2, .slice a' n' c'] rfl rfl 33 _ hZ7 (hi_info H' _) rfl (hi_one H' a' n' c') ?_)
                    have hSB8 := hSB7.setRow (r := w5_r.heap.size) (by omega) #[.string H'.1, .string H'.2.1, .int .i64 H'.2.2.1, .int .i64 H'.2.2.2, .slice a' n' c']
                    have hG8 := hG7.setRow (g := w5_r.heap.size) (.inl (by omega)) #[.string H'.1, .string H'.2.1, .int .i64 H'.2.2.1, .int .i64 H'.2.2.2, .slice a' n' c']
                    have hS8 := hS7.trans (GS.row (g := w5_r.heap.size) hz #[.string H'.1, .string H'.2.1, .int .i64 H'.2.2.1, .int .i64 H'.2.2.2, .slice a' n' c'])
                    have hR8 := Rd.grown hR7 ((G.refl _ (some (w5_r.heap.size))).setRow (.inr rfl) #[.string H'.1, .string H'.2.1, .int .i64 H'.2.2.1, .int .i64 H'.2.2.2, .slice a' n' c']) (fun k e hk => by cases e; exact hne7 _ hk rfl)
                    have hZ8 := hZ7.setRow #[.string H'.1, .string H'.2.1, .int .i64 H'.2.2.1, .int .i64 H'.2.2.2, .slice a' n' c']
                    have hne8 := hne7
                    clear hSB7 hG7
                    refine hK.out _ _ ?_ (fun hHeld => ?_)
                    · exact ⟨(HO.out _ hS8).2.cell 0, (HO.out _ hS8).2.cell 1⟩
                    clear hK K
                    try simp only [Act.put, List.setIfInBounds_toArray, List.set_cons_zero, List.set_cons_succ]
                    refine wpAnyH_take (i := 17) (oi := ⟨_, _, _, _, _, _⟩) (v := ?_) rfl (by kernel_rfl) (by kernel_rfl) (by kernel_rfl) (fun _ _ _ h => h) (Or.inl ⟨by rfl, ?_⟩) (by assumption) ?_
                    rotate_left
                    · (intro w hSw; obtain ⟨s0, s1⟩ := hSw; (go_simp <;> with_reducible rfl))
                    try simp only [Act.put, List.setIfInBounds_toArray, List.set_cons_zero, List.set_cons_succ]
                    refine wpAnyH_done (by kernel_rfl) ?_ _
                    go_wp2_with fail
                    go_meet
                    case rel => exact ⟨_, (key, d, f, f + p), [(v, r, noIn)], _, rfl, rfl, hv_leaf (fun e => e) HHH.out hR8 hZ8 (fun k e => ⟨by have := HB.out k e; omega, hne8 k e, hne8 k e⟩) (by omega) (fun x hx => by obtain rfl := List.mem_singleton.1 hx; exact ⟨HSv.out, HBr.out.2.1, small_nil⟩) HKS.out HSd.out (by unfold bnd; dsimp only; omega) (by unfold bnd; dsimp only; omega), (HO.out _ hS8).1, hSB8.le (by omega), hG8⟩
                · go_simp
                  have hh := (G.refl w4_v none).alloc (.cells #[.string ⟨#[]⟩, .string ⟨#[]⟩, .int .i64 0, .int .i64 0, .slice none 0 0] 33)
                  have hz : w2.heap.size ≤ w4_v.heap.size := hS4.size
                  have hZZ := Bk.new w4_v 33 #[.string ⟨#[]⟩, .string ⟨#[]⟩, .int .i64 0, .int .i64 0, .slice none 0 0]
                  have hSB5 := hSB4.quiet hh
                  have hG5 := hG4.trans0 hh
                  have hS5 := hS4.trans (GS.of_G hh)
                  clear hh hSB4 hG4 hS4
                  have hZ5 := hZZ
                  generalize w4_v.alloc (.cells #[.string ⟨#[]⟩, .string ⟨#[]⟩, .int .i64 0, .int .i64 0, .slice none 0 0] 33) = w5_x at hSB5 hG5 hS5 hZ5 ⊢
                  refine hK.out _ _ ?_ (fun hHeld => ?_)
                  · exact ⟨(HO.out _ hS5).2.cell 0, (HO.out _ hS5).2.cell 1⟩
                  clear hK K
                  try simp only [Act.put, List.setIfInBounds_toArray, List.set_cons_zero, List.set_cons_succ]
                  refine wpAnyH_ready (rs := [10]) (by kernel_rfl) (by simp) ?_
                  refine (AllReadyH.cons (o := ⟨_, _, _, _, _, _⟩) rfl (fun K hK => ?_) AllReadyH.nil)
                  go_simp
                  refine (reading_c f _ s _ (by unfold bnd; omega) hSB5 (by omega)).mono ?_
                  rintro e w6_r ⟨r, rfl, hr, hSB6, hh⟩
                  have HBr := Lib.hid hr
                  clear hr
                  have hG6 := hG5.trans hh
                  have hS6 := hS5.trans (GS.stream hh)
                  have hZ6 := hZ5.grown hh (fun e => by have := Option.some.inj e; omega)
                  clear hh hSB5 hG5 hS5 hZ5
                  refine hK.out _ _ ?_ (fun hHeld => ?_)
                  · exact ⟨(HO.out _ hS6).2.cell 0, (HO.out _ hS6).2.cell 1⟩
                  clear hK K
                  try simp only [Act.put, List.setIfInBounds_toArray, List.set_cons_zero, List.set_cons_succ]
                  refine wpAnyH_ready (rs := [11]) (by kernel_rfl) (by simp) ?_
                  refine (AllReadyH.cons (o := ⟨_, _, _, _, _, _⟩) rfl (fun K hK => ?_) AllReadyH.nil)
                  go_simp
                  refine (startOf_c (key, d, f, f + p) v r _ HSv.out HBr.out.2.1 HKS.out HSd.out (by unfold bnd; dsimp only; omega) (by unfold bnd; dsimp only; omega)).mono ?_
                  rintro e w7_m ⟨H', a', n', c', rfl, hHH, hbb, hR7, hh⟩
                  have HHH := Lib.hid hHH
                  have HB := Lib.hid (fun k e => Nat.le_trans hS6.size (hbb k e))
                  have hne7 : ∀ k, (Value.slice a' n' c').ownBlock = some k → k ≠ w4_v.heap.size := fun k e => by have := hbb k e; have := hZ6.lt; omega
                  clear hHH hbb
                  have hSB7 := hSB6.quiet hh
                  have hG7 := hG6.trans0 hh
                  have hS7 := hS6.trans (GS.of_G hh)
                  have hZ7 := hZ6.quiet hh
                  clear hh hSB6 hG6 hS6 hZ6
                  refine hK.out _ _ ?_ (fun hHeld => ?_)
                  · exact ⟨(HO.out _ hS7).2.cell 0, (HO.out _ hS7).2.cell 1⟩
                  clear hK K
                  try simp only [Act.put, List.setIfInBounds_toArray, List.set_cons_zero, List.set_cons_succ]
                  refine wpAnyH_take (i := 12) (oi := ⟨_, _, _, _, _, _⟩) (v := ?_) rfl (by kernel_rfl) (by kernel_rfl) (by kernel_rfl) (fun _ _ _ h => h) (Or.inl ⟨by rfl, ?_⟩) (by assumption) ?_
                  rotate_left
                  · (intro w hSw; obtain ⟨s0, s1⟩ := hSw; (go_simp <;> with_reducible rfl))
                  try simp only [Act.put, List.setIfInBounds_toArray, List.set_cons_zero, List.set_cons_succ]
                  refine wpAnyH_take (i := 13) (oi := ⟨_, _, _, _, _, _⟩) (v := ?_) rfl (by kernel_rfl) (by kernel_rfl) (by kernel_rfl) (fun _ _ _ h => h) (Or.inl ⟨by rfl, ?_⟩) (by assumption) ?_
                  rotate_left
                  · (intro w hSw; obtain ⟨s0, s1⟩ := hSw; (go_simp <;> with_reducible rfl))
                  try simp only [Act.put, List.setIfInBounds_toArray, List.set_cons_zero, List.set_cons_succ]
                  refine wpAnyH_take (i := 14) (oi := ⟨_, _, _, _, _, _⟩) (v := ?_) rfl (by kernel_rfl) (by kernel_rfl) (by kernel_rfl) (fun _ _ _ h => h) (Or.inl ⟨by rfl, ?_⟩) (by assumption) ?_
                  rotate_left
                  · (intro w hSw; obtain ⟨s0, s1⟩ := hSw; (go_simp <;> with_reducible rfl))
                  try simp only [Act.put, List.setIfInBounds_toArray, List.set_cons_zero, List.set_cons_succ]
                  refine wpAnyH_ready (rs := [16]) (by kernel_rfl) (by simp) ?_
                  refine (AllReadyH.cons (o := ⟨_, _, _, _, _, _⟩) rfl (fun K hK => ?_) AllReadyH.nil)
                  refine st_wp rfl (wp_store_row 33 _ _ rfl (w4_v.heap.size) #[.string H'.1, .string H'.2.1, .int .i64 H'.2.2.1, .int .i64 H'.2.2.2, .slice a' n' c'] rfl rfl 33 _ hZ7 (hi_info H' _) rfl (hi_one H' a' n' c') ?_)
                  have hSB8 := hSB7.setRow (r := w4_v.heap.size) (by omega) #[.string H'.1, .string H'.2.1, .int .i64 H'.2.2.1, .int .i64 H'.2.2.2, .slice a' n' c']
                  have hG8 := hG7.setRow (g := w4_v.heap.size) (.inl (by omega)) #[.string H'.1, .string H'.2.1, .int .i64 H'.2.2.1, .int .i64 H'.2.2.2, .slice a' n' c']
                  have hS8 := hS7.trans (GS.row (g := w4_v.heap.size) hz #[.string H'.1, .string H'.2.1, .int .i64 H'.2.2.1, .int .i64 H'.2.2.2, .slice a' n' c'])
                  have hR8 := Rd.grown hR7 ((G.refl _ (some (w4_v.heap.size))).setRow (.inr rfl) #[.string H'.1, .string H'.2.1, .int .i64 H'.2.2.1, .int .i64 H'.2.2.2, .slice a' n' c']) (fun k e hk => by cases e; exact hne7 _ hk rfl)
                  have hZ8 := hZ7.setRow #[.string H'.1, .string H'.2.1, .int .i64 H'.2.2.1, .int .i64 H'.2.2.2, .slice a' n' c']
                  have hne8 := hne7
                  clear hSB7 hG7
                  refine hK.out _ _ ?_ (fun hHeld => ?_)
                  · exact ⟨(HO.out _ hS8).2.cell 0, (HO.out _ hS8).2.cell 1⟩
                  clear hK K
                  try simp only [Act.put, List.setIfInBounds_toArray, List.set_cons_zero, List.set_cons_succ]
                  refine wpAnyH_take (i := 17) (oi := ⟨_, _, _, _, _, _⟩) (v := ?_) rfl (by kernel_rfl) (by kernel_rfl) (by kernel_rfl) (fun _ _ _ h => h) (Or.inl ⟨by rfl, ?_⟩) (by assumption) ?_
                  rotate_left
                  · (intro w hSw; obtain ⟨s0, s1⟩ := hSw; (go_simp <;> with_reducible rfl))
                  try simp only [Act.put, List.setIfInBounds_toArray, List.set_cons_zero, List.set_cons_succ]
                  refine wpAnyH_done (by kernel_rfl) ?_ _
                  go_wp2_with fail
                  go_meet
                  case rel => exact ⟨_, (key, d, f, f + p), [(v, r, noIn)], _, rfl, rfl, hv_leaf (fun e => e) HHH.out hR8 hZ8 (fun k e => ⟨by have := HB.out k e; omega, hne8 k e, hne8 k e⟩) (by omega) (fun x hx => by obtain rfl := List.mem_singleton.1 hx; exact ⟨HSv.out, HBr.out.2.1, small_nil⟩) HKS.out HSd.out (by unfold bnd; dsimp only; omega) (by unfold bnd; dsimp only; omega), (HO.out _ hS8).1, hSB8.le (by omega), hG8⟩
              · go_simp
                have hh := (G.refl w3_x none).alloc (.cells #[.string ⟨#[]⟩, .string ⟨#[]⟩, .int .i64 0, .int .i64 0, .slice none 0 0] 33)
                have hz : w2.heap.size ≤ w3_x.heap.size := hS3.size
                have hZZ := Bk.new w3_x 33 #[.string ⟨#[]⟩, .string ⟨#[]⟩, .int .i64 0, .int .i64 0, .slice none 0 0]
                have hSB4 := hSB3.quiet hh
                have hG4 := hG3.trans0 hh
                have hS4 := hS3.trans (GS.of_G hh)
                have hKB_4 := hKB_3.quiet hh
                clear hh hSB3 hG3 hS3 hKB_3
                have hZ4 := hZZ
                generalize w3_x.alloc (.cells #[.string ⟨#[]⟩, .string ⟨#[]⟩, .int .i64 0, .int .i64 0, .slice none 0 0] 33) = w4_x at hSB4 hG4 hS4 hZ4 hKB_4 ⊢
                refine hK.out _ _ ?_ (fun hHeld => ?_)
                · exact ⟨(HO.out _ hS4).2.cell 0, (HO.out _ hS4).2.cell 1⟩
                clear hK K
                try simp only [Act.put, List.setIfInBounds_toArray, List.set_cons_zero, List.set_cons_succ]
                refine wpAnyH_ready (rs := [7]) (by kernel_rfl) (by simp) ?_
                refine (AllReadyH.cons (o := ⟨_, _, _, _, _, _⟩) rfl (fun K hK => ?_) AllReadyH.nil)
                go_simp
                refine (some_c _ _ _ [⟨#[118, 49]⟩, ⟨#[118, 49]⟩, ⟨#[118, 50]⟩, ⟨#[118, 51]⟩] _ _ _ hSB4 (by omega) (by decide) (by decide) hKB_4.now (hSB4.ne hglB)).mono ?_
                rintro e w5_v ⟨v, rfl, hp, hSB5, hh⟩
                have HSv := Lib.hid (small_pick hp (by decide))
                clear hp hKB_4
                have hG5 := hG4.trans hh
                have hS5 := hS4.trans (GS.stream hh)
                have hZ5 := hZ4.grown hh (fun e => by have := Option.some.inj e; omega)
                clear hh hSB4 hG4 hS4 hZ4
                refine hK.out _ _ ?_ (fun hHeld => ?_)
                · exact ⟨(HO.out _ hS5).2.cell 0, (HO.out _ hS5).2.cell 1⟩
                clear hK K
                try simp only [Act.put, List.setIfInBounds_toArray, List.set_cons_zero, List.set_cons_succ]
                refine wpAnyH_ready (rs := [10]) (by kernel_rfl) (by simp) ?_
                refine (AllReadyH.cons (o := ⟨_, _, _, _, _, _⟩) rfl (fun K hK => ?_) AllReadyH.nil)
                go_simp
                refine (reading_c f _ s _ (by unfold bnd; omega) hSB5 (by omega)).mono ?_
                rintro e w6_r ⟨r, rfl, hr, hSB6, hh⟩
                have HBr := Lib.hid hr
                clear hr
                have hG6 := hG5.trans hh
                have hS6 := hS5.trans (GS.stream hh)
                have hZ6 := hZ5.grown hh (fun e => by have := Option.some.inj e; omega)
                clear hh hSB5 hG5 hS5 hZ5
                refine hK.out _ _ ?_ (fun hHeld => ?_)
                · exact ⟨(HO.out _ hS6).2.cell 0, (HO.out _ hS6).2.cell 1⟩
                clear hK K
                try simp only [Act.put, List.setIfInBounds_toArray, List.set_cons_zero, List.set_cons_succ]
                refine wpAnyH_ready (rs := [11]) (by kernel_rfl) (by simp) ?_
                refine (AllReadyH.cons (o := ⟨_, _, _, _, _, _⟩) rfl (fun K hK => ?_) AllReadyH.nil)
                go_simp
                refine (startOf_c (key, d, f, f + p) v r _ HSv.out HBr.out.2.1 HKS.out HSd.out (by unfold bnd; dsimp only; omega) (by unfold bnd; dsimp only; omega)).mono ?_
                rintro e w7_m ⟨H', a', n', c', rfl, hHH, hbb, hR7, hh⟩
                have HHH := Lib.hid hHH
                have HB := Lib.hid (fun k e => Nat.le_trans hS6.size (hbb k e))
                have hne7 : ∀ k, (Value.slice a' n' c').ownBlock = some k → k ≠ w3_x.heap.size := fun k e => by have := hbb k e; have := hZ6.lt; omega
                clear hHH hbb
                have hSB7 := hSB6.quiet hh
                have hG7 := hG6.trans0 hh
                have hS7 := hS6.trans (GS.of_G hh)
                have hZ7 := hZ6.quiet hh
                clear hh hSB6 hG6 hS6 hZ6
                refine hK.out _ _ ?_ (fun hHeld => ?_)
                · exact ⟨(HO.out _ hS7).2.cell 0, (HO.out _ hS7).2.cell 1⟩
                clear hK K
                try simp only [Act.put, List.setIfInBounds_toArray, List.set_cons_zero, List.set_cons_succ]
                refine wpAnyH_take (i := 12) (oi := ⟨_, _, _, _, _, _⟩) (v := ?_) rfl (by kernel_rfl) (by kernel_rfl) (by kernel_rfl) (fun _ _ _ h => h) (Or.inl ⟨by rfl, ?_⟩) (by assumption) ?_
                rotate_left
                · (intro w hSw; obtain ⟨s0, s1⟩ := hSw; (go_simp <;> with_reducible rfl))
                try simp only [Act.put, List.setIfInBounds_toArray, List.set_cons_zero, List.set_cons_succ]
                refine wpAnyH_take (i := 13) (oi := ⟨_, _, _, _, _, _⟩) (v := ?_) rfl (by kernel_rfl) (by kernel_rfl) (by kernel_rfl) (fun _ _ _ h => h) (Or.inl ⟨by rfl, ?_⟩) (by assumption) ?_
                rotate_left
                · (intro w hSw; obtain ⟨s0, s1⟩ := hSw; (go_simp <;> with_reducible rfl))
                try simp only [Act.put, List.setIfInBounds_toArray, List.set_cons_zero, List.set_cons_succ]
                refine wpAnyH_take (i := 14) (oi := ⟨_, _, _, _, _, _⟩) (v := ?_) rfl (by kernel_rfl) (by kernel_rfl) (by kernel_rfl) (fun _ _ _ h => h) (Or.inl ⟨by rfl, ?_⟩) (by assumption) ?_
                rotate_left
                · (intro w hSw; obtain ⟨s0, s1⟩ := hSw; (go_simp <;> with_reducible rfl))
                try simp only [Act.put, List.setIfInBounds_toArray, List.set_cons_zero, List.set_cons_succ]
                refine wpAnyH_ready (rs := [16]) (by kernel_rfl) (by simp) ?_
                refine (AllReadyH.cons (o := ⟨_, _, _, _, _, _⟩) rfl (fun K hK => ?_) AllReadyH.nil)
                refine st_wp rfl (wp_store_row 33 _ _ rfl (w3_x.heap.size) #[.string H'.1, .string H'.2.1, .int .i64 H'.2.2.1, .int .i64 H'.2.2.2, .slice a' n' c'] rfl rfl 33 _ hZ7 (hi_info H' _) rfl (hi_one H' a' n' c') ?_)
                have hSB8 := hSB7.setRow (r := w3_x.heap.size) (by omega) #[.string H'.1, .string H'.2.1, .int .i64 H'.2.2.1, .int .i64 H'.2.2.2, .slice a' n' c']
                have hG8 := hG7.setRow (g := w3_x.heap.size) (.inl (by omega)) #[.string H'.1, .string H'.2.1, .int .i64 H'.2.2.1, .int .i64 H'.2.2.2, .slice a' n' c']
                have hS8 := hS7.trans (GS.row (g := w3_x.heap.size) hz #[.string H'.1, .string H'.2.1, .int .i64 H'.2.2.1, .int .i64 H'.2.2.2, .slice a' n' c'])
                have hR8 := Rd.grown hR7 ((G.refl _ (some (w3_x.heap.size))).setRow (.inr rfl) #[.string H'.1, .string H'.2.1, .int .i64 H'.2.2.1, .int .i64 H'.2.2.2, .slice a' n' c']) (fun k e hk => by cases e; exact hne7 _ hk rfl)
                have hZ8 := hZ7.setRow #[.string H'.1, .string H'.2.1, .int .i64 H'.2.2.1, .int .i64 H'.2.2.2, .slice a' n' c']
                have hne8 := hne7
                clear hSB7 hG7
                refine hK.out _ _ ?_ (fun hHeld => ?_)
                · exact ⟨(HO.out _ hS8).2.cell 0, (HO.out _ hS8).2.cell 1⟩
                clear hK K
                try simp only [Act.put, List.setIfInBounds_toArray, List.set_cons_zero, List.set_cons_succ]
                refine wpAnyH_take (i := 17) (oi := ⟨_, _, _, _, _, _⟩) (v := ?_) rfl (by kernel_rfl) (by kernel_rfl) (by kernel_rfl) (fun _ _ _ h => h) (Or.inl ⟨by rfl, ?_⟩) (by assumption) ?_
                rotate_left
                · (intro w hSw; obtain ⟨s0, s1⟩ := hSw; (go_simp <;> with_reducible rfl))
                try simp only [Act.put, List.setIfInBounds_toArray, List.set_cons_zero, List.set_cons_succ]
                refine wpAnyH_done (by kernel_rfl) ?_ _
                go_wp2_with fail
                go_meet
                case rel => exact ⟨_, (key, d, f, f + p), [(v, r, noIn)], _, rfl, rfl, hv_leaf (fun e => e) HHH.out hR8 hZ8 (fun k e => ⟨by have := HB.out k e; omega, hne8 k e, hne8 k e⟩) (by omega) (fun x hx => by obtain rfl := List.mem_singleton.1 hx; exact ⟨HSv.out, HBr.out.2.1, small_nil⟩) HKS.out HSd.out (by unfold bnd; dsimp only; omega) (by unfold bnd; dsimp only; omega), (HO.out _ hS8).1, hSB8.le (by omega), hG8⟩
            · go_simp
              have hh := (G.refl w2_d none).alloc (.cells #[.string ⟨#[]⟩, .string ⟨#[]⟩, .int .i64 0, .int .i64 0, .slice none 0 0] 33)
              have hz : w2.heap.size ≤ w2_d.heap.size := hS2.size
              have hZZ := Bk.new w2_d 33 #[.string ⟨#[]⟩, .string ⟨#[]⟩, .int .i64 0, .int .i64 0, .slice none 0 0]
              have hSB3 := hSB2.quiet hh
              have hG3 := hG2.trans0 hh
              have hS3 := hS2.trans (GS.of_G hh)
              clear hh hSB2 hG2 hS2
              have hZ3 := hZZ
              generalize w2_d.alloc (.cells #[.string ⟨#[]⟩, .string ⟨#[]⟩, .int .i64 0, .int .i64 0, .slice none 0 0] 33) = w3_x at hSB3 hG3 hS3 hZ3 ⊢
              refine hK.out _ _ ?_ (fun hHeld => ?_)
              · exact ⟨(HO.out _ hS3).2.cell 0, (HO.out _ hS3).2.cell 1⟩
              clear hK K
              try simp only [Act.put, List.setIfInBounds_toArray, List.set_cons_zero, List.set_cons_succ]
              refine wpAnyH_ready (rs := [6]) (by kernel_rfl) (by simp) ?_
              refine (AllReadyH.cons (o := ⟨_, _, _, _, _, _⟩) rfl (fun K hK => ?_) AllReadyH.nil)
              go_simp
              have hh := (G.refl w3_x none).alloc (.cells #[.string ⟨#[118, 49]⟩, .string ⟨#[118, 49]⟩, .string ⟨#[118, 50]⟩, .string ⟨#[118, 51]⟩] 9)
              have hN := Kp.made (s := s) (w := w3_x) 4 9 #[.string ⟨#[118, 49]⟩, .string ⟨#[118, 49]⟩, .string ⟨#[118, 50]⟩, .string ⟨#[118, 51]⟩] rfl (by decide) hSB3.lt
              have hglB := hSB3.lt
              have hSB4 := hSB3.quiet hh
              have hG4 := hG3.trans0 hh
              have hS4 := hS3.trans (GS.of_G hh)
              have hZ4 := hZ3.quiet hh
              clear hh hSB3 hG3 hS3 hZ3
              have hKB_4 := hN
              clear hN
              generalize w3_x.alloc (.cells #[.string ⟨#[118, 49]⟩, .string ⟨#[118, 49]⟩, .string ⟨#[118, 50]⟩, .string ⟨#[118, 51]⟩] 9) = w4_x at hSB4 hG4 hS4 hZ4 hKB_4 ⊢
              refine hK.out _ _ ?_ (fun hHeld => ?_)
              · exact ⟨(HO.out _ hS4).2.cell 0, (HO.out _ hS4).2.cell 1⟩
              clear hK K
              try simp only [Act.put, List.setIfInBounds_toArray, List.set_cons_zero, List.set_cons_succ]
              refine wpAnyH_ready (rs := [7]) (by kernel_rfl) (by simp) ?_
              refine (AllReadyH.cons (o := ⟨_, _, _, _, _, _⟩) rfl (fun K hK => ?_) AllReadyH.nil)
              go_simp
              refine (some_c _ _ _ [⟨#[118, 49]⟩, ⟨#[118, 49]⟩, ⟨#[118, 50]⟩, ⟨#[118, 51]⟩] _ _ _ hSB4 (by omega) (by decide) (by decide) hKB_4.now (hSB4.ne hglB)).mono ?_
              rintro e w5_v ⟨v, rfl, hp, hSB5, hh⟩
              have HSv := Lib.hid (small_pick hp (by decide))
              clear hp hKB_4
              have hG5 := hG4.trans hh
              have hS5 := hS4.trans (GS.stream hh)
              have hZ5 := hZ4.grown hh (fun e => by have := Option.some.inj e; omega)
              clear hh hSB4 hG4 hS4 hZ4
              refine hK.out _ _ ?_ (fun hHeld => ?_)
              · exact ⟨(HO.out _ hS5).2.cell 0, (HO.out _ hS5).2.cell 1⟩
              clear hK K
              try simp only [Act.put, List.setIfInBounds_toArray, List.set_cons_zero, List.set_cons_succ]
              refine wpAnyH_ready (rs := [10]) (by kernel_rfl) (by simp) ?_
              refine (AllReadyH.cons (o := ⟨_, _, _, _, _, _⟩) rfl (fun K hK => ?_) AllReadyH.nil)
              go_simp
              refine (reading_c f _ s _ (by unfold bnd; omega) hSB5 (by omega)).mono ?_
              rintro e w6_r ⟨r, rfl, hr, hSB6, hh⟩
              have HBr := Lib.hid hr
              clear hr
              have hG6 := hG5.trans hh
              have hS6 := hS5.trans (GS.stream hh)
              have hZ6 := hZ5.grown hh (fun e => by have := Option.some.inj e; omega)
              clear hh hSB5 hG5 hS5 hZ5
              refine hK.out _ _ ?_ (fun hHeld => ?_)
              · exact ⟨(HO.out _ hS6).2.cell 0, (HO.out _ hS6).2.cell 1⟩
              clear hK K
              try simp only [Act.put, List.setIfInBounds_toArray, List.set_cons_zero, List.set_cons_succ]
              refine wpAnyH_ready (rs := [11]) (by kernel_rfl) (by simp) ?_
              refine (AllReadyH.cons (o := ⟨_, _, _, _, _, _⟩) rfl (fun K hK => ?_) AllReadyH.nil)
              go_simp
              refine (startOf_c (key, d, f, f + p) v r _ HSv.out HBr.out.2.1 HKS.out HSd.out (by unfold bnd; dsimp only; omega) (by unfold bnd; dsimp only; omega)).mono ?_
              rintro e w7_m ⟨H', a', n', c', rfl, hHH, hbb, hR7, hh⟩
              have HHH := Lib.hid hHH
              have HB := Lib.hid (fun k e => Nat.le_trans hS6.size (hbb k e))
              have hne7 : ∀ k, (Value.slice a' n' c').ownBlock = some k → k ≠ w2_d.heap.size := fun k e => by have := hbb k e; have := hZ6.lt; omega
              clear hHH hbb
              have hSB7 := hSB6.quiet hh
              have hG7 := hG6.trans0 hh
              have hS7 := hS6.trans (GS.of_G hh)
              have hZ7 := hZ6.quiet hh
              clear hh hSB6 hG6 hS6 hZ6
              refine hK.out _ _ ?_ (fun hHeld => ?_)
              · exact ⟨(HO.out _ hS7).2.cell 0, (HO.out _ hS7).2.cell 1⟩
              clear hK K
              try simp only [Act.put, List.setIfInBounds_toArray, List.set_cons_zero, List.set_cons_succ]
              refine wpAnyH_take (i := 12) (oi := ⟨_, _, _, _, _, _⟩) (v := ?_) rfl (by kernel_rfl) (by kernel_rfl) (by kernel_rfl) (fun _ _ _ h => h) (Or.inl ⟨by rfl, ?_⟩) (by assumption) ?_
              rotate_left
              · (intro w hSw; obtain ⟨s0, s1⟩ := hSw; (go_simp <;> with_reducible rfl))
              try simp only [Act.put, List.setIfInBounds_toArray, List.set_cons_zero, List.set_cons_succ]
              refine wpAnyH_take (i := 13) (oi := ⟨_, _, _, _, _, _⟩) (v := ?_) rfl (by kernel_rfl) (by kernel_rfl) (by kernel_rfl) (fun _ _ _ h => h) (Or.inl ⟨by rfl, ?_⟩) (by assumption) ?_
              rotate_left
              · (intro w hSw; obtain ⟨s0, s1⟩ := hSw; (go_simp <;> with_reducible rfl))
              try simp only [Act.put, List.setIfInBounds_toArray, List.set_cons_zero, List.set_cons_succ]
              refine wpAnyH_take (i := 14) (oi := ⟨_, _, _, _, _, _⟩) (v := ?_) rfl (by kernel_rfl) (by kernel_rfl) (by kernel_rfl) (fun _ _ _ h => h) (Or.inl ⟨by rfl, ?_⟩) (by assumption) ?_
              rotate_left
              · (intro w hSw; obtain ⟨s0, s1⟩ := hSw; (go_simp <;> with_reducible rfl))
              try simp only [Act.put, List.setIfInBounds_toArray, List.set_cons_zero, List.set_cons_succ]
              refine wpAnyH_ready (rs := [16]) (by kernel_rfl) (by simp) ?_
              refine (AllReadyH.cons (o := ⟨_, _, _, _, _, _⟩) rfl (fun K hK => ?_) AllReadyH.nil)
              refine st_wp rfl (wp_store_row 33 _ _ rfl (w2_d.heap.size) #[.string H'.1, .string H'.2.1, .int .i64 H'.2.2.1, .int .i64 H'.2.2.2, .slice a' n' c'] rfl rfl 33 _ hZ7 (hi_info H' _) rfl (hi_one H' a' n' c') ?_)
              have hSB8 := hSB7.setRow (r := w2_d.heap.size) (by omega) #[.string H'.1, .string H'.2.1, .int .i64 H'.2.2.1, .int .i64 H'.2.2.2, .slice a' n' c']
              have hG8 := hG7.setRow (g := w2_d.heap.size) (.inl (by omega)) #[.string H'.1, .string H'.2.1, .int .i64 H'.2.2.1, .int .i64 H'.2.2.2, .slice a' n' c']
              have hS8 := hS7.trans (GS.row (g := w2_d.heap.size) hz #[.string H'.1, .string H'.2.1, .int .i64 H'.2.2.1, .int .i64 H'.2.2.2, .slice a' n' c'])
              have hR8 := Rd.grown hR7 ((G.refl _ (some (w2_d.heap.size))).setRow (.inr rfl) #[.string H'.1, .string H'.2.1, .int .i64 H'.2.2.1, .int .i64 H'.2.2.2, .slice a' n' c']) (fun k e hk => by cases e; exact hne7 _ hk rfl)
              have hZ8 := hZ7.setRow #[.string H'.1, .string H'.2.1, .int .i64 H'.2.2.1, .int .i64 H'.2.2.2, .slice a' n' c']
              have hne8 := hne7
              clear hSB7 hG7
              refine hK.out _ _ ?_ (fun hHeld => ?_)
              · exact ⟨(HO.out _ hS8).2.cell 0, (HO.out _ hS8).2.cell 1⟩
              clear hK K
              try simp only [Act.put, List.setIfInBounds_toArray, List.set_cons_zero, List.set_cons_succ]
              refine wpAnyH_take (i := 17) (oi := ⟨_, _, _, _, _, _⟩) (v := ?_) rfl (by kernel_rfl) (by kernel_rfl) (by kernel_rfl) (fun _ _ _ h => h) (Or.inl ⟨by rfl, ?_⟩) (by assumption) ?_
              rotate_left
              · (intro w hSw; obtain ⟨s0, s1⟩ := hSw; (go_simp <;> with_reducible rfl))
              try simp only [Act.put, List.setIfInBounds_toArray, List.set_cons_zero, List.set_cons_succ]
              refine wpAnyH_done (by kernel_rfl) ?_ _
              go_wp2_with fail
              go_meet
              case rel => exact ⟨_, (key, d, f, f + p), [(v, r, noIn)], _, rfl, rfl, hv_leaf (fun e => e) HHH.out hR8 hZ8 (fun k e => ⟨by have := HB.out k e; omega, hne8 k e, hne8 k e⟩) (by omega) (fun x hx => by obtain rfl := List.mem_singleton.1 hx; exact ⟨HSv.out, HBr.out.2.1, small_nil⟩) HKS.out HSd.out (by unfold bnd; dsimp only; omega) (by unfold bnd; dsimp only; omega), (HO.out _ hS8).1, hSB8.le (by omega), hG8⟩
          · go_simp
            have hh := (G.refl w1_x none).alloc (.cells #[.string ⟨#[118, 49]⟩, .string ⟨#[118, 49]⟩, .string ⟨#[118, 50]⟩, .string ⟨#[118, 51]⟩] 9)
            have hN := Kp.made (s := s) (w := w1_x) 4 9 #[.string ⟨#[118, 49]⟩, .string ⟨#[118, 49]⟩, .string ⟨#[118, 50]⟩, .string ⟨#[118, 51]⟩] rfl (by decide) hSB1.lt
            have hglB := hSB1.lt
            have hSB2 := hSB1.quiet hh
            have hG2 := hG1.trans0 hh
            have hS2 := hS1.trans (GS.of_G hh)
            have hKA_2 := hKA_1.quiet hh
            clear hh hSB1 hG1 hS1 hKA_1
            have hKB_2 := hN
            clear hN
            generalize w1_x.alloc (.cells #[.string ⟨#[118, 49]⟩, .string ⟨#[118, 49]⟩, .string ⟨#[118, 50]⟩, .string ⟨#[118, 51]⟩] 9) = w2_x at hSB2 hG2 hS2 hKA_2 hKB_2 ⊢
            refine hK.out _ _ ?_ (fun hHeld => ?_)
            · exact ⟨(HO.out _ hS2).2.cell 0, (HO.out _ hS2).2.cell 1⟩
            clear hK K
            try simp only [Act.put, List.setIfInBounds_toArray, List.set_cons_zero, List.set_cons_succ]
            refine wpAnyH_ready (rs := [3, 15]) (by kernel_rfl) (by simp) ?_
            refine (AllReadyH.cons (o := ⟨_, _, _, _, _, _⟩) rfl (fun K hK => ?_) (AllReadyH.cons (o := ⟨_, _, _, _, _, _⟩) rfl (fun K hK => ?_) AllReadyH.nil))
            · go_simp
              refine (some_c _ _ _ [⟨#[97, 110, 110]⟩, ⟨#[97, 110, 110]⟩, ⟨#[98, 111, 98]⟩, ⟨#[99, 105, 100]⟩] _ _ _ hSB2 (by omega) (by decide) (by decide) hKA_2.now (hSB2.ne hglA)).mono ?_
              rintro e w3_d ⟨d, rfl, hp, hSB3, hh⟩
              have HSd := Lib.hid (small_pick hp (by decide))
              clear hp hKA_2
              have hG3 := hG2.trans hh
              have hS3 := hS2.trans (GS.stream hh)
              have hKB_3 := hKB_2.step hh
              clear hh hSB2 hG2 hS2 hKB_2
              refine hK.out _ _ ?_ (fun hHeld => ?_)
              · exact ⟨(HO.out _ hS3).2.cell 0, (HO.out _ hS3).2.cell 1⟩
              clear hK K
              try simp only [Act.put, List.setIfInBounds_toArray, List.set_cons_zero, List.set_cons_succ]
              refine wpAnyH_ready (rs := [7, 15]) (by kernel_rfl) (by simp) ?_
              refine (AllReadyH.cons (o := ⟨_, _, _, _, _, _⟩) rfl (fun K hK => ?_) (AllReadyH.cons (o := ⟨_, _, _, _, _, _⟩) rfl (fun K hK => ?_) AllReadyH.nil))
              · go_simp
                refine (some_c _ _ _ [⟨#[118, 49]⟩, ⟨#[118, 49]⟩, ⟨#[118, 50]⟩, ⟨#[118, 51]⟩] _ _ _ hSB3 (by omega) (by decide) (by decide) hKB_3.now (hSB3.ne hglB)).mono ?_
                rintro e w4_v ⟨v, rfl, hp, hSB4, hh⟩
                have HSv := Lib.hid (small_pick hp (by decide))
                clear hp hKB_3
                have hG4 := hG3.trans hh
                have hS4 := hS3.trans (GS.stream hh)
                clear hh hSB3 hG3 hS3
                refine hK.out _ _ ?_ (fun hHeld => ?_)
                · exact ⟨(HO.out _ hS4).2.cell 0, (HO.out _ hS4).2.cell 1⟩
                clear hK K
                try simp only [Act.put, List.setIfInBounds_toArray, List.set_cons_zero, List.set_cons_succ]
                refine wpAnyH_ready (rs := [10, 15]) (by kernel_rfl) (by simp) ?_
                refine (AllReadyH.cons (o := ⟨_, _, _, _, _, _⟩) rfl (fun K hK => ?_) (AllReadyH.cons (o := ⟨_, _, _, _, _, _⟩) rfl (fun K hK => ?_) AllReadyH.nil))
                · go_simp
                  refine (reading_c f _ s _ (by unfold bnd; omega) hSB4 (by omega)).mono ?_
                  rintro e w5_r ⟨r, rfl, hr, hSB5, hh⟩
                  have HBr := Lib.hid hr
                  clear hr
                  have hG5 := hG4.trans hh
                  have hS5 := hS4.trans (GS.stream hh)
                  clear hh hSB4 hG4 hS4
                  refine hK.out _ _ ?_ (fun hHeld => ?_)
                  · exact ⟨(HO.out _ hS5).2.cell 0, (HO.out _ hS5).2.cell 1⟩
                  clear hK K
                  try simp only [Act.put, List.setIfInBounds_toArray, List.set_cons_zero, List.set_cons_succ]
                  refine wpAnyH_ready (rs := [11, 15]) (by kernel_rfl) (by simp) ?_
                  refine (AllReadyH.cons (o := ⟨_, _, _, _, _, _⟩) rfl (fun K hK => ?_) (AllReadyH.cons (o := ⟨_, _, _, _, _, _⟩) rfl (fun K hK => ?_) AllReadyH.nil))
                  · go_simp
                    refine (startOf_c (key, d, f, f + p) v r _ HSv.out HBr.out.2.1 HKS.out HSd.out (by unfold bnd; dsimp only; omega) (by unfold bnd; dsimp only; omega)).mono ?_
                    rintro e w6_m ⟨H', a', n', c', rfl, hHH, hbb, hR6, hh⟩
                    have HHH := Lib.hid hHH
                    have HB := Lib.hid (fun k e => Nat.le_trans hS5.size (hbb k e))
                    clear hHH hbb
                    have hSB6 := hSB5.quiet hh
                    have hG6 := hG5.trans0 hh
                    have hS6 := hS5.trans (GS.of_G hh)
                    clear hh hSB5 hG5 hS5
                    refine hK.out _ _ ?_ (fun hHeld => ?_)
                    · exact ⟨(HO.out _ hS6).2.cell 0, (HO.out _ hS6).2.cell 1⟩
                    clear hK K
                    try simp only [Act.put, List.setIfInBounds_toArray, List.set_cons_zero, List.set_cons_succ]
                    refine wpAnyH_take (i := 12) (oi := ⟨_, _, _, _, _, _⟩) (v := ?_) rfl (by kernel_rfl) (by kernel_rfl) (by kernel_rfl) (fun _ _ _ h => h) (Or.inl ⟨by rfl, ?_⟩) (by assumption) ?_
                    rotate_left
                    · (intro w hSw; obtain ⟨s0, s1⟩ := hSw; (go_simp <;> with_reducible rfl))
                    try simp only [Act.put, List.setIfInBounds_toArray, List.set_cons_zero, List.set_cons_succ]
                    refine wpAnyH_take (i := 13) (oi := ⟨_, _, _, _, _, _⟩) (v := ?_) rfl (by kernel_rfl) (by kernel_rfl) (by kernel_rfl) (fun _ _ _ h => h) (Or.inl ⟨by rfl, ?_⟩) (by assumption) ?_
                    rotate_left
                    · (intro w hSw; obtain ⟨s0, s1⟩ := hSw; (go_simp <;> with_reducible rfl))
                    try simp only [Act.put, List.setIfInBounds_toArray, List.set_cons_zero, List.set_cons_succ]
                    refine wpAnyH_take (i := 14) (oi := ⟨_, _, _, _, _, _⟩) (v := ?_) rfl (by kernel_rfl) (by kernel_rfl) (by kernel_rfl) (fun _ _ _ h => h) (Or.inl ⟨by rfl, ?_⟩) (by assumption) ?_
                    rotate_left
                    · (intro w hSw; obtain ⟨s0, s1⟩ := hSw; (go_simp <;> with_reducible rfl))
                    try simp only [Act.put, List.setIfInBounds_toArray, List.set_cons_zero, List.set_cons_succ]
                    refine wpAnyH_ready (rs := [15]) (by kernel_rfl) (by simp) ?_
                    refine (AllReadyH.cons (o := ⟨_, _, _, _, _, _⟩) rfl (fun K hK => ?_) AllReadyH.nil)
                    go_simp
                    have hh := (G.refl w6_m none).alloc (.cells #[.string ⟨#[]⟩, .string ⟨#[]⟩, .int .i64 0, .int .i64 0, .slice none 0 0] 33)
                    have hz : w2.heap.size ≤ w6_m.heap.size := hS6.size
                    have hZZ := Bk.new w6_m 33 #[.string ⟨#[]⟩, .string ⟨#[]⟩, .int .i64 0, .int .i64 0, .slice none 0 0]
                    have hNE : ∀ k, (Value.slice a' n' c').ownBlock = some k → k ≠ w6_m.heap.size := fun k e => Nat.ne_of_lt (Rd.blk hR6 k e)
                    have hSB7 := hSB6.quiet hh
                    have hG7 := hG6.trans0 hh
                    have hS7 := hS6.trans (GS.of_G hh)
                    have hR7 := Rd.quiet hR6 hh
                    clear hh hSB6 hG6 hS6 hR6
                    have hZ7 := hZZ
                    have hne7 := hNE
                    generalize w6_m.alloc (.cells #[.string ⟨#[]⟩, .string ⟨#[]⟩, .int .i64 0, .int .i64 0, .slice none 0 0] 33) = w7_x at hSB7 hG7 hS7 hZ7 hR7 ⊢
                    refine hK.out _ _ ?_ (fun hHeld => ?_)
                    · exact ⟨(HO.out _ hS7).2.cell 0, (HO.out _ hS7).2.cell 1⟩
                    clear hK K
                    try simp only [Act.put, List.setIfInBounds_toArray, List.set_cons_zero, List.set_cons_succ]
                    refine wpAnyH_ready (rs := [16]) (by kernel_rfl) (by simp) ?_
                    refine (AllReadyH.cons (o := ⟨_, _, _, _, _, _⟩) rfl (fun K hK => ?_) AllReadyH.nil)
                    refine st_wp rfl (wp_store_row 33 _ _ rfl (w6_m.heap.size) #[.string H'.1, .string H'.2.1, .int .i64 H'.2.2.1, .int .i64 H'.2.2.2, .slice a' n' c'] rfl rfl 33 _ hZ7 (hi_info H' _) rfl (hi_one H' a' n' c') ?_)
                    have hSB8 := hSB7.setRow (r := w6_m.heap.size) (by omega) #[.string H'.1, .string H'.2.1, .int .i64 H'.2.2.1, .int .i64 H'.2.2.2, .slice a' n' c']
                    have hG8 := hG7.setRow (g := w6_m.heap.size) (.inl (by omega)) #[.string H'.1, .string H'.2.1, .int .i64 H'.2.2.1, .int .i64 H'.2.2.2, .slice a' n' c']
                    have hS8 := hS7.trans (GS.row (g := w6_m.heap.size) hz #[.string H'.1, .string H'.2.1, .int .i64 H'.2.2.1, .int .i64 H'.2.2.2, .slice a' n' c'])
                    have hR8 := Rd.grown hR7 ((G.refl _ (some (w6_m.heap.size))).setRow (.inr rfl) #[.string H'.1, .string H'.2.1, .int .i64 H'.2.2.1, .int .i64 H'.2.2.2, .slice a' n' c']) (fun k e hk => by cases e; exact hne7 _ hk rfl)
                    have hZ8 := hZ7.setRow #[.string H'.1, .string H'.2.1, .int .i64 H'.2.2.1, .int .i64 H'.2.2.2, .slice a' n' c']
                    have hne8 := hne7
                    clear hSB7 hG7
                    refine hK.out _ _ ?_ (fun hHeld => ?_)
                    · exact ⟨(HO.out _ hS8).2.cell 0, (HO.out _ hS8).2.cell 1⟩
                    clear hK K
                    try simp only [Act.put, List.setIfInBounds_toArray, List.set_cons_zero, List.set_cons_succ]
                    refine wpAnyH_take (i := 17) (oi := ⟨_, _, _, _, _, _⟩) (v := ?_) rfl (by kernel_rfl) (by kernel_rfl) (by kernel_rfl) (fun _ _ _ h => h) (Or.inl ⟨by rfl, ?_⟩) (by assumption) ?_
                    rotate_left
                    · (intro w hSw; obtain ⟨s0, s1⟩ := hSw; (go_simp <;> with_reducible rfl))
                    try simp only [Act.put, List.setIfInBounds_toArray, List.set_cons_zero, List.set_cons_succ]
                    refine wpAnyH_done (by kernel_rfl) ?_ _
                    go_wp2_with fail
                    go_meet
                    case rel => exact ⟨_, (key, d, f, f + p), [(v, r, noIn)], _, rfl, rfl, hv_leaf (fun e => e) HHH.out hR8 hZ8 (fun k e => ⟨by have := HB.out k e; omega, hne8 k e, hne8 k e⟩) (by omega) (fun x hx => by obtain rfl := List.mem_singleton.1 hx; exact ⟨HSv.out, HBr.out.2.1, small_nil⟩) HKS.out HSd.out (by unfold bnd; dsimp only; omega) (by unfold bnd; dsimp only; omega), (HO.out _ hS8).1, hSB8.le (by omega), hG8⟩
                  · go_simp
                    have hh := (G.refl w5_r none).alloc (.cells #[.string ⟨#[]⟩, .string ⟨#[]⟩, .int .i64 0, .int .i64 0, .slice none 0 0] 33)
                    have hz : w2.heap.size ≤ w5_r.heap.size := hS5.size
                    have hZZ := Bk.new w5_r 33 #[.string ⟨#[]⟩, .string ⟨#[]⟩, .int .i64 0, .int .i64 0, .slice none 0 0]
                    have hSB6 := hSB5.quiet hh
                    have hG6 := hG5.trans0 hh
                    have hS6 := hS5.trans (GS.of_G hh)
                    clear hh hSB5 hG5 hS5
                    have hZ6 := hZZ
                    generalize w5_r.alloc (.cells #[.string ⟨#[]⟩, .string ⟨#[]⟩, .int .i64 0, .int .i64 0, .slice none 0 0] 33) = w6_x at hSB6 hG6 hS6 hZ6 ⊢
                    refine hK.out _ _ ?_ (fun hHeld => ?_)
                    · exact ⟨(HO.out _ hS6).2.cell 0, (HO.out _ hS6).2.cell 1⟩
                    clear hK K
                    try simp only [Act.put, List.setIfInBounds_toArray, List.set_cons_zero, List.set_cons_succ]
                    refine wpAnyH_ready (rs := [11]) (by kernel_rfl) (by simp) ?_
                    refine (AllReadyH.cons (o := ⟨_, _, _, _, _, _⟩) rfl (fun K hK => ?_) AllReadyH.nil)
                    go_simp
                    refine (startOf_c (key, d, f, f + p) v r _ HSv.out HBr.out.2.1 HKS.out HSd.out (by unfold bnd; dsimp only; omega) (by unfold bnd; dsimp only; omega)).mono ?_
                    rintro e w7_m ⟨H', a', n', c', rfl, hHH, hbb, hR7, hh⟩
                    have HHH := Lib.hid hHH
                    have HB := Lib.hid (fun k e => Nat.le_trans hS6.size (hbb k e))
                    have hne7 : ∀ k, (Value.slice a' n' c').ownBlock = some k → k ≠ w5_r.heap.size := fun k e => by have := hbb k e; have := hZ6.lt; omega
                    clear hHH hbb
                    have hSB7 := hSB6.quiet hh
                    have hG7 := hG6.trans0 hh
                    have hS7 := hS6.trans (GS.of_G hh)
                    have hZ7 := hZ6.quiet hh
                    clear hh hSB6 hG6 hS6 hZ6
                    refine hK.out _ _ ?_ (fun hHeld => ?_)
                    · exact ⟨(HO.out _ hS7).2.cell 0, (HO.out _ hS7).2.cell 1⟩
                    clear hK K
                    try simp only [Act.put, List.setIfInBounds_toArray, List.set_cons_zero, List.set_cons_succ]
                    refine wpAnyH_take (i := 12) (oi := ⟨_, _, _, _, _, _⟩) (v := ?_) rfl (by kernel_rfl) (by kernel_rfl) (by kernel_rfl) (fun _ _ _ h => h) (Or.inl ⟨by rfl, ?_⟩) (by assumption) ?_
                    rotate_left
                    · (intro w hSw; obtain ⟨s0, s1⟩ := hSw; (go_simp <;> with_reducible rfl))
                    try simp only [Act.put, List.setIfInBounds_toArray, List.set_cons_zero, List.set_cons_succ]
                    refine wpAnyH_take (i := 13) (oi := ⟨_, _, _, _, _, _⟩) (v := ?_) rfl (by kernel_rfl) (by kernel_rfl) (by kernel_rfl) (fun _ _ _ h => h) (Or.inl ⟨by rfl, ?_⟩) (by assumption) ?_
                    rotate_left
                    · (intro w hSw; obtain ⟨s0, s1⟩ := hSw; (go_simp <;> with_reducible rfl))
                    try simp only [Act.put, List.setIfInBounds_toArray, List.set_cons_zero, List.set_cons_succ]
                    refine wpAnyH_take (i := 14) (oi := ⟨_, _, _, _, _, _⟩) (v := ?_) rfl (by kernel_rfl) (by kernel_rfl) (by kernel_rfl) (fun _ _ _ h => h) (Or.inl ⟨by rfl, ?_⟩) (by assumption) ?_
                    rotate_left
                    · (intro w hSw; obtain ⟨s0, s1⟩ := hSw; (go_simp <;> with_reducible rfl))
                    try simp only [Act.put, List.setIfInBounds_toArray, List.set_cons_zero, List.set_cons_succ]
                    refine wpAnyH_ready (rs := [16]) (by kernel_rfl) (by simp) ?_
                    refine (AllReadyH.cons (o := ⟨_, _, _, _, _, _⟩) rfl (fun K hK => ?_) AllReadyH.nil)
                    refine st_wp rfl (wp_store_row 33 _ _ rfl (w5_r.heap.size) #[.string H'.1, .string H'.2.1, .int .i64 H'.2.2.1, .int .i64 H'.2.2.2, .slice a' n' c'] rfl rfl 33 _ hZ7 (hi_info H' _) rfl (hi_one H' a' n' c') ?_)
                    have hSB8 := hSB7.setRow (r := w5_r.heap.size) (by omega) #[.string H'.1, .string H'.2.1, .int .i64 H'.2.2.1, .int .i64 H'.2.2.2, .slice a' n' c']
                    have hG8 := hG7.setRow (g := w5_r.heap.size) (.inl (by omega)) #[.string H'.1, .string H'.2.1, .int .i64 H'.2.2.1, .int .i64 H'.2.2.2, .slice a' n' c']
                    have hS8 := hS7.trans (GS.row (g := w5_r.heap.size) hz #[.string H'.1, .string H'.2.1, .int .i64 H'.2.2.1, .int .i64 H'.2.2.2, .slice a' n' c'])
                    have hR8 := Rd.grown hR7 ((G.refl _ (some (w5_r.heap.size))).setRow (.inr rfl) #[.string H'.1, .string H'.2.1, .int .i64 H'.2.2.1, .int .i64 H'.2.2.2, .slice a' n' c']) (fun k e hk => by cases e; exact hne7 _ hk rfl)
                    have hZ8 := hZ7.setRow #[.string H'.1, .string H'.2.1, .int .i64 H'.2.2.1, .int .i64 H'.2.2.2, .slice a' n' c']
                    have hne8 := hne7
                    clear hSB7 hG7
                    refine hK.out _ _ ?_ (fun hHeld => ?_)
                    · exact ⟨(HO.out _ hS8).2.cell 0, (HO.out _ hS8).2.cell 1⟩
                    clear hK K
                    try simp only [Act.put, List.setIfInBounds_toArray, List.set_cons_zero, List.set_cons_succ]
                    refine wpAnyH_take (i := 17) (oi := ⟨_, _, _, _, _, _⟩) (v := ?_) rfl (by kernel_rfl) (by kernel_rfl) (by kernel_rfl) (fun _ _ _ h => h) (Or.inl ⟨by rfl, ?_⟩) (by assumption) ?_
                    rotate_left
                    · (intro w hSw; obtain ⟨s0, s1⟩ := hSw; (go_simp <;> with_reducible rfl))
                    try simp only [Act.put, List.setIfInBounds_toArray, List.set_cons_zero, List.set_cons_succ]
                    refine wpAnyH_done (by kernel_rfl) ?_ _
                    go_wp2_with fail
                    go_meet
                    case rel => exact ⟨_, (key, d, f, f + p), [(v, r, noIn)], _, rfl, rfl, hv_leaf (fun e => e) HHH.out hR8 hZ8 (fun k e => ⟨by have := HB.out k e; omega, hne8 k e, hne8 k e⟩) (by omega) (fun x hx => by obtain rfl := List.mem_singleton.1 hx; exact ⟨HSv.out, HBr.out.2.1, small_nil⟩) HKS.out HSd.out (by unfold bnd; dsimp only; omega) (by unfold bnd; dsimp only; omega), (HO.out _ hS8).1, hSB8.le (by omega), hG8⟩
                · go_simp
                  have hh := (G.refl w4_v none).alloc (.cells #[.string ⟨#[]⟩, .string ⟨#[]⟩, .int .i64 0, .int .i64 0, .slice none 0 0] 33)
                  have hz : w2.heap.size ≤ w4_v.heap.size := hS4.size
                  have hZZ := Bk.new w4_v 33 #[.string ⟨#[]⟩, .string ⟨#[]⟩, .int .i64 0, .int .i64 0, .slice none 0 0]
                  have hSB5 := hSB4.quiet hh
                  have hG5 := hG4.trans0 hh
                  have hS5 := hS4.trans (GS.of_G hh)
                  clear hh hSB4 hG4 hS4
                  have hZ5 := hZZ
                  generalize w4_v.alloc (.cells #[.string ⟨#[]⟩, .string ⟨#[]⟩, .int .i64 0, .int .i64 0, .slice none 0 0] 33) = w5_x at hSB5 hG5 hS5 hZ5 ⊢
                  refine hK.out _ _ ?_ (fun hHeld => ?_)
                  · exact ⟨(HO.out _ hS5).2.cell 0, (HO.out _ hS5).2.cell 1⟩
                  clear hK K
                  try simp only [Act.put, List.setIfInBounds_toArray, List.set_cons_zero, List.set_cons_succ]
                  refine wpAnyH_ready (rs := [10]) (by kernel_rfl) (by simp) ?_
                  refine (AllReadyH.cons (o := ⟨_, _, _, _, _, _⟩) rfl (fun K hK => ?_) AllReadyH.nil)
                  go_simp
                  refine (reading_c f _ s _ (by unfold bnd; omega) hSB5 (by omega)).mono ?_
                  rintro e w6_r ⟨r, rfl, hr, hSB6, hh⟩
                  have HBr := Lib.hid hr
                  clear hr
                  have hG6 := hG5.trans hh
                  have hS6 := hS5.trans (GS.stream hh)
                  have hZ6 := hZ5.grown hh (fun e => by have := Option.some.inj e; omega)
                  clear hh hSB5 hG5 hS5 hZ5
                  refine hK.out _ _ ?_ (fun hHeld => ?_)
                  · exact ⟨(HO.out _ hS6).2.cell 0, (HO.out _ hS6).2.cell 1⟩
                  clear hK K
                  try simp only [Act.put, List.setIfInBounds_toArray, List.set_cons_zero, List.set_cons_succ]
                  refine wpAnyH_ready (rs := [11]) (by kernel_rfl) (by simp) ?_
                  refine (AllReadyH.cons (o := ⟨_, _, _, _, _, _⟩) rfl (fun K hK => ?_) AllReadyH.nil)
                  go_simp
                  refine (startOf_c (key, d, f, f + p) v r _ HSv.out HBr.out.2.1 HKS.out HSd.out (by unfold bnd; dsimp only; omega) (by unfold bnd; dsimp only; omega)).mono ?_
                  rintro e w7_m ⟨H', a', n', c', rfl, hHH, hbb, hR7, hh⟩
                  have HHH := Lib.hid hHH
                  have HB := Lib.hid (fun k e => Nat.le_trans hS6.size (hbb k e))
                  have hne7 : ∀ k, (Value.slice a' n' c').ownBlock = some k → k ≠ w4_v.heap.size := fun k e => by have := hbb k e; have := hZ6.lt; omega
                  clear hHH hbb
                  have hSB7 := hSB6.quiet hh
                  have hG7 := hG6.trans0 hh
                  have hS7 := hS6.trans (GS.of_G hh)
                  have hZ7 := hZ6.quiet hh
                  clear hh hSB6 hG6 hS6 hZ6
                  refine hK.out _ _ ?_ (fun hHeld => ?_)
                  · exact ⟨(HO.out _ hS7).2.cell 0, (HO.out _ hS7).2.cell 1⟩
                  clear hK K
                  try simp only [Act.put, List.setIfInBounds_toArray, List.set_cons_zero, List.set_cons_succ]
                  refine wpAnyH_take (i := 12) (oi := ⟨_, _, _, _, _, _⟩) (v := ?_) rfl (by kernel_rfl) (by kernel_rfl) (by kernel_rfl) (fun _ _ _ h => h) (Or.inl ⟨by rfl, ?_⟩) (by assumption) ?_
                  rotate_left
                  · (intro w hSw; obtain ⟨s0, s1⟩ := hSw; (go_simp <;> with_reducible rfl))
                  try simp only [Act.put, List.setIfInBounds_toArray, List.set_cons_zero, List.set_cons_succ]
                  refine wpAnyH_take (i := 13) (oi := ⟨_, _, _, _, _, _⟩) (v := ?_) rfl (by kernel_rfl) (by kernel_rfl) (by kernel_rfl) (fun _ _ _ h => h) (Or.inl ⟨by rfl, ?_⟩) (by assumption) ?_
                  rotate_left
                  · (intro w hSw; obtain ⟨s0, s1⟩ := hSw; (go_simp <;> with_reducible rfl))
                  try simp only [Act.put, List.setIfInBounds_toArray, List.set_cons_zero, List.set_cons_succ]
                  refine wpAnyH_take (i := 14) (oi := ⟨_, _, _, _, _, _⟩) (v := ?_) rfl (by kernel_rfl) (by kernel_rfl) (by kernel_rfl) (fun _ _ _ h => h) (Or.inl ⟨by rfl, ?_⟩) (by assumption) ?_
                  rotate_left
                  · (intro w hSw; obtain ⟨s0, s1⟩ := hSw; (go_simp <;> with_reducible rfl))
                  try simp only [Act.put, List.setIfInBounds_toArray, List.set_cons_zero, List.set_cons_succ]
                  refine wpAnyH_ready (rs := [16]) (by kernel_rfl) (by simp) ?_
                  refine (AllReadyH.cons (o := ⟨_, _, _, _, _, _⟩) rfl (fun K hK => ?_) AllReadyH.nil)
                  refine st_wp rfl (wp_store_row 33 _ _ rfl (w4_v.heap.size) #[.string H'.1, .string H'.2.1, .int .i64 H'.2.2.1, .int .i64 H'.2.2.2, .slice a' n' c'] rfl rfl 33 _ hZ7 (hi_info H' _) rfl (hi_one H' a' n' c') ?_)
                  have hSB8 := hSB7.setRow (r := w4_v.heap.size) (by omega) #[.string H'.1, .string H'.2.1, .int .i64 H'.2.2.1, .int .i64 H'.2.2.2, .slice a' n' c']
                  have hG8 := hG7.setRow (g := w4_v.heap.size) (.inl (by omega)) #[.string H'.1, .string H'.2.1, .int .i64 H'.2.2.1, .int .i64 H'.2.2.2, .slice a' n' c']
                  have hS8 := hS7.trans (GS.row (g := w4_v.heap.size) hz #[.string H'.1, .string H'.2.1, .int .i64 H'.2.2.1, .int .i64 H'.2.2.2, .slice a' n' c'])
                  have hR8 := Rd.grown hR7 ((G.refl _ (some (w4_v.heap.size))).setRow (.inr rfl) #[.string H'.1, .string H'.2.1, .int .i64 H'.2.2.1, .int .i64 H'.2.2.2, .slice a' n' c']) (fun k e hk => by cases e; exact hne7 _ hk rfl)
                  have hZ8 := hZ7.setRow #[.string H'.1, .string H'.2.1, .int .i64 H'.2.2.1, .int .i64 H'.2.2.2, .slice a' n' c']
                  have hne8 := hne7
                  clear hSB7 hG7
                  refine hK.out _ _ ?_ (fun hHeld => ?_)
                  · exact ⟨(HO.out _ hS8).2.cell 0, (HO.out _ hS8).2.cell 1⟩
                  clear hK K
                  try simp only [Act.put, List.setIfInBounds_toArray, List.set_cons_zero, List.set_cons_succ]
                  refine wpAnyH_take (i := 17) (oi := ⟨_, _, _, _, _, _⟩) (v := ?_) rfl (by kernel_rfl) (by kernel_rfl) (by kernel_rfl) (fun _ _ _ h => h) (Or.inl ⟨by rfl, ?_⟩) (by assumption) ?_
                  rotate_left
                  · (intro w hSw; obtain ⟨s0, s1⟩ := hSw; (go_simp <;> with_reducible rfl))
                  try simp only [Act.put, List.setIfInBounds_toArray, List.set_cons_zero, List.set_cons_succ]
                  refine wpAnyH_done (by kernel_rfl) ?_ _
                  go_wp2_with fail
                  go_meet
                  case rel => exact ⟨_, (key, d, f, f + p), [(v, r, noIn)], _, rfl, rfl, hv_leaf (fun e => e) HHH.out hR8 hZ8 (fun k e => ⟨by have := HB.out k e; omega, hne8 k e, hne8 k e⟩) (by omega) (fun x hx => by obtain rfl := List.mem_singleton.1 hx; exact ⟨HSv.out, HBr.out.2.1, small_nil⟩) HKS.out HSd.out (by unfold bnd; dsimp only; omega) (by unfold bnd; dsimp only; omega), (HO.out _ hS8).1, hSB8.le (by omega), hG8⟩
              · go_simp
                have hh := (G.refl w3_d none).alloc (.cells #[.string ⟨#[]⟩, .string ⟨#[]⟩, .int .i64 0, .int .i64 0, .slice none 0 0] 33)
                have hz : w2.heap.size ≤ w3_d.heap.size := hS3.size
                have hZZ := Bk.new w3_d 33 #[.string ⟨#[]⟩, .string ⟨#[]⟩, .int .i64 0, .int .i64 0, .slice none 0 0]
                have hSB4 := hSB3.quiet hh
                have hG4 := hG3.trans0 hh
                have hS4 := hS3.trans (GS.of_G hh)
                have hKB_4 := hKB_3.quiet hh
                clear hh hSB3 hG3 hS3 hKB_3
                have hZ4 := hZZ
                generalize w3_d.alloc (.cells #[.string ⟨#[]⟩, .string ⟨#[]⟩, .int .i64 0, .int .i64 0, .slice none 0 0] 33) = w4_x at hSB4 hG4 hS4 hZ4 hKB_4 ⊢
                refine hK.out _ _ ?_ (fun hHeld => ?_)
                · exact ⟨(HO.out _ hS4).2.cell 0, (HO.out _ hS4).2.cell 1⟩
                clear hK K
                try simp only [Act.put, List.setIfInBounds_toArray, List.set_cons_zero, List.set_cons_succ]
                refine wpAnyH_ready (rs := [7]) (by kernel_rfl) (by simp) ?_
                refine (AllReadyH.cons (o := ⟨_, _, _, _, _, _⟩) rfl (fun K hK => ?_) AllReadyH.nil)
                go_simp
                refine (some_c _ _ _ [⟨#[118, 49]⟩, ⟨#[118, 49]⟩, ⟨#[118, 50]⟩, ⟨#[118, 51]⟩] _ _ _ hSB4 (by omega) (by decide) (by decide) hKB_4.now (hSB4.ne hglB)).mono ?_
                rintro e w5_v ⟨v, rfl, hp, hSB5, hh⟩
                have HSv := Lib.hid (small_pick hp (by decide))
                clear hp hKB_4
                have hG5 := hG4.trans hh
                have hS5 := hS4.trans (GS.stream hh)
                have hZ5 := hZ4.grown hh (fun e => by have := Option.some.inj e; omega)
                clear hh hSB4 hG4 hS4 hZ4
                refine hK.out _ _ ?_ (fun hHeld => ?_)
                · exact ⟨(HO.out _ hS5).2.cell 0, (HO.out _ hS5).2.cell 1⟩
                clear hK K
                try simp only [Act.put, List.setIfInBounds_toArray, List.set_cons_zero, List.set_cons_succ]
                refine wpAnyH_ready (rs := [10]) (by kernel_rfl) (by simp) ?_
                refine (AllReadyH.cons (o := ⟨_, _, _, _, _, _⟩) rfl (fun K hK => ?_) AllReadyH.nil)
                go_simp
                refine (reading_c f _ s _ (by unfold bnd; omega) hSB5 (by omega)).mono ?_
                rintro e w6_r ⟨r, rfl, hr, hSB6, hh⟩
                have HBr := Lib.hid hr
                clear hr
                have hG6 := hG5.trans hh
                have hS6 := hS5.trans (GS.stream hh)
                have hZ6 := hZ5.grown hh (fun e => by have := Option.some.inj e; omega)
                clear hh hSB5 hG5 hS5 hZ5
                refine hK.out _ _ ?_ (fun hHeld => ?_)
                · exact ⟨(HO.out _ hS6).2.cell 0, (HO.out _ hS6).2.cell 1⟩
                clear hK K
                try simp only [Act.put, List.setIfInBounds_toArray, List.set_cons_zero, List.set_cons_succ]
                refine wpAnyH_ready (rs := [11]) (by kernel_rfl) (by simp) ?_
                refine (AllReadyH.cons (o := ⟨_, _, _, _, _, _⟩) rfl (fun K hK => ?_) AllReadyH.nil)
                go_simp
                refine (startOf_c (key, d, f, f + p) v r _ HSv.out HBr.out.2.1 HKS.out HSd.out (by unfold bnd; dsimp only; omega) (by unfold bnd; dsimp only; omega)).mono ?_
                rintro e w7_m ⟨H', a', n', c', rfl, hHH, hbb, hR7, hh⟩
                have HHH := Lib.hid hHH
                have HB := Lib.hid (fun k e => Nat.le_trans hS6.size (hbb k e))
                have hne7 : ∀ k, (Value.slice a' n' c').ownBlock = some k → k ≠ w3_d.heap.size := fun k e => by have := hbb k e; have := hZ6.lt; omega
                clear hHH hbb
                have hSB7 := hSB6.quiet hh
                have hG7 := hG6.trans0 hh
                have hS7 := hS6.trans (GS.of_G hh)
                have hZ7 := hZ6.quiet hh
                clear hh hSB6 hG6 hS6 hZ6
                refine hK.out _ _ ?_ (fun hHeld => ?_)
                · exact ⟨(HO.out _ hS7).2.cell 0, (HO.out _ hS7).2.cell 1⟩
                clear hK K
                try simp only [Act.put, List.setIfInBounds_toArray, List.set_cons_zero, List.set_cons_succ]
                refine wpAnyH_take (i := 12) (oi := ⟨_, _, _, _, _, _⟩) (v := ?_) rfl (by kernel_rfl) (by kernel_rfl) (by kernel_rfl) (fun _ _ _ h => h) (Or.inl ⟨by rfl, ?_⟩) (by assumption) ?_
                rotate_left
                · (intro w hSw; obtain ⟨s0, s1⟩ := hSw; (go_simp <;> with_reducible rfl))
                try simp only [Act.put, List.setIfInBounds_toArray, List.set_cons_zero, List.set_cons_succ]
                refine wpAnyH_take (i := 13) (oi := ⟨_, _, _, _, _, _⟩) (v := ?_) rfl (by kernel_rfl) (by kernel_rfl) (by kernel_rfl) (fun _ _ _ h => h) (Or.inl ⟨by rfl, ?_⟩) (by assumption) ?_
                rotate_left
                · (intro w hSw; obtain ⟨s0, s1⟩ := hSw; (go_simp <;> with_reducible rfl))
                try simp only [Act.put, List.setIfInBounds_toArray, List.set_cons_zero, List.set_cons_succ]
                refine wpAnyH_take (i := 14) (oi := ⟨_, _, _, _, _, _⟩) (v := ?_) rfl (by kernel_rfl) (by kernel_rfl) (by kernel_rfl) (fun _ _ _ h => h) (Or.inl ⟨by rfl, ?_⟩) (by assumption) ?_
                rotate_left
                · (intro w hSw; obtain ⟨s0, s1⟩ := hSw; (go_simp <;> with_reducible rfl))
                try simp only [Act.put, List.setIfInBounds_toArray, List.set_cons_zero, List.set_cons_succ]
                refine wpAnyH_ready (rs := [16]) (by kernel_rfl) (by simp) ?_
                refine (AllReadyH.cons (o := ⟨_, _, _, _, _, _⟩) rfl (fun K hK => ?_) AllReadyH.nil)
                refine st_wp rfl (wp_store_row 33 _ _ rfl (w3_d.heap.size) #[.string H'.1, .string H'.2.1, .int .i64 H'.2.2.1, .int .i64 H'.2.2.2, .slice a' n' c'] rfl rfl 33 _ hZ7 (hi_info H' _) rfl (hi_one H' a' n' c') ?_)
                have hSB8 := hSB7.setRow (r := w3_d.heap.size) (by omega) #[.string H'.1, .string H'.2.1, .int .i64 H'.2.2.1, .int .i64 H'.2.2.2, .slice a' n' c']
                have hG8 := hG7.setRow (g := w3_d.heap.size) (.inl (by omega)) #[.string H'.1, .string H'.2.1, .int .i64 H'.2.2.1, .int .i64 H'.2.2.2, .slice a' n' c']
                have hS8 := hS7.trans (GS.row (g := w3_d.heap.size) hz #[.string H'.1, .string H'.2.1, .int .i64 H'.2.2.1, .int .i64 H'.2.2.2, .slice a' n' c'])
                have hR8 := Rd.grown hR7 ((G.refl _ (some (w3_d.heap.size))).setRow (.inr rfl) #[.string H'.1, .string H'.2.1, .int .i64 H'.2.2.1, .int .i64 H'.2.2.2, .slice a' n' c']) (fun k e hk => by cases e; exact hne7 _ hk rfl)
                have hZ8 := hZ7.setRow #[.string H'.1, .string H'.2.1, .int .i64 H'.2.2.1, .int .i64 H'.2.2.2, .slice a' n' c']
                have hne8 := hne7
                clear hSB7 hG7
                refine hK.out _ _ ?_ (fun hHeld => ?_)
                · exact ⟨(HO.out _ hS8).2.cell 0, (HO.out _ hS8).2.cell 1⟩
                clear hK K
                try simp only [Act.put, List.setIfInBounds_toArray, List.set_cons_zero, List.set_cons_succ]
                refine wpAnyH_take (i := 17) (oi := ⟨_, _, _, _, _, _⟩) (v := ?_) rfl (by kernel_rfl) (by kernel_rfl) (by kernel_rfl) (fun _ _ _ h => h) (Or.inl ⟨by rfl, ?_⟩) (by assumption) ?_
                rotate_left
                · (intro w hSw; obtain ⟨s0, s1⟩ := hSw; (go_simp <;> with_reducible rfl))
                try simp only [Act.put, List.setIfInBounds_toArray, List.set_cons_zero, List.set_cons_succ]
                refine wpAnyH_done (by kernel_rfl) ?_ _
                go_wp2_with fail
                go_meet
                case rel => exact ⟨_, (key, d, f, f + p), [(v, r, noIn)], _, rfl, rfl, hv_leaf (fun e => e) HHH.out hR8 hZ8 (fun k e => ⟨by have := HB.out k e; omega, hne8 k e, hne8 k e⟩) (by omega) (fun x hx => by obtain rfl := List.mem_singleton.1 hx; exact ⟨HSv.out, HBr.out.2.1, small_nil⟩) HKS.out HSd.out (by unfold bnd; dsimp only; omega) (by unfold bnd; dsimp only; omega), (HO.out _ hS8).1, hSB8.le (by omega), hG8⟩
            · go_simp
              have hh := (G.refl w2_x none).alloc (.cells #[.string ⟨#[]⟩, .string ⟨#[]⟩, .int .i64 0, .int .i64 0, .slice none 0 0] 33)
              have hz : w2.heap.size ≤ w2_x.heap.size := hS2.size
              have hZZ := Bk.new w2_x 33 #[.string ⟨#[]⟩, .string ⟨#[]⟩, .int .i64 0, .int .i64 0, .slice none 0 0]
              have hSB3 := hSB2.quiet hh
              have hG3 := hG2.trans0 hh
              have hS3 := hS2.trans (GS.of_G hh)
              have hKA_3 := hKA_2.quiet hh
              have hKB_3 := hKB_2.quiet hh
              clear hh hSB2 hG2 hS2 hKA_2 hKB_2
              have hZ3 := hZZ
              generalize w2_x.alloc (.cells #[.string ⟨#[]⟩, .string ⟨#[]⟩, .int .i64 0, .int .i64 0, .slice none 0 0] 33) = w3_x at hSB3 hG3 hS3 hZ3 hKA_3 hKB_3 ⊢
              refine hK.out _ _ ?_ (fun hHeld => ?_)
              · exact ⟨(HO.out _ hS3).2.cell 0, (HO.out _ hS3).2.cell 1⟩
              clear hK K
              try simp only [Act.put, List.setIfInBounds_toArray, List.set_cons_zero, List.set_cons_succ]
              refine wpAnyH_ready (rs := [3]) (by kernel_rfl) (by simp) ?_
              refine (AllReadyH.cons (o := ⟨_, _, _, _, _, _⟩) rfl (fun K hK => ?_) AllReadyH.nil)
              go_simp
              refine (some_c _ _ _ [⟨#[97, 110, 110]⟩, ⟨#[97, 110, 110]⟩, ⟨#[98, 111, 98]⟩, ⟨#[99, 105, 100]⟩] _ _ _ hSB3 (by omega) (by decide) (by decide) hKA_3.now (hSB3.ne hglA)).mono ?_
              rintro e w4_d ⟨d, rfl, hp, hSB4, hh⟩
              have HSd := Lib.hid (small_pick hp (by decide))
              clear hp hKA_3
              have hG4 := hG3.trans hh
              have hS4 := hS3.trans (GS.stream hh)
              have hZ4 := hZ3.grown hh (fun e => by have := Option.some.inj e; omega)
              have hKB_4 := hKB_3.step hh
              clear hh hSB3 hG3 hS3 hZ3 hKB_3
              refine hK.out _ _ ?_ (fun hHeld => ?_)
              · exact ⟨(HO.out _ hS4).2.cell 0, (HO.out _ hS4).2.cell 1⟩
              clear hK K
              try simp only [Act.put, List.setIfInBounds_toArray, List.set_cons_zero, List.set_cons_succ]
              refine wpAnyH_ready (rs := [7]) (by kernel_rfl) (by simp) ?_
              refine (AllReadyH.cons (o := ⟨_, _, _, _, _, _⟩) rfl (fun K hK => ?_) AllReadyH.nil)
              go_simp
              refine (some_c _ _ _ [⟨#[118, 49]⟩, ⟨#[118, 49]⟩, ⟨#[118, 50]⟩, ⟨#[118, 51]⟩] _ _ _ hSB4 (by omega) (by decide) (by decide) hKB_4.now (hSB4.ne hglB)).mono ?_
              rintro e w5_v ⟨v, rfl, hp, hSB5, hh⟩
              have HSv := Lib.hid (small_pick hp (by decide))
              clear hp hKB_4
              have hG5 := hG4.trans hh
              have hS5 := hS4.trans (GS.stream hh)
              have hZ5 := hZ4.grown hh (fun e => by have := Option.some.inj e; omega)
              clear hh hSB4 hG4 hS4 hZ4
              refine hK.out _ _ ?_ (fun hHeld => ?_)
              · exact ⟨(HO.out _ hS5).2.cell 0, (HO.out _ hS5).2.cell 1⟩
              clear hK K
              try simp only [Act.put, List.setIfInBounds_toArray, List.set_cons_zero, List.set_cons_succ]
              refine wpAnyH_ready (rs := [10]) (by kernel_rfl) (by simp) ?_
              refine (AllReadyH.cons (o := ⟨_, _, _, _, _, _⟩) rfl (fun K hK => ?_) AllReadyH.nil)
              go_simp
              refine (reading_c f _ s _ (by unfold bnd; omega) hSB5 (by omega)).mono ?_
              rintro e w6_r ⟨r, rfl, hr, hSB6, hh⟩
              have HBr := Lib.hid hr
              clear hr
              have hG6 := hG5.trans hh
              have hS6 := hS5.trans (GS.stream hh)
              have hZ6 := hZ5.grown hh (fun e => by have := Option.some.inj e; omega)
              clear hh hSB5 hG5 hS5 hZ5
              refine hK.out _ _ ?_ (fun hHeld => ?_)
              · exact ⟨(HO.out _ hS6).2.cell 0, (HO.out _ hS6).2.cell 1⟩
              clear hK K
              try simp only [Act.put, List.setIfInBounds_toArray, List.set_cons_zero, List.set_cons_succ]
              refine wpAnyH_ready (rs := [11]) (by kernel_rfl) (by simp) ?_
              refine (AllReadyH.cons (o := ⟨_, _, _, _, _, _⟩) rfl (fun K hK => ?_) AllReadyH.nil)
              go_simp
              refine (startOf_c (key, d, f, f + p) v r _ HSv.out HBr.out.2.1 HKS.out HSd.out (by unfold bnd; dsimp only; omega) (by unfold bnd; dsimp only; omega)).mono ?_
              rintro e w7_m ⟨H', a', n', c', rfl, hHH, hbb, hR7, hh⟩
              have HHH := Lib.hid hHH
              have HB := Lib.hid (fun k e => Nat.le_trans hS6.size (hbb k e))
              have hne7 : ∀ k, (Value.slice a' n' c').ownBlock = some k → k ≠ w2_x.heap.size := fun k e => by have := hbb k e; have := hZ6.lt; omega
              clear hHH hbb
              have hSB7 := hSB6.quiet hh
              have hG7 := hG6.trans0 hh
              have hS7 := hS6.trans (GS.of_G hh)
              have hZ7 := hZ6.quiet hh
              clear hh hSB6 hG6 hS6 hZ6
              refine hK.out _ _ ?_ (fun hHeld => ?_)
              · exact ⟨(HO.out _ hS7).2.cell 0, (HO.out _ hS7).2.cell 1⟩
              clear hK K
              try simp only [Act.put, List.setIfInBounds_toArray, List.set_cons_zero, List.set_cons_succ]
              refine wpAnyH_take (i := 12) (oi := ⟨_, _, _, _, _, _⟩) (v := ?_) rfl (by kernel_rfl) (by kernel_rfl) (by kernel_rfl) (fun _ _ _ h => h) (Or.inl ⟨by rfl, ?_⟩) (by assumption) ?_
              rotate_left
              · (intro w hSw; obtain ⟨s0, s1⟩ := hSw; (go_simp <;> with_reducible rfl))
              try simp only [Act.put, List.setIfInBounds_toArray, List.set_cons_zero, List.set_cons_succ]
              refine wpAnyH_take (i := 13) (oi := ⟨_, _, _, _, _, _⟩) (v := ?_) rfl (by kernel_rfl) (by kernel_rfl) (by kernel_rfl) (fun _ _ _ h => h) (Or.inl ⟨by rfl, ?_⟩) (by assumption) ?_
              rotate_left
              · (intro w hSw; obtain ⟨s0, s1⟩ := hSw; (go_simp <;> with_reducible rfl))
              try simp only [Act.put, List.setIfInBounds_toArray, List.set_cons_zero, List.set_cons_succ]
              refine wpAnyH_take (i := 14) (oi := ⟨_, _, _, _, _, _⟩) (v := ?_) rfl (by kernel_rfl) (by kernel_rfl) (by kernel_rfl) (fun _ _ _ h => h) (Or.inl ⟨by rfl, ?_⟩) (by assumption) ?_
              rotate_left
              · (intro w hSw; obtain ⟨s0, s1⟩ := hSw; (go_simp <;> with_reducible rfl))
              try simp only [Act.put, List.setIfInBounds_toArray, List.set_cons_zero, List.set_cons_succ]
              refine wpAnyH_ready (rs := [16]) (by kernel_rfl) (by simp) ?_
              refine (AllReadyH.cons (o := ⟨_, _, _, _, _, _⟩) rfl (fun K hK => ?_) AllReadyH.nil)
              refine st_wp rfl (wp_store_row 33 _ _ rfl (w2_x.heap.size) #[.string H'.1, .string H'.2.1, .int .i64 H'.2.2.1, .int .i64 H'.2.2.2, .slice a' n' c'] rfl rfl 33 _ hZ7 (hi_info H' _) rfl (hi_one H' a' n' c') ?_)
              have hSB8 := hSB7.setRow (r := w2_x.heap.size) (by omega) #[.string H'.1, .string H'.2.1, .int .i64 H'.2.2.1, .int .i64 H'.2.2.2, .slice a' n' c']
              have hG8 := hG7.setRow (g := w2_x.heap.size) (.inl (by omega)) #[.string H'.1, .string H'.2.1, .int .i64 H'.2.2.1, .int .i64 H'.2.2.2, .slice a' n' c']
              have hS8 := hS7.trans (GS.row (g := w2_x.heap.size) hz #[.string H'.1, .string H'.2.1, .int .i64 H'.2.2.1, .int .i64 H'.2.2.2, .slice a' n' c'])
              have hR8 := Rd.grown hR7 ((G.refl _ (some (w2_x.heap.size))).setRow (.inr rfl) #[.string H'.1, .string H'.2.1, .int .i64 H'.2.2.1, .int .i64 H'.2.2.2, .slice a' n' c']) (fun k e hk => by cases e; exact hne7 _ hk rfl)
              have hZ8 := hZ7.setRow #[.string H'.1, .string H'.2.1, .int .i64 H'.2.2.1, .int .i64 H'.2.2.2, .slice a' n' c']
              have hne8 := hne7
              clear hSB7 hG7
              refine hK.out _ _ ?_ (fun hHeld => ?_)
              · exact ⟨(HO.out _ hS8).2.cell 0, (HO.out _ hS8).2.cell 1⟩
              clear hK K
              try simp only [Act.put, List.setIfInBounds_toArray, List.set_cons_zero, List.set_cons_succ]
              refine wpAnyH_take (i := 17) (oi := ⟨_, _, _, _, _, _⟩) (v := ?_) rfl (by kernel_rfl) (by kernel_rfl) (by kernel_rfl) (fun _ _ _ h => h) (Or.inl ⟨by rfl, ?_⟩) (by assumption) ?_
              rotate_left
              · (intro w hSw; obtain ⟨s0, s1⟩ := hSw; (go_simp <;> with_reducible rfl))
              try simp only [Act.put, List.setIfInBounds_toArray, List.set_cons_zero, List.set_cons_succ]
              refine wpAnyH_done (by kernel_rfl) ?_ _
              go_wp2_with fail
              go_meet
              case rel => exact ⟨_, (key, d, f, f + p), [(v, r, noIn)], _, rfl, rfl, hv_leaf (fun e => e) HHH.out hR8 hZ8 (fun k e => ⟨by have := HB.out k e; omega, hne8 k e, hne8 k e⟩) (by omega) (fun x hx => by obtain rfl := List.mem_singleton.1 hx; exact ⟨HSv.out, HBr.out.2.1, small_nil⟩) HKS.out HSd.out (by unfold bnd; dsimp only; omega) (by unfold bnd; dsimp only; omega), (HO.out _ hS8).1, hSB8.le (by omega), hG8⟩
          · go_simp
            have hh := (G.refl w1_x none).alloc (.cells #[.string ⟨#[]⟩, .string ⟨#[]⟩, .int .i64 0, .int .i64 0, .slice none 0 0] 33)
            have hz : w2.heap.size ≤ w1_x.heap.size := hS1.size
            have hZZ := Bk.new w1_x 33 #[.string ⟨#[]⟩, .string ⟨#[]⟩, .int .i64 0, .int .i64 0, .slice none 0 0]
            have hSB2 := hSB1.quiet hh
            have hG2 := hG1.trans0 hh
            have hS2 := hS1.trans (GS.of_G hh)
            have hKA_2 := hKA_1.quiet hh
            clear hh hSB1 hG1 hS1 hKA_1
            have hZ2 := hZZ
            generalize w1_x.alloc (.cells #[.string ⟨#[]⟩, .string ⟨#[]⟩, .int .i64 0, .int .i64 0, .slice none 0 0] 33) = w2_x at hSB2 hG2 hS2 hZ2 hKA_2 ⊢
            refine hK.out _ _ ?_ (fun hHeld => ?_)
            · exact ⟨(HO.out _ hS2).2.cell 0, (HO.out _ hS2).2.cell 1⟩
            clear hK K
            try simp only [Act.put, List.setIfInBounds_toArray, List.set_cons_zero, List.set_cons_succ]
            refine wpAnyH_ready (rs := [3, 6]) (by kernel_rfl) (by simp) ?_
            refine (AllReadyH.cons (o := ⟨_, _, _, _, _, _⟩) rfl (fun K hK => ?_) (AllReadyH.cons (o := ⟨_, _, _, _, _, _⟩) rfl (fun K hK => ?_) AllReadyH.nil))
            · go_simp
              refine (some_c _ _ _ [⟨#[97, 110, 110]⟩, ⟨#[97, 110, 110]⟩, ⟨#[98, 111, 98]⟩, ⟨#[99, 105, 100]⟩] _ _ _ hSB2 (by omega) (by decide) (by decide) hKA_2.now (hSB2.ne hglA)).mono ?_
              rintro e w3_d ⟨d, rfl, hp, hSB3, hh⟩
              have HSd := Lib.hid (small_pick hp (by decide))
              clear hp hKA_2
              have hG3 := hG2.trans hh
              have hS3 := hS2.trans (GS.stream hh)
              have hZ3 := hZ2.grown hh (fun e => by have := Option.some.inj e; omega)
              clear hh hSB2 hG2 hS2 hZ2
              refine hK.out _ _ ?_ (fun hHeld => ?_)
              · exact ⟨(HO.out _ hS3).2.cell 0, (HO.out _ hS3).2.cell 1⟩
              clear hK K
              try simp only [Act.put, List.setIfInBounds_toArray, List.set_cons_zero, List.set_cons_succ]
              refine wpAnyH_ready (rs := [6]) (by kernel_rfl) (by simp) ?_
              refine (AllReadyH.cons (o := ⟨_, _, _, _, _, _⟩) rfl (fun K hK => ?_) AllReadyH.nil)
              go_simp
              have hh := (G.refl w3_d none).alloc (.cells #[.string ⟨#[118, 49]⟩, .string ⟨#[118, 49]⟩, .string ⟨#[118, 50]⟩, .string ⟨#[118, 51]⟩] 9)
              have hN := Kp.made (s := s) (w := w3_d) 4 9 #[.string ⟨#[118, 49]⟩, .string ⟨#[118, 49]⟩, .string ⟨#[118, 50]⟩, .string ⟨#[118, 51]⟩] rfl (by decide) hSB3.lt
              have hglB := hSB3.lt
              have hSB4 := hSB3.quiet hh
              have hG4 := hG3.trans0 hh
              have hS4 := hS3.trans (GS.of_G hh)
              have hZ4 := hZ3.quiet hh
              clear hh hSB3 hG3 hS3 hZ3
              have hKB_4 := hN
              clear hN
              generalize w3_d.alloc (.cells #[.string ⟨#[118, 49]⟩, .string ⟨#[118, 49]⟩, .string ⟨#[118, 50]⟩, .string ⟨#[118, 51]⟩] 9) = w4_x at hSB4 hG4 hS4 hZ4 hKB_4 ⊢
              refine hK.out _ _ ?_ (fun hHeld => ?_)
              · exact ⟨(HO.out _ hS4).2.cell 0, (HO.out _ hS4).2.cell 1⟩
              clear hK K
              try simp only [Act.put, List.setIfInBounds_toArray, List.set_cons_zero, List.set_cons_succ]
              refine wpAnyH_ready (rs := [7]) (by kernel_rfl) (by simp) ?_
              refine (AllReadyH.cons (o := ⟨_, _, _, _, _, _⟩) rfl (fun K hK => ?_) AllReadyH.nil)
              go_simp
              refine (some_c _ _ _ [⟨#[118, 49]⟩, ⟨#[118, 49]⟩, ⟨#[118, 50]⟩, ⟨#[118, 51]⟩] _ _ _ hSB4 (by omega) (by decide) (by decide) hKB_4.now (hSB4.ne hglB)).mono ?_
              rintro e w5_v ⟨v, rfl, hp, hSB5, hh⟩
              have HSv := Lib.hid (small_pick hp (by decide))
              clear hp hKB_4
              have hG5 := hG4.trans hh
              have hS5 := hS4.trans (GS.stream hh)
              have hZ5 := hZ4.grown hh (fun e => by have := Option.some.inj e; omega)
              clear hh hSB4 hG4 hS4 hZ4
              refine hK.out _ _ ?_ (fun hHeld => ?_)
              · exact ⟨(HO.out _ hS5).2.cell 0, (HO.out _ hS5).2.cell 1⟩
              clear hK K
              try simp only [Act.put, List.setIfInBounds_toArray, List.set_cons_zero, List.set_cons_succ]
              refine wpAnyH_ready (rs := [10]) (by kernel_rfl) (by simp) ?_
              refine (AllReadyH.cons (o := ⟨_, _, _, _, _, _⟩) rfl (fun K hK => ?_) AllReadyH.nil)
              go_simp
              refine (reading_c f _ s _ (by unfold bnd; omega) hSB5 (by omega)).mono ?_
              rintro e w6_r ⟨r, rfl, hr, hSB6, hh⟩
              have HBr := Lib.hid hr
              clear hr
              have hG6 := hG5.trans hh
              have hS6 := hS5.trans (GS.stream hh)
              have hZ6 := hZ5.grown hh (fun e => by have := Option.some.inj e; omega)
              clear hh hSB5 hG5 hS5 hZ5
              refine hK.out _ _ ?_ (fun hHeld => ?_)
              · exact ⟨(HO.out _ hS6).2.cell 0, (HO.out _ hS6).2.cell 1⟩
              clear hK K
              try simp only [Act.put, List.setIfInBounds_toArray, List.set_cons_zero, List.set_cons_succ]
              refine wpAnyH_ready (rs := [11]) (by kernel_rfl) (by simp) ?_
              refine (AllReadyH.cons (o := ⟨_, _, _, _, _, _⟩) rfl (fun K hK => ?_) AllReadyH.nil)
              go_simp
              refine (startOf_c (key, d, f, f + p) v r _ HSv.out HBr.out.2.1 HKS.out HSd.out (by unfold bnd; dsimp only; omega) (by unfold bnd; dsimp only; omega)).mono ?_
              rintro e w7_m ⟨H', a', n', c', rfl, hHH, hbb, hR7, hh⟩
              have HHH := Lib.hid hHH
              have HB := Lib.hid (fun k e => Nat.le_trans hS6.size (hbb k e))
              have hne7 : ∀ k, (Value.slice a' n' c').ownBlock = some k → k ≠ w1_x.heap.size := fun k e => by have := hbb k e; have := hZ6.lt; omega
              clear hHH hbb
              have hSB7 := hSB6.quiet hh
              have hG7 := hG6.trans0 hh
              have hS7 := hS6.trans (GS.of_G hh)
              have hZ7 := hZ6.quiet hh
              clear hh hSB6 hG6 hS6 hZ6
              refine hK.out _ _ ?_ (fun hHeld => ?_)
              · exact ⟨(HO.out _ hS7).2.cell 0, (HO.out _ hS7).2.cell 1⟩
              clear hK K
              try simp only [Act.put, List.setIfInBounds_toArray, List.set_cons_zero, List.set_cons_succ]
              refine wpAnyH_take (i := 12) (oi := ⟨_, _, _, _, _, _⟩) (v := ?_) rfl (by kernel_rfl) (by kernel_rfl) (by kernel_rfl) (fun _ _ _ h => h) (Or.inl ⟨by rfl, ?_⟩) (by assumption) ?_
              rotate_left
              · (intro w hSw; obtain ⟨s0, s1⟩ := hSw; (go_simp <;> with_reducible rfl))
              try simp only [Act.put, List.setIfInBounds_toArray, List.set_cons_zero, List.set_cons_succ]
              refine wpAnyH_take (i := 13) (oi := ⟨_, _, _, _, _, _⟩) (v := ?_) rfl (by kernel_rfl) (by kernel_rfl) (by kernel_rfl) (fun _ _ _ h => h) (Or.inl ⟨by rfl, ?_⟩) (by assumption) ?_
              rotate_left
              · (intro w hSw; obtain ⟨s0, s1⟩ := hSw; (go_simp <;> with_reducible rfl))
              try simp only [Act.put, List.setIfInBounds_toArray, List.set_cons_zero, List.set_cons_succ]
              refine wpAnyH_take (i := 14) (oi := ⟨_, _, _, _, _, _⟩) (v := ?_) rfl (by kernel_rfl) (by kernel_rfl) (by kernel_rfl) (fun _ _ _ h => h) (Or.inl ⟨by rfl, ?_⟩) (by assumption) ?_
              rotate_left
              · (intro w hSw; obtain ⟨s0, s1⟩ := hSw; (go_simp <;> with_reducible rfl))
              try simp only [Act.put, List.setIfInBounds_toArray, List.set_cons_zero, List.set_cons_succ]
              refine wpAnyH_ready (rs := [16]) (by kernel_rfl) (by simp) ?_
              refine (AllReadyH.cons (o := ⟨_, _, _, _, _, _⟩) rfl (fun K hK => ?_) AllReadyH.nil)
              refine st_wp rfl (wp_store_row 33 _ _ rfl (w1_x.heap.size) #[.string H'.1, .string H'.2.1, .int .i64 H'.2.2.1, .int .i64 H'.2.2.2, .slice a' n' c'] rfl rfl 33 _ hZ7 (hi_info H' _) rfl (hi_one H' a' n' c') ?_)
              have hSB8 := hSB7.setRow (r := w1_x.heap.size) (by omega) #[.string H'.1, .string H'.2.1, .int .i64 H'.2.2.1, .int .i64 H'.2.2.2, .slice a' n' c']
              have hG8 := hG7.setRow (g := w1_x.heap.size) (.inl (by omega)) #[.string H'.1, .string H'.2.1, .int .i64 H'.2.2.1, .int .i64 H'.2.2.2, .slice a' n' c']
              have hS8 := hS7.trans (GS.row (g := w1_x.heap.size) hz #[.string H'.1, .string H'.2.1, .int .i64 H'.2.2.1, .int .i64 H'.2.2.2, .slice a' n' c'])
              have hR8 := Rd.grown hR7 ((G.refl _ (some (w1_x.heap.size))).setRow (.inr rfl) #[.string H'.1, .string H'.2.1, .int .i64 H'.2.2.1, .int .i64 H'.2.2.2, .slice a' n' c']) (fun k e hk => by cases e; exact hne7 _ hk rfl)
              have hZ8 := hZ7.setRow #[.string H'.1, .string H'.2.1, .int .i64 H'.2.2.1, .int .i64 H'.2.2.2, .slice a' n' c']
              have hne8 := hne7
              clear hSB7 hG7
              refine hK.out _ _ ?_ (fun hHeld => ?_)
              · exact ⟨(HO.out _ hS8).2.cell 0, (HO.out _ hS8).2.cell 1⟩
              clear hK K
              try simp only [Act.put, List.setIfInBounds_toArray, List.set_cons_zero, List.set_cons_succ]
              refine wpAnyH_take (i := 17) (oi := ⟨_, _, _, _, _, _⟩) (v := ?_) rfl (by kernel_rfl) (by kernel_rfl) (by kernel_rfl) (fun _ _ _ h => h) (Or.inl ⟨by rfl, ?_⟩) (by assumption) ?_
              rotate_left
              · (intro w hSw; obtain ⟨s0, s1⟩ := hSw; (go_simp <;> with_reducible rfl))
              try simp only [Act.put, List.setIfInBounds_toArray, List.set_cons_zero, List.set_cons_succ]
              refine wpAnyH_done (by kernel_rfl) ?_ _
              go_wp2_with fail
              go_meet
              case rel => exact ⟨_, (key, d, f, f + p), [(v, r, noIn)], _, rfl, rfl, hv_leaf (fun e => e) HHH.out hR8 hZ8 (fun k e => ⟨by have := HB.out k e; omega, hne8 k e, hne8 k e⟩) (by omega) (fun x hx => by obtain rfl := List.mem_singleton.1 hx; exact ⟨HSv.out, HBr.out.2.1, small_nil⟩) HKS.out HSd.out (by unfold bnd; dsimp only; omega) (by unfold bnd; dsimp only; omega), (HO.out _ hS8).1, hSB8.le (by omega), hG8⟩
            · go_simp
              have hh := (G.refl w2_x none).alloc (.cells #[.string ⟨#[118, 49]⟩, .string ⟨#[118, 49]⟩, .string ⟨#[118, 50]⟩, .string ⟨#[118, 51]⟩] 9)
              have hN := Kp.made (s := s) (w := w2_x) 4 9 #[.string ⟨#[118, 49]⟩, .string ⟨#[118, 49]⟩, .string ⟨#[118, 50]⟩, .string ⟨#[118, 51]⟩] rfl (by decide) hSB2.lt
              have hglB := hSB2.lt
              have hSB3 := hSB2.quiet hh
              have hG3 := hG2.trans0 hh
              have hS3 := hS2.trans (GS.of_G hh)
              have hZ3 := hZ2.quiet hh
              have hKA_3 := hKA_2.quiet hh
              clear hh hSB2 hG2 hS2 hZ2 hKA_2
              have hKB_3 := hN
              clear hN
              generalize w2_x.alloc (.cells #[.string ⟨#[118, 49]⟩, .string ⟨#[118, 49]⟩, .string ⟨#[118, 50]⟩, .string ⟨#[118, 51]⟩] 9) = w3_x at hSB3 hG3 hS3 hZ3 hKA_3 hKB_3 ⊢
              refine hK.out _ _ ?_ (fun hHeld => ?_)
              · exact ⟨(HO.out _ hS3).2.cell 0, (HO.out _ hS3).2.cell 1⟩
              clear hK K
              try simp only [Act.put, List.setIfInBounds_toArray, List.set_cons_zero, List.set_cons_succ]
              refine wpAnyH_ready (rs := [3]) (by kernel_rfl) (by simp) ?_
              refine (AllReadyH.cons (o := ⟨_, _, _, _, _, _⟩) rfl (fun K hK => ?_) AllReadyH.nil)
              go_simp
              refine (some_c _ _ _ [⟨#[97, 110, 110]⟩, ⟨#[97, 110, 110]⟩, ⟨#[98, 111, 98]⟩, ⟨#[99, 105, 100]⟩] _ _ _ hSB3 (by omega) (by decide) (by decide) hKA_3.now (hSB3.ne hglA)).mono ?_
              rintro e w4_d ⟨d, rfl, hp, hSB4, hh⟩
              have HSd := Lib.hid (small_pick hp (by decide))
              clear hp hKA_3
              have hG4 := hG3.trans hh
              have hS4 := hS3.trans (GS.stream hh)
              have hZ4 := hZ3.grown hh (fun e => by have := Option.some.inj e; omega)
              have hKB_4 := hKB_3.step hh
              clear hh hSB3 hG3 hS3 hZ3 hKB_3
              refine hK.out _ _ ?_ (fun hHeld => ?_)
              · exact ⟨(HO.out _ hS4).2.cell 0, (HO.out _ hS4).2.cell 1⟩
              clear hK K
              try simp only [Act.put, List.setIfInBounds_toArray, List.set_cons_zero, List.set_cons_succ]
              refine wpAnyH_ready (rs := [7]) (by kernel_rfl) (by simp) ?_
              refine (AllReadyH.cons (o := ⟨_, _, _, _, _, _⟩) rfl (fun K hK => ?_) AllReadyH.nil)
              go_simp
              refine (some_c _ _ _ [⟨#[118, 49]⟩, ⟨#[118, 49]⟩, ⟨#[118, 50]⟩, ⟨#[118, 51]⟩] _ _ _ hSB4 (by omega) (by decide) (by decide) hKB_4.now (hSB4.ne hglB)).mono ?_
              rintro e w5_v ⟨v, rfl, hp, hSB5, hh⟩
              have HSv := Lib.hid (small_pick hp (by decide))
              clear hp hKB_4
              have hG5 := hG4.trans hh
              have hS5 := hS4.trans (GS.stream hh)
              have hZ5 := hZ4.grown hh (fun e => by have := Option.some.inj e; omega)
              clear hh hSB4 hG4 hS4 hZ4
              refine hK.out _ _ ?_ (fun hHeld => ?_)
              · exact ⟨(HO.out _ hS5).2.cell 0, (HO.out _ hS5).2.cell 1⟩
              clear hK K
              try simp only [Act.put, List.setIfInBounds_toArray, List.set_cons_zero, List.set_cons_succ]
              refine wpAnyH_ready (rs := [10]) (by kernel_rfl) (by simp) ?_
              refine (AllReadyH.cons (o := ⟨_, _, _, _, _, _⟩) rfl (fun K hK => ?_) AllReadyH.nil)
              go_simp
              refine (reading_c f _ s _ (by unfold bnd; omega) hSB5 (by omega)).mono ?_
              rintro e w6_r ⟨r, rfl, hr, hSB6, hh⟩
              have HBr := Lib.hid hr
              clear hr
              have hG6 := hG5.trans hh
              have hS6 := hS5.trans (GS.stream hh)
              have hZ6 := hZ5.grown hh (fun e => by have := Option.some.inj e; omega)
              clear hh hSB5 hG5 hS5 hZ5
              refine hK.out _ _ ?_ (fun hHeld => ?_)
              · exact ⟨(HO.out _ hS6).2.cell 0, (HO.out _ hS6).2.cell 1⟩
              clear hK K
              try simp only [Act.put, List.setIfInBounds_toArray, List.set_cons_zero, List.set_cons_succ]
              refine wpAnyH_ready (rs := [11]) (by kernel_rfl) (by simp) ?_
              refine (AllReadyH.cons (o := ⟨_, _, _, _, _, _⟩) rfl (fun K hK => ?_) AllReadyH.nil)
              go_simp
              refine (startOf_c (key, d, f, f + p) v r _ HSv.out HBr.out.2.1 HKS.out HSd.out (by unfold bnd; dsimp only; omega) (by unfold bnd; dsimp only; omega)).mono ?_
              rintro e w7_m ⟨H', a', n', c', rfl, hHH, hbb, hR7, hh⟩
              have HHH := Lib.hid hHH
              have HB := Lib.hid (fun k e => Nat.le_trans hS6.size (hbb k e))
              have hne7 : ∀ k, (Value.slice a' n' c').ownBlock = some k → k ≠ w1_x.heap.size := fun k e => by have := hbb k e; have := hZ6.lt; omega
              clear hHH hbb
              have hSB7 := hSB6.quiet hh
              have hG7 := hG6.trans0 hh
              have hS7 := hS6.trans (GS.of_G hh)
              have hZ7 := hZ6.quiet hh
              clear hh hSB6 hG6 hS6 hZ6
              refine hK.out _ _ ?_ (fun hHeld => ?_)
              · exact ⟨(HO.out _ hS7).2.cell 0, (HO.out _ hS7).2.cell 1⟩
              clear hK K
              try simp only [Act.put, List.setIfInBounds_toArray, List.set_cons_zero, List.set_cons_succ]
              refine wpAnyH_take (i := 12) (oi := ⟨_, _, _, _, _, _⟩) (v := ?_) rfl (by kernel_rfl) (by kernel_rfl) (by kernel_rfl) (fun _ _ _ h => h) (Or.inl ⟨by rfl, ?_⟩) (by assumption) ?_
              rotate_left
              · (intro w hSw; obtain ⟨s0, s1⟩ := hSw; (go_simp <;> with_reducible rfl))
              try simp only [Act.put, List.setIfInBounds_toArray, List.set_cons_zero, List.set_cons_succ]
              refine wpAnyH_take (i := 13) (oi := ⟨_, _, _, _, _, _⟩) (v := ?_) rfl (by kernel_rfl) (by kernel_rfl) (by kernel_rfl) (fun _ _ _ h => h) (Or.inl ⟨by rfl, ?_⟩) (by assumption) ?_
              rotate_left
              · (intro w hSw; obtain ⟨s0, s1⟩ := hSw; (go_simp <;> with_reducible rfl))
              try simp only [Act.put, List.setIfInBounds_toArray, List.set_cons_zero, List.set_cons_succ]
              refine wpAnyH_take (i := 14) (oi := ⟨_, _, _, _, _, _⟩) (v := ?_) rfl (by kernel_rfl) (by kernel_rfl) (by kernel_rfl) (fun _ _ _ h => h) (Or.inl ⟨by rfl, ?_⟩) (by assumption) ?_
              rotate_left
              · (intro w hSw; obtain ⟨s0, s1⟩ := hSw; (go_simp <;> with_reducible rfl))
              try simp only [Act.put, List.setIfInBounds_toArray, List.set_cons_zero, List.set_cons_succ]
              refine wpAnyH_ready (rs := [16]) (by kernel_rfl) (by simp) ?_
              refine (AllReadyH.cons (o := ⟨_, _, _, _, _, _⟩) rfl (fun K hK => ?_) AllReadyH.nil)
              refine st_wp rfl (wp_store_row 33 _ _ rfl (w1_x.heap.size) #[.string H'.1, .string H'.2.1, .int .i64 H'.2.2.1, .int .i64 H'.2.2.2, .slice a' n' c'] rfl rfl 33 _ hZ7 (hi_info H' _) rfl (hi_one H' a' n' c') ?_)
              have hSB8 := hSB7.setRow (r := w1_x.heap.size) (by omega) #[.string H'.1, .string H'.2.1, .int .i64 H'.2.2.1, .int .i64 H'.2.2.2, .slice a' n' c']
              have hG8 := hG7.setRow (g := w1_x.heap.size) (.inl (by omega)) #[.string H'.1, .string H'.2.1, .int .i64 H'.2.2.1, .int .i64 H'.2.2.2, .slice a' n' c']
              have hS8 := hS7.trans (GS.row (g := w1_x.heap.size) hz #[.string H'.1, .string H'.2.1, .int .i64 H'.2.2.1, .int .i64 H'.2.2.2, .slice a' n' c'])
              have hR8 := Rd.grown hR7 ((G.refl _ (some (w1_x.heap.size))).setRow (.inr rfl) #[.string H'.1, .string H'.2.1, .int .i64 H'.2.2.1, .int .i64 H'.2.2.2, .slice a' n' c']) (fun k e hk => by cases e; exact hne7 _ hk rfl)
              have hZ8 := hZ7.setRow #[.string H'.1, .string H'.2.1, .int .i64 H'.2.2.1, .int .i64 H'.2.2.2, .slice a' n' c']
              have hne8 := hne7
              clear hSB7 hG7
              refine hK.out _ _ ?_ (fun hHeld => ?_)
              · exact ⟨(HO.out _ hS8).2.cell 0, (HO.out _ hS8).2.cell 1⟩
              clear hK K
              try simp only [Act.put, List.setIfInBounds_toArray, List.set_cons_zero, List.set_cons_succ]
              refine wpAnyH_take (i := 17) (oi := ⟨_, _, _, _, _, _⟩) (v := ?_) rfl (by kernel_rfl) (by kernel_rfl) (by kernel_rfl) (fun _ _ _ h => h) (Or.inl ⟨by rfl, ?_⟩) (by assumption) ?_
              rotate_left
              · (intro w hSw; obtain ⟨s0, s1⟩ := hSw; (go_simp <;> with_reducible rfl))
              try simp only [Act.put, List.setIfInBounds_toArray, List.set_cons_zero, List.set_cons_succ]
              refine wpAnyH_done (by kernel_rfl) ?_ _
              go_wp2_with fail
              go_meet
              case rel => exact ⟨_, (key, d, f, f + p), [(v, r, noIn)], _, rfl, rfl, hv_leaf (fun e => e) HHH.out hR8 hZ8 (fun k e => ⟨by have := HB.out k e; omega, hne8 k e, hne8 k e⟩) (by omega) (fun x hx => by obtain rfl := List.mem_singleton.1 hx; exact ⟨HSv.out, HBr.out.2.1, small_nil⟩) HKS.out HSd.out (by unfold bnd; dsimp only; omega) (by unfold bnd; dsimp only; omega), (HO.out _ hS8).1, hSB8.le (by omega), hG8⟩
        · go_simp
          have hh := (G.refl wd none).alloc (.cells #[.string ⟨#[118, 49]⟩, .string ⟨#[118, 49]⟩, .string ⟨#[118, 50]⟩, .string ⟨#[118, 51]⟩] 9)
          have hN := Kp.made (s := s) (w := wd) 4 9 #[.string ⟨#[118, 49]⟩, .string ⟨#[118, 49]⟩, .string ⟨#[118, 50]⟩, .string ⟨#[118, 51]⟩] rfl (by decide) hSB0.lt
          have hglB := hSB0.lt
          have hSB1 := hSB0.quiet hh
          have hG1 := hG0.trans0 hh
          have hS1 := hS0.trans (GS.of_G hh)
          clear hh hSB0 hG0 hS0
          have hKB_1 := hN
          clear hN
          generalize wd.alloc (.cells #[.string ⟨#[118, 49]⟩, .string ⟨#[118, 49]⟩, .string ⟨#[118, 50]⟩, .string ⟨#[118, 51]⟩] 9) = w1_x at hSB1 hG1 hS1 hKB_1 ⊢
          refine hK.out _ _ ?_ (fun hHeld => ?_)
          · exact ⟨(HO.out _ hS1).2.cell 0, (HO.out _ hS1).2.cell 1⟩
          clear hK K
          try simp only [Act.put, List.setIfInBounds_toArray, List.set_cons_zero, List.set_cons_succ]
          refine wpAnyH_ready (rs := [2, 15]) (by kernel_rfl) (by simp) ?_
          refine (AllReadyH.cons (o := ⟨_, _, _, _, _, _⟩) rfl (fun K hK => ?_) (AllReadyH.cons (o := ⟨_, _, _, _, _, _⟩) rfl (fun K hK => ?_) AllReadyH.nil))
          · go_simp
            have hh := (G.refl w1_x none).alloc (.cells #[.string ⟨#[97, 110, 110]⟩, .string ⟨#[97, 110, 110]⟩, .string ⟨#[98, 111, 98]⟩, .string ⟨#[99, 105, 100]⟩] 9)
            have hN := Kp.made (s := s) (w := w1_x) 4 9 #[.string ⟨#[97, 110, 110]⟩, .string ⟨#[97, 110, 110]⟩, .string ⟨#[98, 111, 98]⟩, .string ⟨#[99, 105, 100]⟩] rfl (by decide) hSB1.lt
            have hglA := hSB1.lt
            have hSB2 := hSB1.quiet hh
            have hG2 := hG1.trans0 hh
            have hS2 := hS1.trans (GS.of_G hh)
            have hKB_2 := hKB_1.quiet hh
            clear hh hSB1 hG1 hS1 hKB_1
            have hKA_2 := hN
            clear hN
            generalize w1_x.alloc (.cells #[.string ⟨#[97, 110, 110]⟩, .string ⟨#[97, 110, 110]⟩, .string ⟨#[98, 111, 98]⟩, .string ⟨#[99, 105, 100]⟩] 9) = w2_x at hSB2 hG2 hS2 hKA_2 hKB_2 ⊢
            refine hK.out _ _ ?_ (fun hHeld => ?_)
            · exact ⟨(HO.out _ hS2).2.cell 0, (HO.out _ hS2).2.cell 1⟩
            clear hK K
            try simp only [Act.put, List.setIfInBounds_toArray, List.set_cons_zero, List.set_cons_succ]
            refine wpAnyH_ready (rs := [3, 15]) (by kernel_rfl) (by simp) ?_
            refine (AllReadyH.cons (o := ⟨_, _, _, _, _, _⟩) rfl (fun K hK => ?_) (AllReadyH.cons (o := ⟨_, _, _, _, _, _⟩) rfl (fun K hK => ?_) AllReadyH.nil))
            · go_simp
              refine (some_c _ _ _ [⟨#[97, 110, 110]⟩, ⟨#[97, 110, 110]⟩, ⟨#[98, 111, 98]⟩, ⟨#[99, 105, 100]⟩] _ _ _ hSB2 (by omega) (by decide) (by decide) hKA_2.now (hSB2.ne hglA)).mono ?_
              rintro e w3_d ⟨d, rfl, hp, hSB3, hh⟩
              have HSd := Lib.hid (small_pick hp (by decide))
              clear hp hKA_2
              have hG3 := hG2.trans hh
              have hS3 := hS2.trans (GS.stream hh)
              have hKB_3 := hKB_2.step hh
              clear hh hSB2 hG2 hS2 hKB_2
              refine hK.out _ _ ?_ (fun hHeld => ?_)
              · exact ⟨(HO.out _ hS3).2.cell 0, (HO.out _ hS3).2.cell 1⟩
              clear hK K
              try simp only [Act.put, List.setIfInBounds_toArray, List.set_cons_zero, List.set_cons_succ]
              refine wpAnyH_ready (rs := [7, 15]) (by kernel_rfl) (by simp) ?_
              refine (AllReadyH.cons (o := ⟨_, _, _, _, _, _⟩) rfl (fun K hK => ?_) (AllReadyH.cons (o := ⟨_, _, _, _, _, _⟩) rfl (fun K hK => ?_) AllReadyH.nil))
              · go_simp
                refine (some_c _ _ _ [⟨#[118, 49]⟩, ⟨#[118, 49]⟩, ⟨#[118, 50]⟩, ⟨#[118, 51]⟩] _ _ _ hSB3 (by omega) (by decide) (by decide) hKB_3.now (hSB3.ne hglB)).mono ?_
                rintro e w4_v ⟨v, rfl, hp, hSB4, hh⟩
                have HSv := Lib.hid (small_pick hp (by decide))
                clear hp hKB_3
                have hG4 := hG3.trans hh
                have hS4 := hS3.trans (GS.stream hh)
                clear hh hSB3 hG3 hS3
                refine hK.out _ _ ?_ (fun hHeld => ?_)
                · exact ⟨(HO.out _ hS4).2.cell 0, (HO.out _ hS4).2.cell 1⟩
                clear hK K
                try simp only [Act.put, List.setIfInBounds_toArray, List.set_cons_zero, List.set_cons_succ]
                refine wpAnyH_ready (rs := [10, 15]) (by kernel_rfl) (by simp) ?_
                refine (AllReadyH.cons (o := ⟨_, _, _, _, _, _⟩) rfl (fun K hK => ?_) (AllReadyH.cons (o := ⟨_, _, _, _, _, _⟩) rfl (fun K hK => ?_) AllReadyH.nil))
                · go_simp
                  refine (reading_c f _ s _ (by unfold bnd; omega) hSB4 (by omega)).mono ?_
                  rintro e w5_r ⟨r, rfl, hr, hSB5, hh⟩
                  have HBr := Lib.hid hr
                  clear hr
                  have hG5 := hG4.trans hh
                  have hS5 := hS4.trans (GS.stream hh)
                  clear hh hSB4 hG4 hS4
                  refine hK.out _ _ ?_ (fun hHeld => ?_)
                  · exact ⟨(HO.out _ hS5).2.cell 0, (HO.out _ hS5).2.cell 1⟩
                  clear hK K
                  try simp only [Act.put, List.setIfInBounds_toArray, List.set_cons_zero, List.set_cons_succ]
                  refine wpAnyH_ready (rs := [11, 15]) (by kernel_rfl) (by simp) ?_
                  refine (AllReadyH.cons (o := ⟨_, _, _, _, _, _⟩) rfl (fun K hK => ?_) (AllReadyH.cons (o := ⟨_, _, _, _, _, _⟩) rfl (fun K hK => ?_) AllReadyH.nil))
                  · go_simp
                    refine (startOf_c (key, d, f, f + p) v r _ HSv.out HBr.out.2.1 HKS.out HSd.out (by unfold bnd; dsimp only; omega) (by unfold bnd; dsimp only; omega)).mono ?_
                    rintro e w6_m ⟨H', a', n', c', rfl, hHH, hbb, hR6, hh⟩
                    have HHH := Lib.hid hHH
                    have HB := Lib.hid (fun k e => Nat.le_trans hS5.size (hbb k e))
                    clear hHH hbb
                    have hSB6 := hSB5.quiet hh
                    have hG6 := hG5.trans0 hh
                    have hS6 := hS5.trans (GS.of_G hh)
                    clear hh hSB5 hG5 hS5
                    refine hK.out _ _ ?_ (fun hHeld => ?_)
                    · exact ⟨(HO.out _ hS6).2.cell 0, (HO.out _ hS6).2.cell 1⟩
                    clear hK K
                    try simp only [Act.put, List.setIfInBounds_toArray, List.set_cons_zero, List.set_cons_succ]
                    refine wpAnyH_take (i := 12) (oi := ⟨_, _, _, _, _, _⟩) (v := ?_) rfl (by kernel_rfl) (by kernel_rfl) (by kernel_rfl) (fun _ _ _ h => h) (Or.inl ⟨by rfl, ?_⟩) (by assumption) ?_
                    rotate_left
                    · (intro w hSw; obtain ⟨s0, s1⟩ := hSw; (go_simp <;> with_reducible rfl))
                    try simp only [Act.put, List.setIfInBounds_toArray, List.set_cons_zero, List.set_cons_succ]
                    refine wpAnyH_take (i := 13) (oi := ⟨_, _, _, _, _, _⟩) (v := ?_) rfl (by kernel_rfl) (by kernel_rfl) (by kernel_rfl) (fun _ _ _ h => h) (Or.inl ⟨by rfl, ?_⟩) (by assumption) ?_
                    rotate_left
                    · (intro w hSw; obtain ⟨s0, s1⟩ := hSw; (go_simp <;> with_reducible rfl))
                    try simp only [Act.put, List.setIfInBounds_toArray, List.set_cons_zero, List.set_cons_succ]
                    refine wpAnyH_take (i := 14) (oi := ⟨_, _, _, _, _, _⟩) (v := ?_) rfl (by kernel_rfl) (by kernel_rfl) (by kernel_rfl) (fun _ _ _ h => h) (Or.inl ⟨by rfl, ?_⟩) (by assumption) ?_
                    rotate_left
                    · (intro w hSw; obtain ⟨s0, s1⟩ := hSw; (go_simp <;> with_reducible rfl))
                    try simp only [Act.put, List.setIfInBounds_toArray, List.set_cons_zero, List.set_cons_succ]
                    refine wpAnyH_ready (rs := [15]) (by kernel_rfl) (by simp) ?_
                    refine (AllReadyH.cons (o := ⟨_, _, _, _, _, _⟩) rfl (fun K hK => ?_) AllReadyH.nil)
                    go_simp
                    have hh := (G.refl w6_m none).alloc (.cells #[.string ⟨#[]⟩, .string ⟨#[]⟩, .int .i64 0, .int .i64 0, .slice none 0 0] 33)
                    have hz : w2.heap.size ≤ w6_m.heap.size := hS6.size
                    have hZZ := Bk.new w6_m 33 #[.string ⟨#[]⟩, .string ⟨#[]⟩, .int .i64 0, .int .i64 0, .slice none 0 0]
                    have hNE : ∀ k, (Value.slice a' n' c').ownBlock = some k → k ≠ w6_m.heap.size := fun k e => Nat.ne_of_lt (Rd.blk hR6 k e)
                    have hSB7 := hSB6.quiet hh
                    have hG7 := hG6.trans0 hh
                    have hS7 := hS6.trans (GS.of_G hh)
                    have hR7 := Rd.quiet hR6 hh
                    clear hh hSB6 hG6 hS6 hR6
                    have hZ7 := hZZ
                    have hne7 := hNE
                    generalize w6_m.alloc (.cells #[.string ⟨#[]⟩, .string ⟨#[]⟩, .int .i64 0, .int .i64 0, .slice none 0 0] 33) = w7_x at hSB7 hG7 hS7 hZ7 hR7 ⊢
                    refine hK.out _ _ ?_ (fun hHeld => ?_)
                    · exact ⟨(HO.out _ hS7).2.cell 0, (HO.out _ hS7).2.cell 1⟩
                    clear hK K
                    try simp only [Act.put, List.setIfInBounds_toArray, List.set_cons_zero, List.set_cons_succ]
                    refine wpAnyH_ready (rs := [16]) (by kernel_rfl) (by simp) ?_
                    refine (AllReadyH.cons (o := ⟨_, _, _, _, _, _⟩) rfl (fun K hK => ?_) AllReadyH.nil)
                    refine st_wp rfl (wp_store_row 33 _ _ rfl (w6_m.heap.size) #[.string H'.1, .string H'.2.1, .int .i64 H'.2.2.1, .int .i64 H'.2.2.2, .slice a' n' c'] rfl rfl 33 _ hZ7 (hi_info H' _) rfl (hi_one H' a' n' c') ?_)
                    have hSB8 := hSB7.setRow (r := w6_m.heap.size) (by omega) #[.string H'.1, .string H'.2.1, .int .i64 H'.2.2.1, .int .i64 H'.2.2.2, .slice a' n' c']
                    have hG8 := hG7.setRow (g := w6_m.heap.size) (.inl (by omega)) #[.string H'.1, .string H'.2.1, .int .i64 H'.2.2.1, .int .i64 H'.2.2.2, .slice a' n' c']
                    have hS8 := hS7.trans (GS.row (g := w6_m.heap.size) hz #[.string H'.1, .string H'.2.1, .int .i64 H'.2.2.1, .int .i64 H'.2.2.2, .slice a' n' c'])
                    have hR8 := Rd.grown hR7 ((G.refl _ (some (w6_m.heap.size))).setRow (.inr rfl) #[.string H'.1, .string H'.2.1, .int .i64 H'.2.2.1, .int .i64 H'.2.2.2, .slice a' n' c']) (fun k e hk => by cases e; exact hne7 _ hk rfl)
                    have hZ8 := hZ7.setRow #[.string H'.1, .string H'.2.1, .int .i64 H'.2.2.1, .int .i64 H'.2.2.2, .slice a' n' c']
                    have hne8 := hne7
                    clear hSB7 hG7
                    refine hK.out _ _ ?_ (fun hHeld => ?_)
                    · exact ⟨(HO.out _ hS8).2.cell 0, (HO.out _ hS8).2.cell 1⟩
                    clear hK K
                    try simp only [Act.put, List.setIfInBounds_toArray, List.set_cons_zero, List.set_cons_succ]
                    refine wpAnyH_take (i := 17) (oi := ⟨_, _, _, _, _, _⟩) (v := ?_) rfl (by kernel_rfl) (by kernel_rfl) (by kernel_rfl) (fun _ _ _ h => h) (Or.inl ⟨by rfl, ?_⟩) (by assumption) ?_
                    rotate_left
                    · (intro w hSw; obtain ⟨s0, s1⟩ := hSw; (go_simp <;> with_reducible rfl))
                    try simp only [Act.put, List.setIfInBounds_toArray, List.set_cons_zero, List.set_cons_succ]
                    refine wpAnyH_done (by kernel_rfl) ?_ _
                    go_wp2_with fail
                    go_meet
                    case rel => exact ⟨_, (key, d, f, f + p), [(v, r, noIn)], _, rfl, rfl, hv_leaf (fun e => e) HHH.out hR8 hZ8 (fun k e => ⟨by have := HB.out k e; omega, hne8 k e, hne8 k e⟩) (by omega) (fun x hx => by obtain rfl := List.mem_singleton.1 hx; exact ⟨HSv.out, HBr.out.2.1, small_nil⟩) HKS.out HSd.out (by unfold bnd; dsimp only; omega) (by unfold bnd; dsimp only; omega), (HO.out _ hS8).1, hSB8.le (by omega), hG8⟩
                  · go_simp
                    have hh := (G.refl w5_r none).alloc (.cells #[.string ⟨#[]⟩, .string ⟨#[]⟩, .int .i64 0, .int .i64 0, .slice none 0 0] 33)
                    have hz : w2.heap.size ≤ w5_r.heap.size := hS5.size
                    have hZZ := Bk.new w5_r 33 #[.string ⟨#[]⟩, .string ⟨#[]⟩, .int .i64 0, .int .i64 0, .slice none 0 0]
                    have hSB6 := hSB5.quiet hh
                    have hG6 := hG5.trans0 hh
                    have hS6 := hS5.trans (GS.of_G hh)
                    clear hh hSB5 hG5 hS5
                    have hZ6 := hZZ
                    generalize w5_r.alloc (.cells #[.string ⟨#[]⟩, .string ⟨#[]⟩, .int .i64 0, .int .i64 0, .slice none 0 0] 33) = w6_x at hSB6 hG6 hS6 hZ6 ⊢
                    refine hK.out _ _ ?_ (fun hHeld => ?_)
                    · exact ⟨(HO.out _ hS6).2.cell 0, (HO.out _ hS6).2.cell 1⟩
                    clear hK K
                    try simp only [Act.put, List.setIfInBounds_toArray, List.set_cons_zero, List.set_cons_succ]
                    refine wpAnyH_ready (rs := [11]) (by kernel_rfl) (by simp) ?_
                    refine (AllReadyH.cons (o := ⟨_, _, _, _, _, _⟩) rfl (fun K hK => ?_) AllReadyH.nil)
                    go_simp
                    refine (startOf_c (key, d, f, f + p) v r _ HSv.out HBr.out.2.1 HKS.out HSd.out (by unfold bnd; dsimp only; omega) (by unfold bnd; dsimp only; omega)).mono ?_
                    rintro e w7_m ⟨H', a', n', c', rfl, hHH, hbb, hR7, hh⟩
                    have HHH := Lib.hid hHH
                    have HB := Lib.hid (fun k e => Nat.le_trans hS6.size (hbb k e))
                    have hne7 : ∀ k, (Value.slice a' n' c').ownBlock = some k → k ≠ w5_r.heap.size := fun k e => by have := hbb k e; have := hZ6.lt; omega
                    clear hHH hbb
                    have hSB7 := hSB6.quiet hh
                    have hG7 := hG6.trans0 hh
                    have hS7 := hS6.trans (GS.of_G hh)
                    have hZ7 := hZ6.quiet hh
                    clear hh hSB6 hG6 hS6 hZ6
                    refine hK.out _ _ ?_ (fun hHeld => ?_)
                    · exact ⟨(HO.out _ hS7).2.cell 0, (HO.out _ hS7).2.cell 1⟩
                    clear hK K
                    try simp only [Act.put, List.setIfInBounds_toArray, List.set_cons_zero, List.set_cons_succ]
                    refine wpAnyH_take (i := 12) (oi := ⟨_, _, _, _, _, _⟩) (v := ?_) rfl (by kernel_rfl) (by kernel_rfl) (by kernel_rfl) (fun _ _ _ h => h) (Or.inl ⟨by rfl, ?_⟩) (by assumption) ?_
                    rotate_left
                    · (intro w hSw; obtain ⟨s0, s1⟩ := hSw; (go_simp <;> with_reducible rfl))
                    try simp only [Act.put, List.setIfInBounds_toArray, List.set_cons_zero, List.set_cons_succ]
                    refine wpAnyH_take (i := 13) (oi := ⟨_, _, _, _, _, _⟩) (v := ?_) rfl (by kernel_rfl) (by kernel_rfl) (by kernel_rfl) (fun _ _ _ h => h) (Or.inl ⟨by rfl, ?_⟩) (by assumption) ?_
                    rotate_left
                    · (intro w hSw; obtain ⟨s0, s1⟩ := hSw; (go_simp <;> with_reducible rfl))
                    try simp only [Act.put, List.setIfInBounds_toArray, List.set_cons_zero, List.set_cons_succ]
                    refine wpAnyH_take (i := 14) (oi := ⟨_, _, _, _, _, _⟩) (v := ?_) rfl (by kernel_rfl) (by kernel_rfl) (by kernel_rfl) (fun _ _ _ h => h) (Or.inl ⟨by rfl, ?_⟩) (by assumption) ?_
                    rotate_left
                    · (intro w hSw; obtain ⟨s0, s1⟩ := hSw; (go_simp <;> with_reducible rfl))
                    try simp only [Act.put, List.setIfInBounds_toArray, List.set_cons_zero, List.set_cons_succ]
                    refine wpAnyH_ready (rs := [16]) (by kernel_rfl) (by simp) ?_
                    refine (AllReadyH.cons (o := ⟨_, _, _, _, _, _⟩) rfl (fun K hK => ?_) AllReadyH.nil)
                    refine st_wp rfl (wp_store_row 33 _ _ rfl (w5_r.heap.size) #[.string H'.1, .string H'.2.1, .int .i64 H'.2.2.1, .int .i64 H'.2.2.2, .slice a' n' c'] rfl rfl 33 _ hZ7 (hi_info H' _) rfl (hi_one H' a' n' c') ?_)
                    have hSB8 := hSB7.setRow (r := w5_r.heap.size) (by omega) #[.string H'.1, .string H'.2.1, .int .i64 H'.2.2.1, .int .i64 H'.2.2.2, .slice a' n' c']
                    have hG8 := hG7.setRow (g := w5_r.heap.size) (.inl (by omega)) #[.string H'.1, .string H'.2.1, .int .i64 H'.2.2.1, .int .i64 H'.2.2.2, .slice a' n' c']
                    have hS8 := hS7.trans (GS.row (g := w5_r.heap.size) hz #[.string H'.1, .string H'.2.1, .int .i64 H'.2.2.1, .int .i64 H'.2.2.2, .slice a' n' c'])
                    have hR8 := Rd.grown hR7 ((G.refl _ (some (w5_r.heap.size))).setRow (.inr rfl) #[.string H'.1, .string H'.2.1, .int .i64 H'.2.2.1, .int .i64 H'.2.2.2, .slice a' n' c']) (fun k e hk => by cases e; exact hne7 _ hk rfl)
                    have hZ8 := hZ7.setRow #[.string H'.1, .string H'.2.1, .int .i64 H'.2.2.1, .int .i64 H'.2.2.2, .slice a' n' c']
                    have hne8 := hne7
                    clear hSB7 hG7
                    refine hK.out _ _ ?_ (fun hHeld => ?_)
                    · exact ⟨(HO.out _ hS8).2.cell 0, (HO.out _ hS8).2.cell 1⟩
                    clear hK K
                    try simp only [Act.put, List.setIfInBounds_toArray, List.set_cons_zero, List.set_cons_succ]
                    refine wpAnyH_take (i := 17) (oi := ⟨_, _, _, _, _, _⟩) (v := ?_) rfl (by kernel_rfl) (by kernel_rfl) (by kernel_rfl) (fun _ _ _ h => h) (Or.inl ⟨by rfl, ?_⟩) (by assumption) ?_
                    rotate_left
                    · (intro w hSw; obtain ⟨s0, s1⟩ := hSw; (go_simp <;> with_reducible rfl))
                    try simp only [Act.put, List.setIfInBounds_toArray, List.set_cons_zero, List.set_cons_succ]
                    refine wpAnyH_done (by kernel_rfl) ?_ _
                    go_wp2_with fail
                    go_meet
                    case rel => exact ⟨_, (key, d, f, f + p), [(v, r, noIn)], _, rfl, rfl, hv_leaf (fun e => e) HHH.out hR8 hZ8 (fun k e => ⟨by have := HB.out k e; omega, hne8 k e, hne8 k e⟩) (by omega) (fun x hx => by obtain rfl := List.mem_singleton.1 hx; exact ⟨HSv.out, HBr.out.2.1, small_nil⟩) HKS.out HSd.out (by unfold bnd; dsimp only; omega) (by unfold bnd; dsimp only; omega), (HO.out _ hS8).1, hSB8.le (by omega), hG8⟩
                · go_simp
                  have hh := (G.refl w4_v none).alloc (.cells #[.string ⟨#[]⟩, .string ⟨#[]⟩, .int .i64 0, .int .i64 0, .slice none 0 0] 33)
                  have hz : w2.heap.size ≤ w4_v.heap.size := hS4.size
                  have hZZ := Bk.new w4_v 33 #[.string ⟨#[]⟩, .string ⟨#[]⟩, .int .i64 0, .int .i64 0, .slice none 0 0]
                  have hSB5 := hSB4.quiet hh
                  have hG5 := hG4.trans0 hh
                  have hS5 := hS4.trans (GS.of_G hh)
                  clear hh hSB4 hG4 hS4
                  have hZ5 := hZZ
                  generalize w4_v.alloc (.cells #[.string ⟨#[]⟩, .string ⟨#[]⟩, .int .i64 0, .int .i64 0, .slice none 0 0] 33) = w5_x at hSB5 hG5 hS5 hZ5 ⊢
                  refine hK.out _ _ ?_ (fun hHeld => ?_)
                  · exact ⟨(HO.out _ hS5).2.cell 0, (HO.out _ hS5).2.cell 1⟩
                  clear hK K
                  try simp only [Act.put, List.setIfInBounds_toArray, List.set_cons_zero, List.set_cons_succ]
                  refine wpAnyH_ready (rs := [10]) (by kernel_rfl) (by simp) ?_
                  refine (AllReadyH.cons (o := ⟨_, _, _, _, _, _⟩) rfl (fun K hK => ?_) AllReadyH.nil)
                  go_simp
                  refine (reading_c f _ s _ (by unfold bnd; omega) hSB5 (by omega)).mono ?_
                  rintro e w6_r ⟨r, rfl, hr, hSB6, hh⟩
                  have HBr := Lib.hid hr
                  clear hr
                  have hG6 := hG5.trans hh
                  have hS6 := hS5.trans (GS.stream hh)
                  have hZ6 := hZ5.grown hh (fun e => by have := Option.some.inj e; omega)
                  clear hh hSB5 hG5 hS5 hZ5
                  refine hK.out _ _ ?_ (fun hHeld => ?_)
                  · exact ⟨(HO.out _ hS6).2.cell 0, (HO.out _ hS6).2.cell 1⟩
                  clear hK K
                  try simp only [Act.put, List.setIfInBounds_toArray, List.set_cons_zero, List.set_cons_succ]
                  refine wpAnyH_ready (rs := [11]) (by kernel_rfl) (by simp) ?_
                  refine (AllReadyH.cons (o := ⟨_, _, _, _, _, _⟩) rfl (fun K hK => ?_) AllReadyH.nil)
                  go_simp
                  refine (startOf_c (key, d, f, f + p) v r _ HSv.out HBr.out.2.1 HKS.out HSd.out (by unfold bnd; dsimp only; omega) (by unfold bnd; dsimp only; omega)).mono ?_
                  rintro e w7_m ⟨H', a', n', c', rfl, hHH, hbb, hR7, hh⟩
                  have HHH := Lib.hid hHH
                  have HB := Lib.hid (fun k e => Nat.le_trans hS6.size (hbb k e))
                  have hne7 : ∀ k, (Value.slice a' n' c').ownBlock = some k → k ≠ w4_v.heap.size := fun k e => by have := hbb k e; have := hZ6.lt; omega
                  clear hHH hbb
                  have hSB7 := hSB6.quiet hh
                  have hG7 := hG6.trans0 hh
                  have hS7 := hS6.trans (GS.of_G hh)
                  have hZ7 := hZ6.quiet hh
                  clear hh hSB6 hG6 hS6 hZ6
                  refine hK.out _ _ ?_ (fun hHeld => ?_)
                  · exact ⟨(HO.out _ hS7).2.cell 0, (HO.out _ hS7).2.cell 1⟩
                  clear hK K
                  try simp only [Act.put, List.setIfInBounds_toArray, List.set_cons_zero, List.set_cons_succ]
                  refine wpAnyH_take (i := 12) (oi := ⟨_, _, _, _, _, _⟩) (v := ?_) rfl (by kernel_rfl) (by kernel_rfl) (by kernel_rfl) (fun _ _ _ h => h) (Or.inl ⟨by rfl, ?_⟩) (by assumption) ?_
                  rotate_left
                  · (intro w hSw; obtain ⟨s0, s1⟩ := hSw; (go_simp <;> with_reducible rfl))
                  try simp only [Act.put, List.setIfInBounds_toArray, List.set_cons_zero, List.set_cons_succ]
                  refine wpAnyH_take (i := 13) (oi := ⟨_, _, _, _, _, _⟩) (v := ?_) rfl (by kernel_rfl) (by kernel_rfl) (by kernel_rfl) (fun _ _ _ h => h) (Or.inl ⟨by rfl, ?_⟩) (by assumption) ?_
                  rotate_left
                  · (intro w hSw; obtain ⟨s0, s1⟩ := hSw; (go_simp <;> with_reducible rfl))
                  try simp only [Act.put, List.setIfInBounds_toArray, List.set_cons_zero, List.set_cons_succ]
                  refine wpAnyH_take (i := 14) (oi := ⟨_, _, _, _, _, _⟩) (v := ?_) rfl (by kernel_rfl) (by kernel_rfl) (by kernel_rfl) (fun _ _ _ h => h) (Or.inl ⟨by rfl, ?_⟩) (by assumption) ?_
                  rotate_left
                  · (intro w hSw; obtain ⟨s0, s1⟩ := hSw; (go_simp <;> with_reducible rfl))
                  try simp only [Act.put, List.setIfInBounds_toArray, List.set_cons_zero, List.set_cons_succ]
                  refine wpAnyH_ready (rs := [16]) (by kernel_rfl) (by simp) ?_
                  refine (AllReadyH.cons (o := ⟨_, _, _, _, _, _⟩) rfl (fun K hK => ?_) AllReadyH.nil)
                  refine st_wp rfl (wp_store_row 33 _ _ rfl (w4_v.heap.size) #[.string H'.1, .string H'.2.1, .int .i64 H'.2.2.1, .int .i64 H'.2.2.2, .slice a' n' c'] rfl rfl 33 _ hZ7 (hi_info H' _) rfl (hi_one H' a' n' c') ?_)
                  have hSB8 := hSB7.setRow (r := w4_v.heap.size) (by omega) #[.string H'.1, .string H'.2.1, .int .i64 H'.2.2.1, .int .i64 H'.2.2.2, .slice a' n' c']
                  have hG8 := hG7.setRow (g := w4_v.heap.size) (.inl (by omega)) #[.string H'.1, .string H'.2.1, .int .i64 H'.2.2.1, .int .i64 H'.2.2.2, .slice a' n' c']
                  have hS8 := hS7.trans (GS.row (g := w4_v.heap.size) hz #[.string H'.1, .string H'.2.1, .int .i64 H'.2.2.1, .int .i64 H'.2.2.2, .slice a' n' c'])
                  have hR8 := Rd.grown hR7 ((G.refl _ (some (w4_v.heap.size))).setRow (.inr rfl) #[.string H'.1, .string H'.2.1, .int .i64 H'.2.2.1, .int .i64 H'.2.2.2, .slice a' n' c']) (fun k e hk => by cases e; exact hne7 _ hk rfl)
                  have hZ8 := hZ7.setRow #[.string H'.1, .string H'.2.1, .int .i64 H'.2.2.1, .int .i64 H'.2.2.2, .slice a' n' c']
                  have hne8 := hne7
                  clear hSB7 hG7
                  refine hK.out _ _ ?_ (fun hHeld => ?_)
                  · exact ⟨(HO.out _ hS8).2.cell 0, (HO.out _ hS8).2.cell 1⟩
                  clear hK K
                  try simp only [Act.put, List.setIfInBounds_toArray, List.set_cons_zero, List.set_cons_succ]
                  refine wpAnyH_take (i := 17) (oi := ⟨_, _, _, _, _, _⟩) (v := ?_) rfl (by kernel_rfl) (by kernel_rfl) (by kernel_rfl) (fun _ _ _ h => h) (Or.inl ⟨by rfl, ?_⟩) (by assumption) ?_
                  rotate_left
                  · (intro w hSw; obtain ⟨s0, s1⟩ := hSw; (go_simp <;> with_reducible rfl))
                  try simp only [Act.put, List.setIfInBounds_toArray, List.set_cons_zero, List.set_cons_succ]
                  refine wpAnyH_done (by kernel_rfl) ?_ _
                  go_wp2_with fail
                  go_meet
                  case rel => exact ⟨_, (key, d, f, f + p), [(v, r, noIn)], _, rfl, rfl, hv_leaf (fun e => e) HHH.out hR8 hZ8 (fun k e => ⟨by have := HB.out k e; omega, hne8 k e, hne8 k e⟩) (by omega) (fun x hx => by obtain rfl := List.mem_singleton.1 hx; exact ⟨HSv.out, HBr.out.2.1, small_nil⟩) HKS.out HSd.out (by unfold bnd; dsimp only; omega) (by unfold bnd; dsimp only; omega), (HO.out _ hS8).1, hSB8.le (by omega), hG8⟩
              · go_simp
                have hh := (G.refl w3_d none).alloc (.cells #[.string ⟨#[]⟩, .string ⟨#[]⟩, .int .i64 0, .int .i64 0, .slice none 0 0] 33)
                have hz : w2.heap.size ≤ w3_d.heap.size := hS3.size
                have hZZ := Bk.new w3_d 33 #[.string ⟨#[]⟩, .string ⟨#[]⟩, .int .i64 0, .int .i64 0, .slice none 0 0]
                have hSB4 := hSB3.quiet hh
                have hG4 := hG3.trans0 hh
                have hS4 := hS3.trans (GS.of_G hh)
                have hKB_4 := hKB_3.quiet hh
                clear hh hSB3 hG3 hS3 hKB_3
                have hZ4 := hZZ
                generalize w3_d.alloc (.cells #[.string ⟨#[]⟩, .string ⟨#[]⟩, .int .i64 0, .int .i64 0, .slice none 0 0] 33) = w4_x at hSB4 hG4 hS4 hZ4 hKB_4 ⊢
                refine hK.out _ _ ?_ (fun hHeld => ?_)
                · exact ⟨(HO.out _ hS4).2.cell 0, (HO.out _ hS4).2.cell 1⟩
                clear hK K
                try simp only [Act.put, List.setIfInBounds_toArray, List.set_cons_zero, List.set_cons_succ]
                refine wpAnyH_ready (rs := [7]) (by kernel_rfl) (by simp) ?_
                refine (AllReadyH.cons (o := ⟨_, _, _, _, _, _⟩) rfl (fun K hK => ?_) AllReadyH.nil)
                go_simp
                refine (some_c _ _ _ [⟨#[118, 49]⟩, ⟨#[118, 49]⟩, ⟨#[118, 50]⟩, ⟨#[118, 51]⟩] _ _ _ hSB4 (by omega) (by decide) (by decide) hKB_4.now (hSB4.ne hglB)).mono ?_
                rintro e w5_v ⟨v, rfl, hp, hSB5, hh⟩
                have HSv := Lib.hid (small_pick hp (by decide))
                clear hp hKB_4
                have hG5 := hG4.trans hh
                have hS5 := hS4.trans (GS.stream hh)
                have hZ5 := hZ4.grown hh (fun e => by have := Option.some.inj e; omega)
                clear hh hSB4 hG4 hS4 hZ4
                refine hK.out _ _ ?_ (fun hHeld => ?_)
                · exact ⟨(HO.out _ hS5).2.cell 0, (HO.out _ hS5).2.cell 1⟩
                clear hK K
                try simp only [Act.put, List.setIfInBounds_toArray, List.set_cons_zero, List.set_cons_succ]
                refine wpAnyH_ready (rs := [10]) (by kernel_rfl) (by simp) ?_
                refine (AllReadyH.cons (o := ⟨_, _, _, _, _, _⟩) rfl (fun K hK => ?_) AllReadyH.nil)
                go_simp
                refine (reading_c f _ s _ (by unfold bnd; omega) hSB5 (by omega)).mono ?_
                rintro e w6_r ⟨r, rfl, hr, hSB6, hh⟩
                have HBr := Lib.hid hr
                clear hr
                have hG6 := hG5.trans hh
                have hS6 := hS5.trans (GS.stream hh)
                have hZ6 := hZ5.grown hh (fun e => by have := Option.some.inj e; omega)
                clear hh hSB5 hG5 hS5 hZ5
                refine hK.out _ _ ?_ (fun hHeld => ?_)
                · exact ⟨(HO.out _ hS6).2.cell 0, (HO.out _ hS6).2.cell 1⟩
                clear hK K
                try simp only [Act.put, List.setIfInBounds_toArray, List.set_cons_zero, List.set_cons_succ]
                refine wpAnyH_ready (rs := [11]) (by kernel_rfl) (by simp) ?_
                refine (AllReadyH.cons (o := ⟨_, _, _, _, _, _⟩) rfl (fun K hK => ?_) AllReadyH.nil)
                go_simp
                refine (startOf_c (key, d, f, f + p) v r _ HSv.out HBr.out.2.1 HKS.out HSd.out (by unfold bnd; dsimp only; omega) (by unfold bnd; dsimp only; omega)).mono ?_
                rintro e w7_m ⟨H', a', n', c', rfl, hHH, hbb, hR7, hh⟩
                have HHH := Lib.hid hHH
                have HB := Lib.hid (fun k e => Nat.le_trans hS6.size (hbb k e))
                have hne7 : ∀ k, (Value.slice a' n' c').ownBlock = some k → k ≠ w3_d.heap.size := fun k e => by have := hbb k e; have := hZ6.lt; omega
                clear hHH hbb
                have hSB7 := hSB6.quiet hh
                have hG7 := hG6.trans0 hh
                have hS7 := hS6.trans (GS.of_G hh)
                have hZ7 := hZ6.quiet hh
                clear hh hSB6 hG6 hS6 hZ6
                refine hK.out _ _ ?_ (fun hHeld => ?_)
                · exact ⟨(HO.out _ hS7).2.cell 0, (HO.out _ hS7).2.cell 1⟩
                clear hK K
                try simp only [Act.put, List.setIfInBounds_toArray, List.set_cons_zero, List.set_cons_succ]
                refine wpAnyH_take (i := 12) (oi := ⟨_, _, _, _, _, _⟩) (v := ?_) rfl (by kernel_rfl) (by kernel_rfl) (by kernel_rfl) (fun _ _ _ h => h) (Or.inl ⟨by rfl, ?_⟩) (by assumption) ?_
                rotate_left
                · (intro w hSw; obtain ⟨s0, s1⟩ := hSw; (go_simp <;> with_reducible rfl))
                try simp only [Act.put, List.setIfInBounds_toArray, List.set_cons_zero, List.set_cons_succ]
                refine wpAnyH_take (i := 13) (oi := ⟨_, _, _, _, _, _⟩) (v := ?_) rfl (by kernel_rfl) (by kernel_rfl) (by kernel_rfl) (fun _ _ _ h => h) (Or.inl ⟨by rfl, ?_⟩) (by assumption) ?_
                rotate_left
                · (intro w hSw; obtain ⟨s0, s1⟩ := hSw; (go_simp <;> with_reducible rfl))
                try simp only [Act.put, List.setIfInBounds_toArray, List.set_cons_zero, List.set_cons_succ]
                refine wpAnyH_take (i := 14) (oi := ⟨_, _, _, _, _, _⟩) (v := ?_) rfl (by kernel_rfl) (by kernel_rfl) (by kernel_rfl) (fun _ _ _ h => h) (Or.inl ⟨by rfl, ?_⟩) (by assumption) ?_
                rotate_left
                · (intro w hSw; obtain ⟨s0, s1⟩ := hSw; (go_simp <;> with_reducible rfl))
                try simp only [Act.put, List.setIfInBounds_toArray, List.set_cons_zero, List.set_cons_succ]
                refine wpAnyH_ready (rs := [16]) (by kernel_rfl) (by simp) ?_
                refine (AllReadyH.cons (o := ⟨_, _, _, _, _, _⟩) rfl (fun K hK => ?_) AllReadyH.nil)
                refine st_wp rfl (wp_store_row 33 _ _ rfl (w3_d.heap.size) #[.string H'.1, .string H'.2.1, .int .i64 H'.2.2.1, .int .i64 H'.2.2.2, .slice a' n' c'] rfl rfl 33 _ hZ7 (hi_info H' _) rfl (hi_one H' a' n' c') ?_)
                have hSB8 := hSB7.setRow (r := w3_d.heap.size) (by omega) #[.string H'.1, .string H'.2.1, .int .i64 H'.2.2.1, .int .i64 H'.2.2.2, .slice a' n' c']
                have hG8 := hG7.setRow (g := w3_d.heap.size) (.inl (by omega)) #[.string H'.1, .string H'.2.1, .int .i64 H'.2.2.1, .int .i64 H'.2.2.2, .slice a' n' c']
                have hS8 := hS7.trans (GS.row (g := w3_d.heap.size) hz #[.string H'.1, .string H'.2.1, .int .i64 H'.2.2.1, .int .i64 H'.2.2.2, .slice a' n' c'])
                have hR8 := Rd.grown hR7 ((G.refl _ (some (w3_d.heap.size))).setRow (.inr rfl) #[.string H'.1, .string H'.2.1, .int .i64 H'.2.2.1, .int .i64 H'.2.2.2, .slice a' n' c']) (fun k e hk => by cases e; exact hne7 _ hk rfl)
                have hZ8 := hZ7.setRow #[.string H'.1, .string H'.2.1, .int .i64 H'.2.2.1, .int .i64 H'.2.2.2, .slice a' n' c']
                have hne8 := hne7
                clear hSB7 hG7
                refine hK.out _ _ ?_ (fun hHeld => ?_)
                · exact ⟨(HO.out _ hS8).2.cell 0, (HO.out _ hS8).2.cell 1⟩
                clear hK K
                try simp only [Act.put, List.setIfInBounds_toArray, List.set_cons_zero, List.set_cons_succ]
                refine wpAnyH_take (i := 17) (oi := ⟨_, _, _, _, _, _⟩) (v := ?_) rfl (by kernel_rfl) (by kernel_rfl) (by kernel_rfl) (fun _ _ _ h => h) (Or.inl ⟨by rfl, ?_⟩) (by assumption) ?_
                rotate_left
                · (intro w hSw; obtain ⟨s0, s1⟩ := hSw; (go_simp <;> with_reducible rfl))
                try simp only [Act.put, List.setIfInBounds_toArray, List.set_cons_zero, List.set_cons_succ]
                refine wpAnyH_done (by kernel_rfl) ?_ _
                go_wp2_with fail
                go_meet
                case rel => exact ⟨_, (key, d, f, f + p), [(v, r, noIn)], _, rfl, rfl, hv_leaf (fun e => e) HHH.out hR8 hZ8 (fun k e => ⟨by have := HB.out k e; omega, hne8 k e, hne8 k e⟩) (by omega) (fun x hx => by obtain rfl := List.mem_singleton.1 hx; exact ⟨HSv.out, HBr.out.2.1, small_nil⟩) HKS.out HSd.out (by unfold bnd; dsimp only; omega) (by unfold bnd; dsimp only; omega), (HO.out _ hS8).1, hSB8.le (by omega), hG8⟩
            · go_simp
              have hh := (G.refl w2_x none).alloc (.cells #[.string ⟨#[]⟩, .string ⟨#[]⟩, .int .i64 0, .int .i64 0, .slice none 0 0] 33)
              have hz : w2.heap.size ≤ w2_x.heap.size := hS2.size
              have hZZ := Bk.new w2_x 33 #[.string ⟨#[]⟩, .string ⟨#[]⟩, .int .i64 0, .int .i64 0, .slice none 0 0]
              have hSB3 := hSB2.quiet hh
              have hG3 := hG2.trans0 hh
              have hS3 := hS2.trans (GS.of_G hh)
              have hKA_3 := hKA_2.quiet hh
              have hKB_3 := hKB_2.quiet hh
              clear hh hSB2 hG2 hS2 hKA_2 hKB_2
              have hZ3 := hZZ
              generalize w2_x.alloc (.cells #[.string ⟨#[]⟩, .string ⟨#[]⟩, .int .i64 0, .int .i64 0, .slice none 0 0] 33) = w3_x at hSB3 hG3 hS3 hZ3 hKA_3 hKB_3 ⊢
              refine hK.out _ _ ?_ (fun hHeld => ?_)
              · exact ⟨(HO.out _ hS3).2.cell 0, (HO.out _ hS3).2.cell 1⟩
              clear hK K
              try simp only [Act.put, List.setIfInBounds_toArray, List.set_cons_zero, List.set_cons_succ]
              refine wpAnyH_ready (rs := [3]) (by kernel_rfl) (by simp) ?_
              refine (AllReadyH.cons (o := ⟨_, _, _, _, _, _⟩) rfl (fun K hK => ?_) AllReadyH.nil)
              go_simp
              refine (some_c _ _ _ [⟨#[97, 110, 110]⟩, ⟨#[97, 110, 110]⟩, ⟨#[98, 111, 98]⟩, ⟨#[99, 105, 100]⟩] _ _ _ hSB3 (by omega) (by decide) (by decide) hKA_3.now (hSB3.ne hglA)).mono ?_
              rintro e w4_d ⟨d, rfl, hp, hSB4, hh⟩
              have HSd := Lib.hid (small_pick hp (by decide))
              clear hp hKA_3
              have hG4 := hG3.trans hh
              have hS4 := hS3.trans (GS.stream hh)
              have hZ4 := hZ3.grown hh (fun e => by have := Option.some.inj e; omega)
              have hKB_4 := hKB_3.step hh
              clear hh hSB3 hG3 hS3 hZ3 hKB_3
              refine hK.out _ _ ?_ (fun hHeld => ?_)
              · exact ⟨(HO.out _ hS4).2.cell 0, (HO.out _ hS4).2.cell 1⟩
              clear hK K
              try simp only [Act.put, List.setIfInBounds_toArray, List.set_cons_zero, List.set_cons_succ]
              refine wpAnyH_ready (rs := [7]) (by kernel_rfl) (by simp) ?_
              refine (AllReadyH.cons (o := ⟨_, _, _, _, _, _⟩) rfl (fun K hK => ?_) AllReadyH.nil)
              go_simp
              refine (some_c _ _ _ [⟨#[118, 49]⟩, ⟨#[118, 49]⟩, ⟨#[118, 50]⟩, ⟨#[118, 51]⟩] _ _ _ hSB4 (by omega) (by decide) (by decide) hKB_4.now (hSB4.ne hglB)).mono ?_
              rintro e w5_v ⟨v, rfl, hp, hSB5, hh⟩
              have HSv := Lib.hid (small_pick hp (by decide))
              clear hp hKB_4
              have hG5 := hG4.trans hh
              have hS5 := hS4.trans (GS.stream hh)
              have hZ5 := hZ4.grown hh (fun e => by have := Option.some.inj e; omega)
              clear hh hSB4 hG4 hS4 hZ4
              refine hK.out _ _ ?_ (fun hHeld => ?_)
              · exact ⟨(HO.out _ hS5).2.cell 0, (HO.out _ hS5).2.cell 1⟩
              clear hK K
              try simp only [Act.put, List.setIfInBounds_toArray, List.set_cons_zero, List.set_cons_succ]
              refine wpAnyH_ready (rs := [10]) (by kernel_rfl) (by simp) ?_
              refine (AllReadyH.cons (o := ⟨_, _, _, _, _, _⟩) rfl (fun K hK => ?_) AllReadyH.nil)
              go_simp
              refine (reading_c f _ s _ (by unfold bnd; omega) hSB5 (by omega)).mono ?_
              rintro e w6_r ⟨r, rfl, hr, hSB6, hh⟩
              have HBr := Lib.hid hr
              clear hr
              have hG6 := hG5.trans hh
              have hS6 := hS5.trans (GS.stream hh)
              have hZ6 := hZ5.grown hh (fun e => by have := Option.some.inj e; omega)
              clear hh hSB5 hG5 hS5 hZ5
              refine hK.out _ _ ?_ (fun hHeld => ?_)
              · exact ⟨(HO.out _ hS6).2.cell 0, (HO.out _ hS6).2.cell 1⟩
              clear hK K
              try simp only [Act.put, List.setIfInBounds_toArray, List.set_cons_zero, List.set_cons_succ]
              refine wpAnyH_ready (rs := [11]) (by kernel_rfl) (by simp) ?_
              refine (AllReadyH.cons (o := ⟨_, _, _, _, _, _⟩) rfl (fun K hK => ?_) AllReadyH.nil)
              go_simp
              refine (startOf_c (key, d, f, f + p) v r _ HSv.out HBr.out.2.1 HKS.out HSd.out (by unfold bnd; dsimp only; omega) (by unfold bnd; dsimp only; omega)).mono ?_
              rintro e w7_m ⟨H', a', n', c', rfl, hHH, hbb, hR7, hh⟩
              have HHH := Lib.hid hHH
              have HB := Lib.hid (fun k e => Nat.le_trans hS6.size (hbb k e))
              have hne7 : ∀ k, (Value.slice a' n' c').ownBlock = some k → k ≠ w2_x.heap.size := fun k e => by have := hbb k e; have := hZ6.lt; omega
              clear hHH hbb
              have hSB7 := hSB6.quiet hh
              have hG7 := hG6.trans0 hh
              have hS7 := hS6.trans (GS.of_G hh)
              have hZ7 := hZ6.quiet hh
              clear hh hSB6 hG6 hS6 hZ6
              refine hK.out _ _ ?_ (fun hHeld => ?_)
              · exact ⟨(HO.out _ hS7).2.cell 0, (HO.out _ hS7).2.cell 1⟩
              clear hK K
              try simp only [Act.put, List.setIfInBounds_toArray, List.set_cons_zero, List.set_cons_succ]
              refine wpAnyH_take (i := 12) (oi := ⟨_, _, _, _, _, _⟩) (v := ?_) rfl (by kernel_rfl) (by kernel_rfl) (by kernel_rfl) (fun _ _ _ h => h) (Or.inl ⟨by rfl, ?_⟩) (by assumption) ?_
              rotate_left
              · (intro w hSw; obtain ⟨s0, s1⟩ := hSw; (go_simp <;> with_reducible rfl))
              try simp only [Act.put, List.setIfInBounds_toArray, List.set_cons_zero, List.set_cons_succ]
              refine wpAnyH_take (i := 13) (oi := ⟨_, _, _, _, _, _⟩) (v := ?_) rfl (by kernel_rfl) (by kernel_rfl) (by kernel_rfl) (fun _ _ _ h => h) (Or.inl ⟨by rfl, ?_⟩) (by assumption) ?_
              rotate_left
              · (intro w hSw; obtain ⟨s0, s1⟩ := hSw; (go_simp <;> with_reducible rfl))
              try simp only [Act.put, List.setIfInBounds_toArray, List.set_cons_zero, List.set_cons_succ]
              refine wpAnyH_take (i := 14) (oi := ⟨_, _, _, _, _, _⟩) (v := ?_) rfl (by kernel_rfl) (by kernel_rfl) (by kernel_rfl) (fun _ _ _ h => h) (Or.inl ⟨by rfl, ?_⟩) (by assumption) ?_
              rotate_left
              · (intro w hSw; obtain ⟨s0, s1⟩ := hSw; (go_simp <;> with_reducible rfl))
              try simp only [Act.put, List.setIfInBounds_toArray, List.set_cons_zero, List.set_cons_succ]
              refine wpAnyH_ready (rs := [16]) (by kernel_rfl) (by simp) ?_
              refine (AllReadyH.cons (o := ⟨_, _, _, _, _, _⟩) rfl (fun K hK => ?_) AllReadyH.nil)
              refine st_wp rfl (wp_store_row 33 _ _ rfl (w2_x.heap.size) #[.string H'.1, .string H'.2.1, .int .i64 H'.2.2.1, .int .i64 H'.2.2.2, .slice a' n' c'] rfl rfl 33 _ hZ7 (hi_info H' _) rfl (hi_one H' a' n' c') ?_)
              have hSB8 := hSB7.setRow (r := w2_x.heap.size) (by omega) #[.string H'.1, .string H'.2.1, .int .i64 H'.2.2.1, .int .i64 H'.2.2.2, .slice a' n' c']
              have hG8 := hG7.setRow (g := w2_x.heap.size) (.inl (by omega)) #[.string H'.1, .string H'.2.1, .int .i64 H'.2.2.1, .int .i64 H'.2.2.2, .slice a' n' c']
              have hS8 := hS7.trans (GS.row (g := w2_x.heap.size) hz #[.string H'.1, .string H'.2.1, .int .i64 H'.2.2.1, .int .i64 H'.2.2.2, .slice a' n' c'])
              have hR8 := Rd.grown hR7 ((G.refl _ (some (w2_x.heap.size))).setRow (.inr rfl) #[.string H'.1, .string H'.2.1, .int .i64 H'.2.2.1, .int .i64 H'.2.2.2, .slice a' n' c']) (fun k e hk => by cases e; exact hne7 _ hk rfl)
              have hZ8 := hZ7.setRow #[.string H'.1, .string H'.2.1, .int .i64 H'.2.2.1, .int .i64 H'.2.2.2, .slice a' n' c']
              have hne8 := hne7
              clear hSB7 hG7
              refine hK.out _ _ ?_ (fun hHeld => ?_)
              · exact ⟨(HO.out _ hS8).2.cell 0, (HO.out _ hS8).2.cell 1⟩
              clear hK K
              try simp only [Act.put, List.setIfInBounds_toArray, List.set_cons_zero, List.set_cons_succ]
              refine wpAnyH_take (i := 17) (oi := ⟨_, _, _, _, _, _⟩) (v := ?_) rfl (by kernel_rfl) (by kernel_rfl) (by kernel_rfl) (fun _ _ _ h => h) (Or.inl ⟨by rfl, ?_⟩) (by assumption) ?_
              rotate_left
              · (intro w hSw; obtain ⟨s0, s1⟩ := hSw; (go_simp <;> with_reducible rfl))
              try simp only [Act.put, List.setIfInBounds_toArray, List.set_cons_zero, List.set_cons_succ]
              refine wpAnyH_done (by kernel_rfl) ?_ _
              go_wp2_with fail
              go_meet
              case rel => exact ⟨_, (key, d, f, f + p), [(v, r, noIn)], _, rfl, rfl, hv_leaf (fun e => e) HHH.out hR8 hZ8 (fun k e => ⟨by have := HB.out k e; omega, hne8 k e, hne8 k e⟩) (by omega) (fun x hx => by obtain rfl := List.mem_singleton.1 hx; exact ⟨HSv.out, HBr.out.2.1, small_nil⟩) HKS.out HSd.out (by unfold bnd; dsimp only; omega) (by unfold bnd; dsimp only; omega), (HO.out _ hS8).1, hSB8.le (by omega), hG8⟩
          · go_simp
            have hh := (G.refl w1_x none).alloc (.cells #[.string ⟨#[]⟩, .string ⟨#[]⟩, .int .i64 0, .int .i64 0, .slice none 0 0] 33)
            have hz : w2.heap.size ≤ w1_x.heap.size := hS1.size
            have hZZ := Bk.new w1_x 33 #[.string ⟨#[]⟩, .string ⟨#[]⟩, .int .i64 0, .int .i64 0, .slice none 0 0]
            have hSB2 := hSB1.quiet hh
            have hG2 := hG1.trans0 hh
            have hS2 := hS1.trans (GS.of_G hh)
            have hKB_2 := hKB_1.quiet hh
            clear hh hSB1 hG1 hS1 hKB_1
            have hZ2 := hZZ
            generalize w1_x.alloc (.cells #[.string ⟨#[]⟩, .string ⟨#[]⟩, .int .i64 0, .int .i64 0, .slice none 0 0] 33) = w2_x at hSB2 hG2 hS2 hZ2 hKB_2 ⊢
            refine hK.out _ _ ?_ (fun hHeld => ?_)
            · exact ⟨(HO.out _ hS2).2.cell 0, (HO.out _ hS2).2.cell 1⟩
            clear hK K
            try simp only [Act.put, List.setIfInBounds_toArray, List.set_cons_zero, List.set_cons_succ]
            refine wpAnyH_ready (rs := [2]) (by kernel_rfl) (by simp) ?_
            refine (AllReadyH.cons (o := ⟨_, _, _, _, _, _⟩) rfl (fun K hK => ?_) AllReadyH.nil)
            go_simp
            have hh := (G.refl w2_x none).alloc (.cells #[.string ⟨#[97, 110, 110]⟩, .string ⟨#[97, 110, 110]⟩, .string ⟨#[98, 111, 98]⟩, .string ⟨#[99, 105, 100]⟩] 9)
            have hN := Kp.made (s := s) (w := w2_x) 4 9 #[.string ⟨#[97, 110, 110]⟩, .string ⟨#[97, 110, 110]⟩, .string ⟨#[98, 111, 98]⟩, .string ⟨#[99, 105, 100]⟩] rfl (by decide) hSB2.lt
            have hglA := hSB2.lt
            have hSB3 := hSB2.quiet hh
            have hG3 := hG2.trans0 hh
            have hS3 := hS2.trans (GS.of_G hh)
            have hZ3 := hZ2.quiet hh
            have hKB_3 := hKB_2.quiet hh
            clear hh hSB2 hG2 hS2 hZ2 hKB_2
            have hKA_3 := hN
            clear hN
            generalize w2_x.alloc (.cells #[.string ⟨#[97, 110, 110]⟩, .string ⟨#[97, 110, 110]⟩, .string ⟨#[98, 111, 98]⟩, .string ⟨#[99, 105, 100]⟩] 9) = w3_x at hSB3 hG3 hS3 hZ3 hKA_3 hKB_3 ⊢
            refine hK.out _ _ ?_ (fun hHeld => ?_)
            · exact ⟨(HO.out _ hS3).2.cell 0, (HO.out _ hS3).2.cell 1⟩
            clear hK K
            try simp only [Act.put, List.setIfInBounds_toArray, List.set_cons_zero, List.set_cons_succ]
            refine wpAnyH_ready (rs := [3]) (by kernel_rfl) (by simp) ?_
            refine (AllReadyH.cons (o := ⟨_, _, _, _, _, _⟩) rfl (fun K hK => ?_) AllReadyH.nil)
            go_simp
            refine (some_c _ _ _ [⟨#[97, 110, 110]⟩, ⟨#[97, 110, 110]⟩, ⟨#[98, 111, 98]⟩, ⟨#[99, 105, 100]⟩] _ _ _ hSB3 (by omega) (by decide) (by decide) hKA_3.now (hSB3.ne hglA)).mono ?_
            rintro e w4_d ⟨d, rfl, hp, hSB4, hh⟩
            have HSd := Lib.hid (small_pick hp (by decide))
            clear hp hKA_3
            have hG4 := hG3.trans hh
            have hS4 := hS3.trans (GS.stream hh)
            have hZ4 := hZ3.grown hh (fun e => by have := Option.some.inj e; omega)
            have hKB_4 := hKB_3.step hh
            clear hh hSB3 hG3 hS3 hZ3 hKB_3
            refine hK.out _ _ ?_ (fun hHeld => ?_)
            · exact ⟨(HO.out _ hS4).2.cell 0, (HO.out _ hS4).2.cell 1⟩
            clear hK K
            try simp only [Act.put, List.setIfInBounds_toArray, List.set_cons_zero, List.set_cons_succ]
            refine wpAnyH_ready (rs := [7]) (by kernel_rfl) (by simp) ?_
            refine (AllReadyH.cons (o := ⟨_, _, _, _, _, _⟩) rfl (fun K hK => ?_) AllReadyH.nil)
            go_simp
            refine (some_c _ _ _ [⟨#[118, 49]⟩, ⟨#[118, 49]⟩, ⟨#[118, 50]⟩, ⟨#[118, 51]⟩] _ _ _ hSB4 (by omega) (by decide) (by decide) hKB_4.now (hSB4.ne hglB)).mono ?_
            rintro e w5_v ⟨v, rfl, hp, hSB5, hh⟩
            have HSv := Lib.hid (small_pick hp (by decide))
            clear hp hKB_4
            have hG5 := hG4.trans hh
            have hS5 := hS4.trans (GS.stream hh)
            have hZ5 := hZ4.grown hh (fun e => by have := Option.some.inj e; omega)
            clear hh hSB4 hG4 hS4 hZ4
            refine hK.out _ _ ?_ (fun hHeld => ?_)
            · exact ⟨(HO.out _ hS5).2.cell 0, (HO.out _ hS5).2.cell 1⟩
            clear hK K
            try simp only [Act.put, List.setIfInBounds_toArray, List.set_cons_zero, List.set_cons_succ]
            refine wpAnyH_ready (rs := [10]) (by kernel_rfl) (by simp) ?_
            refine (AllReadyH.cons (o := ⟨_, _, _, _, _, _⟩) rfl (fun K hK => ?_) AllReadyH.nil)
            go_simp
            refine (reading_c f _ s _ (by unfold bnd; omega) hSB5 (by omega)).mono ?_
            rintro e w6_r ⟨r, rfl, hr, hSB6, hh⟩
            have HBr := Lib.hid hr
            clear hr
            have hG6 := hG5.trans hh
            have hS6 := hS5.trans (GS.stream hh)
            have hZ6 := hZ5.grown hh (fun e => by have := Option.some.inj e; omega)
            clear hh hSB5 hG5 hS5 hZ5
            refine hK.out _ _ ?_ (fun hHeld => ?_)
            · exact ⟨(HO.out _ hS6).2.cell 0, (HO.out _ hS6).2.cell 1⟩
            clear hK K
            try simp only [Act.put, List.setIfInBounds_toArray, List.set_cons_zero, List.set_cons_succ]
            refine wpAnyH_ready (rs := [11]) (by kernel_rfl) (by simp) ?_
            refine (AllReadyH.cons (o := ⟨_, _, _, _, _, _⟩) rfl (fun K hK => ?_) AllReadyH.nil)
            go_simp
            refine (startOf_c (key, d, f, f + p) v r _ HSv.out HBr.out.2.1 HKS.out HSd.out (by unfold bnd; dsimp only; omega) (by unfold bnd; dsimp only; omega)).mono ?_
            rintro e w7_m ⟨H', a', n', c', rfl, hHH, hbb, hR7, hh⟩
            have HHH := Lib.hid hHH
            have HB := Lib.hid (fun k e => Nat.le_trans hS6.size (hbb k e))
            have hne7 : ∀ k, (Value.slice a' n' c').ownBlock = some k → k ≠ w1_x.heap.size := fun k e => by have := hbb k e; have := hZ6.lt; omega
            clear hHH hbb
            have hSB7 := hSB6.quiet hh
            have hG7 := hG6.trans0 hh
            have hS7 := hS6.trans (GS.of_G hh)
            have hZ7 := hZ6.quiet hh
            clear hh hSB6 hG6 hS6 hZ6
            refine hK.out _ _ ?_ (fun hHeld => ?_)
            · exact ⟨(HO.out _ hS7).2.cell 0, (HO.out _ hS7).2.cell 1⟩
            clear hK K
            try simp only [Act.put, List.setIfInBounds_toArray, List.set_cons_zero, List.set_cons_succ]
            refine wpAnyH_take (i := 12) (oi := ⟨_, _, _, _, _, _⟩) (v := ?_) rfl (by kernel_rfl) (by kernel_rfl) (by kernel_rfl) (fun _ _ _ h => h) (Or.inl ⟨by rfl, ?_⟩) (by assumption) ?_
            rotate_left
            · (intro w hSw; obtain ⟨s0, s1⟩ := hSw; (go_simp <;> with_reducible rfl))
            try simp only [Act.put, List.setIfInBounds_toArray, List.set_cons_zero, List.set_cons_succ]
            refine wpAnyH_take (i := 13) (oi := ⟨_, _, _, _, _, _⟩) (v := ?_) rfl (by kernel_rfl) (by kernel_rfl) (by kernel_rfl) (fun _ _ _ h => h) (Or.inl ⟨by rfl, ?_⟩) (by assumption) ?_
            rotate_left
            · (intro w hSw; obtain ⟨s0, s1⟩ := hSw; (go_simp <;> with_reducible rfl))
            try simp only [Act.put, List.setIfInBounds_toArray, List.set_cons_zero, List.set_cons_succ]
            refine wpAnyH_take (i := 14) (oi := ⟨_, _, _, _, _, _⟩) (v := ?_) rfl (by kernel_rfl) (by kernel_rfl) (by kernel_rfl) (fun _ _ _ h => h) (Or.inl ⟨by rfl, ?_⟩) (by assumption) ?_
            rotate_left
            · (intro w hSw; obtain ⟨s0, s1⟩ := hSw; (go_simp <;> with_reducible rfl))
            try simp only [Act.put, List.setIfInBounds_toArray, List.set_cons_zero, List.set_cons_succ]
            refine wpAnyH_ready (rs := [16]) (by kernel_rfl) (by simp) ?_
            refine (AllReadyH.cons (o := ⟨_, _, _, _, _, _⟩) rfl (fun K hK => ?_) AllReadyH.nil)
            refine st_wp rfl (wp_store_row 33 _ _ rfl (w1_x.heap.size) #[.string H'.1, .string H'.2.1, .int .i64 H'.2.2.1, .int .i64 H'.2.2.2, .slice a' n' c'] rfl rfl 33 _ hZ7 (hi_info H' _) rfl (hi_one H' a' n' c') ?_)
            have hSB8 := hSB7.setRow (r := w1_x.heap.size) (by omega) #[.string H'.1, .string H'.2.1, .int .i64 H'.2.2.1, .int .i64 H'.2.2.2, .slice a' n' c']
            have hG8 := hG7.setRow (g := w1_x.heap.size) (.inl (by omega)) #[.string H'.1, .string H'.2.1, .int .i64 H'.2.2.1, .int .i64 H'.2.2.2, .slice a' n' c']
            have hS8 := hS7.trans (GS.row (g := w1_x.heap.size) hz #[.string H'.1, .string H'.2.1, .int .i64 H'.2.2.1, .int .i64 H'.2.2.2, .slice a' n' c'])
            have hR8 := Rd.grown hR7 ((G.refl _ (some (w1_x.heap.size))).setRow (.inr rfl) #[.string H'.1, .string H'.2.1, .int .i64 H'.2.2.1, .int .i64 H'.2.2.2, .slice a' n' c']) (fun k e hk => by cases e; exact hne7 _ hk rfl)
            have hZ8 := hZ7.setRow #[.string H'.1, .string H'.2.1, .int .i64 H'.2.2.1, .int .i64 H'.2.2.2, .slice a' n' c']
            have hne8 := hne7
            clear hSB7 hG7
            refine hK.out _ _ ?_ (fun hHeld => ?_)
            · exact ⟨(HO.out _ hS8).2.cell 0, (HO.out _ hS8).2.cell 1⟩
            clear hK K
            try simp only [Act.put, List.setIfInBounds_toArray, List.set_cons_zero, List.set_cons_succ]
            refine wpAnyH_take (i := 17) (oi := ⟨_, _, _, _, _, _⟩) (v := ?_) rfl (by kernel_rfl) (by kernel_rfl) (by kernel_rfl) (fun _ _ _ h => h) (Or.inl ⟨by rfl, ?_⟩) (by assumption) ?_
            rotate_left
            · (intro w hSw; obtain ⟨s0, s1⟩ := hSw; (go_simp <;> with_reducible rfl))
            try simp only [Act.put, List.setIfInBounds_toArray, List.set_cons_zero, List.set_cons_succ]
            refine wpAnyH_done (by kernel_rfl) ?_ _
            go_wp2_with fail
            go_meet
            case rel => exact ⟨_, (key, d, f, f + p), [(v, r, noIn)], _, rfl, rfl, hv_leaf (fun e => e) HHH.out hR8 hZ8 (fun k e => ⟨by have := HB.out k e; omega, hne8 k e, hne8 k e⟩) (by omega) (fun x hx => by obtain rfl := List.mem_singleton.1 hx; exact ⟨HSv.out, HBr.out.2.1, small_nil⟩) HKS.out HSd.out (by unfold bnd; dsimp only; omega) (by unfold bnd; dsimp only; omega), (HO.out _ hS8).1, hSB8.le (by omega), hG8⟩
        · go_simp
          have hh := (G.refl wd none).alloc (.cells #[.string ⟨#[]⟩, .string ⟨#[]⟩, .int .i64 0, .int .i64 0, .slice none 0 0] 33)
          have hz : w2.heap.size ≤ wd.heap.size := hS0.size
          have hZZ := Bk.new wd 33 #[.string ⟨#[]⟩, .string ⟨#[]⟩, .int .i64 0, .int .i64 0, .slice none 0 0]
          have hSB1 := hSB0.quiet hh
          have hG1 := hG0.trans0 hh
          have hS1 := hS0.trans (GS.of_G hh)
          clear hh hSB0 hG0 hS0
          have hZ1 := hZZ
          generalize wd.alloc (.cells #[.string ⟨#[]⟩, .string ⟨#[]⟩, .int .i64 0, .int .i64 0, .slice none 0 0] 33) = w1_x at hSB1 hG1 hS1 hZ1 ⊢
          refine hK.out _ _ ?_ (fun hHeld => ?_)
          · exact ⟨(HO.out _ hS1).2.cell 0, (HO.out _ hS1).2.cell 1⟩
          clear hK K
          try simp only [Act.put, List.setIfInBounds_toArray, List.set_cons_zero, List.set_cons_succ]
          refine wpAnyH_ready (rs := [2, 6]) (by kernel_rfl) (by simp) ?_
          refine (AllReadyH.cons (o := ⟨_, _, _, _, _, _⟩) rfl (fun K hK => ?_) (AllReadyH.cons (o := ⟨_, _, _, _, _, _⟩) rfl (fun K hK => ?_) AllReadyH.nil))
          · go_simp
            have hh := (G.refl w1_x none).alloc (.cells #[.string ⟨#[97, 110, 110]⟩, .string ⟨#[97, 110, 110]⟩, .string ⟨#[98, 111, 98]⟩, .string ⟨#[99, 105, 100]⟩] 9)
            have hN := Kp.made (s := s) (w := w1_x) 4 9 #[.string ⟨#[97, 110, 110]⟩, .string ⟨#[97, 110, 110]⟩, .string ⟨#[98, 111, 98]⟩, .string ⟨#[99, 105, 100]⟩] rfl (by decide) hSB1.lt
            have hglA := hSB1.lt
            have hSB2 := hSB1.quiet hh
            have hG2 := hG1.trans0 hh
            have hS2 := hS1.trans (GS.of_G hh)
            have hZ2 := hZ1.quiet hh
            clear hh hSB1 hG1 hS1 hZ1
            have hKA_2 := hN
            clear hN
            generalize w1_x.alloc (.cells #[.string ⟨#[97, 110, 110]⟩, .string ⟨#[97, 110, 110]⟩, .string ⟨#[98, 111, 98]⟩, .string ⟨#[99, 105, 100]⟩] 9) = w2_x at hSB2 hG2 hS2 hZ2 hKA_2 ⊢
            refine hK.out _ _ ?_ (fun hHeld => ?_)
            · exact ⟨(HO.out _ hS2).2.cell 0, (HO.out _ hS2).2.cell 1⟩
            clear hK K
            try simp only [Act.put, List.setIfInBounds_toArray, List.set_cons_zero, List.set_cons_succ]
            refine wpAnyH_ready (rs := [3, 6]) (by kernel_rfl) (by simp) ?_
            refine (AllReadyH.cons (o := ⟨_, _, _, _, _, _⟩) rfl (fun K hK => ?_) (AllReadyH.cons (o := ⟨_, _, _, _, _, _⟩) rfl (fun K hK => ?_) AllReadyH.nil))
            · go_simp
              refine (some_c _ _ _ [⟨#[97, 110, 110]⟩, ⟨#[97, 110, 110]⟩, ⟨#[98, 111, 98]⟩, ⟨#[99, 105, 100]⟩] _ _ _ hSB2 (by omega) (by decide) (by decide) hKA_2.now (hSB2.ne hglA)).mono ?_
              rintro e w3_d ⟨d, rfl, hp, hSB3, hh⟩
              have HSd := Lib.hid (small_pick hp (by decide))
              clear hp hKA_2
              have hG3 := hG2.trans hh
              have hS3 := hS2.trans (GS.stream hh)
              have hZ3 := hZ2.grown hh (fun e => by have := Option.some.inj e; omega)
              clear hh hSB2 hG2 hS2 hZ2
              refine hK.out _ _ ?_ (fun hHeld => ?_)
              · exact ⟨(HO.out _ hS3).2.cell 0, (HO.out _ hS3).2.cell 1⟩
              clear hK K
              try simp only [Act.put, List.setIfInBounds_toArray, List.set_cons_zero, List.set_cons_succ]
              refine wpAnyH_ready (rs := [6]) (by kernel_rfl) (by simp) ?_
              refine (AllReadyH.cons (o := ⟨_, _, _, _, _, _⟩) rfl (fun K hK => ?_) AllReadyH.nil)
              go_simp
              have hh := (G.refl w3_d none).alloc (.cells #[.string ⟨#[118, 49]⟩, .string ⟨#[118, 49]⟩, .string ⟨#[118, 50]⟩, .string ⟨#[118, 51]⟩] 9)
              have hN := Kp.made (s := s) (w := w3_d) 4 9 #[.string ⟨#[118, 49]⟩, .string ⟨#[118, 49]⟩, .string ⟨#[118, 50]⟩, .string ⟨#[118, 51]⟩] rfl (by decide) hSB3.lt
              have hglB := hSB3.lt
              have hSB4 := hSB3.quiet hh
              have hG4 := hG3.trans0 hh
              have hS4 := hS3.trans (GS.of_G hh)
              have hZ4 := hZ3.quiet hh
              clear hh hSB3 hG3 hS3 hZ3
              have hKB_4 := hN
              clear hN
              generalize w3_d.alloc (.cells #[.string ⟨#[118, 49]⟩, .string ⟨#[118, 49]⟩, .string ⟨#[118, 50]⟩, .string ⟨#[118, 51]⟩] 9) = w4_x at hSB4 hG4 hS4 hZ4 hKB_4 ⊢
              refine hK.out _ _ ?_ (fun hHeld => ?_)
              · exact ⟨(HO.out _ hS4).2.cell 0, (HO.out _ hS4).2.cell 1⟩
              clear hK K
              try simp only [Act.put, List.setIfInBounds_toArray, List.set_cons_zero, List.set_cons_succ]
              refine wpAnyH_ready (rs := [7]) (by kernel_rfl) (by simp) ?_
              refine (AllReadyH.cons (o := ⟨_, _, _, _, _, _⟩) rfl (fun K hK => ?_) AllReadyH.nil)
              go_simp
              refine (some_c _ _ _ [⟨#[118, 49]⟩, ⟨#[118, 49]⟩, ⟨#[118, 50]⟩, ⟨#[118, 51]⟩] _ _ _ hSB4 (by omega) (by decide) (by decide) hKB_4.now (hSB4.ne hglB)).mono ?_
              rintro e w5_v ⟨v, rfl, hp, hSB5, hh⟩
              have HSv := Lib.hid (small_pick hp (by decide))
              clear hp hKB_4
              have hG5 := hG4.trans hh
              have hS5 := hS4.trans (GS.stream hh)
              have hZ5 := hZ4.grown hh (fun e => by have := Option.some.inj e; omega)
              clear hh hSB4 hG4 hS4 hZ4
              refine hK.out _ _ ?_ (fun hHeld => ?_)
              · exact ⟨(HO.out _ hS5).2.cell 0, (HO.out _ hS5).2.cell 1⟩
              clear hK K
              try simp only [Act.put, List.setIfInBounds_toArray, List.set_cons_zero, List.set_cons_succ]
              refine wpAnyH_ready (rs := [10]) (by kernel_rfl) (by simp) ?_
              refine (AllReadyH.cons (o := ⟨_, _, _, _, _, _⟩) rfl (fun K hK => ?_) AllReadyH.nil)
              go_simp
              refine (reading_c f _ s _ (by unfold bnd; omega) hSB5 (by omega)).mono ?_
              rintro e w6_r ⟨r, rfl, hr, hSB6, hh⟩
              have HBr := Lib.hid hr
              clear hr
              have hG6 := hG5.trans hh
              have hS6 := hS5.trans (GS.stream hh)
              have hZ6 := hZ5.grown hh (fun e => by have := Option.some.inj e; omega)
              clear hh hSB5 hG5 hS5 hZ5
              refine hK.out _ _ ?_ (fun hHeld => ?_)
              · exact ⟨(HO.out _ hS6).2.cell 0, (HO.out _ hS6).2.cell 1⟩
              clear hK K
              try simp only [Act.put, List.setIfInBounds_toArray, List.set_cons_zero, List.set_cons_succ]
              refine wpAnyH_ready (rs := [11]) (by kernel_rfl) (by simp) ?_
              refine (AllReadyH.cons (o := ⟨_, _, _, _, _, _⟩) rfl (fun K hK => ?_) AllReadyH.nil)
              go_simp
              refine (startOf_c (key, d, f, f + p) v r _ HSv.out HBr.out.2.1 HKS.out HSd.out (by unfold bnd; dsimp only; omega) (by unfold bnd; dsimp only; omega)).mono ?_
              rintro e w7_m ⟨H', a', n', c', rfl, hHH, hbb, hR7, hh⟩
              have HHH := Lib.hid hHH
              have HB := Lib.hid (fun k e => Nat.le_trans hS6.size (hbb k e))
              have hne7 : ∀ k, (Value.slice a' n' c').ownBlock = some k → k ≠ wd.heap.size := fun k e => by have := hbb k e; have := hZ6.lt; omega
              clear hHH hbb
              have hSB7 := hSB6.quiet hh
              have hG7 := hG6.trans0 hh
              have hS7 := hS6.trans (GS.of_G hh)
              have hZ7 := hZ6.quiet hh
              clear hh hSB6 hG6 hS6 hZ6
              refine hK.out _ _ ?_ (fun hHeld => ?_)
              · exact ⟨(HO.out _ hS7).2.cell 0, (HO.out _ hS7).2.cell 1⟩
              clear hK K
              try simp only [Act.put, List.setIfInBounds_toArray, List.set_cons_zero, List.set_cons_succ]
              refine wpAnyH_take (i := 12) (oi := ⟨_, _, _, _, _, _⟩) (v := ?_) rfl (by kernel_rfl) (by kernel_rfl) (by kernel_rfl) (fun _ _ _ h => h) (Or.inl ⟨by rfl, ?_⟩) (by assumption) ?_
              rotate_left
              · (intro w hSw; obtain ⟨s0, s1⟩ := hSw; (go_simp <;> with_reducible rfl))
              try simp only [Act.put, List.setIfInBounds_toArray, List.set_cons_zero, List.set_cons_succ]
              refine wpAnyH_take (i := 13) (oi := ⟨_, _, _, _, _, _⟩) (v := ?_) rfl (by kernel_rfl) (by kernel_rfl) (by kernel_rfl) (fun _ _ _ h => h) (Or.inl ⟨by rfl, ?_⟩) (by assumption) ?_
              rotate_left
              · (intro w hSw; obtain ⟨s0, s1⟩ := hSw; (go_simp <;> with_reducible rfl))
              try simp only [Act.put, List.setIfInBounds_toArray, List.set_cons_zero, List.set_cons_succ]
              refine wpAnyH_take (i := 14) (oi := ⟨_, _, _, _, _, _⟩) (v := ?_) rfl (by kernel_rfl) (by kernel_rfl) (by kernel_rfl) (fun _ _ _ h => h) (Or.inl ⟨by rfl, ?_⟩) (by assumption) ?_
              rotate_left
              · (intro w hSw; obtain ⟨s0, s1⟩ := hSw; (go_simp <;> with_reducible rfl))
              try simp only [Act.put, List.setIfInBounds_toArray, List.set_cons_zero, List.set_cons_succ]
              refine wpAnyH_ready (rs := [16]) (by kernel_rfl) (by simp) ?_
              refine (AllReadyH.cons (o := ⟨_, _, _, _, _, _⟩) rfl (fun K hK => ?_) AllReadyH.nil)
              refine st_wp rfl (wp_store_row 33 _ _ rfl (wd.heap.size) #[.string H'.1, .string H'.2.1, .int .i64 H'.2.2.1, .int .i64 H'.2.2.2, .slice a' n' c'] rfl rfl 33 _ hZ7 (hi_info H' _) rfl (hi_one H' a' n' c') ?_)
              have hSB8 := hSB7.setRow (r := wd.heap.size) (by omega) #[.string H'.1, .string H'.2.1, .int .i64 H'.2.2.1, .int .i64 H'.2.2.2, .slice a' n' c']
              have hG8 := hG7.setRow (g := wd.heap.size) (.inl (by omega)) #[.string H'.1, .string H'.2.1, .int .i64 H'.2.2.1, .int .i64 H'.2.2.2, .slice a' n' c']
              have hS8 := hS7.trans (GS.row (g := wd.heap.size) hz #[.string H'.1, .string H'.2.1, .int .i64 H'.2.2.1, .int .i64 H'.2.2.2, .slice a' n' c'])
              have hR8 := Rd.grown hR7 ((G.refl _ (some (wd.heap.size))).setRow (.inr rfl) #[.string H'.1, .string H'.2.1, .int .i64 H'.2.2.1, .int .i64 H'.2.2.2, .slice a' n' c']) (fun k e hk => by cases e; exact hne7 _ hk rfl)
              have hZ8 := hZ7.setRow #[.string H'.1, .string H'.2.1, .int .i64 H'.2.2.1, .int .i64 H'.2.2.2, .slice a' n' c']
              have hne8 := hne7
              clear hSB7 hG7
              refine hK.out _ _ ?_ (fun hHeld => ?_)
              · exact ⟨(HO.out _ hS8).2.cell 0, (HO.out _ hS8).2.cell 1⟩
              clear hK K
              try simp only [Act.put, List.setIfInBounds_toArray, List.set_cons_zero, List.set_cons_succ]
              refine wpAnyH_take (i := 17) (oi := ⟨_, _, _, _, _, _⟩) (v := ?_) rfl (by kernel_rfl) (by kernel_rfl) (by kernel_rfl) (fun _ _ _ h => h) (Or.inl ⟨by rfl, ?_⟩) (by assumption) ?_
              rotate_left
              · (intro w hSw; obtain ⟨s0, s1⟩ := hSw; (go_simp <;> with_reducible rfl))
              try simp only [Act.put, List.setIfInBounds_toArray, List.set_cons_zero, List.set_cons_succ]
              refine wpAnyH_done (by kernel_rfl) ?_ _
              go_wp2_with fail
              go_meet
              case rel => exact ⟨_, (key, d, f, f + p), [(v, r, noIn)], _, rfl, rfl, hv_leaf (fun e => e) HHH.out hR8 hZ8 (fun k e => ⟨by have := HB.out k e; omega, hne8 k e, hne8 k e⟩) (by omega) (fun x hx => by obtain rfl := List.mem_singleton.1 hx; exact ⟨HSv.out, HBr.out.2.1, small_nil⟩) HKS.out HSd.out (by unfold bnd; dsimp only; omega) (by unfold bnd; dsimp only; omega), (HO.out _ hS8).1, hSB8.le (by omega), hG8⟩
            · go_simp
              have hh := (G.refl w2_x none).alloc (.cells #[.string ⟨#[118, 49]⟩, .string ⟨#[118, 49]⟩, .string ⟨#[118, 50]⟩, .string ⟨#[118, 51]⟩] 9)
              have hN := Kp.made (s := s) (w := w2_x) 4 9 #[.string ⟨#[118, 49]⟩, .string ⟨#[118, 49]⟩, .string ⟨#[118, 50]⟩, .string ⟨#[118, 51]⟩] rfl (by decide) hSB2.lt
              have hglB := hSB2.lt
              have hSB3 := hSB2.quiet hh
              have hG3 := hG2.trans0 hh
              have hS3 := hS2.trans (GS.of_G hh)
              have hZ3 := hZ2.quiet hh
              have hKA_3 := hKA_2.quiet hh
              clear hh hSB2 hG2 hS2 hZ2 hKA_2
              have hKB_3 := hN
              clear hN
              generalize w2_x.alloc (.cells #[.string ⟨#[118, 49]⟩, .string ⟨#[118, 49]⟩, .string ⟨#[118, 50]⟩, .string ⟨#[118, 51]⟩] 9) = w3_x at hSB3 hG3 hS3 hZ3 hKA_3 hKB_3 ⊢
              refine hK.out _ _ ?_ (fun hHeld => ?_)
              · exact ⟨(HO.out _ hS3).2.cell 0, (HO.out _ hS3).2.cell 1⟩
              clear hK K
              try simp only [Act.put, List.setIfInBounds_toArray, List.set_cons_zero, List.set_cons_succ]
              refine wpAnyH_ready (rs := [3]) (by kernel_rfl) (by simp) ?_
              refine (AllReadyH.cons (o := ⟨_, _, _, _, _, _⟩) rfl (fun K hK => ?_) AllReadyH.nil)
              go_simp
              refine (some_c _ _ _ [⟨#[97, 110, 110]⟩, ⟨#[97, 110, 110]⟩, ⟨#[98, 111, 98]⟩, ⟨#[99, 105, 100]⟩] _ _ _ hSB3 (by omega) (by decide) (by decide) hKA_3.now (hSB3.ne hglA)).mono ?_
              rintro e w4_d ⟨d, rfl, hp, hSB4, hh⟩
              have HSd := Lib.hid (small_pick hp (by decide))
              clear hp hKA_3
              have hG4 := hG3.trans hh
              have hS4 := hS3.trans (GS.stream hh)
              have hZ4 := hZ3.grown hh (fun e => by have := Option.some.inj e; omega)
              have hKB_4 := hKB_3.step hh
              clear hh hSB3 hG3 hS3 hZ3 hKB_3
              refine hK.out _ _ ?_ (fun hHeld => ?_)
              · exact ⟨(HO.out _ hS4).2.cell 0, (HO.out _ hS4).2.cell 1⟩
              clear hK K
              try simp only [Act.put, List.setIfInBounds_toArray, List.set_cons_zero, List.set_cons_succ]
              refine wpAnyH_ready (rs := [7]) (by kernel_rfl) (by simp) ?_
              refine (AllReadyH.cons (o := ⟨_, _, _, _, _, _⟩) rfl (fun K hK => ?_) AllReadyH.nil)
              go_simp
              refine (some_c _ _ _ [⟨#[118, 49]⟩, ⟨#[118, 49]⟩, ⟨#[118, 50]⟩, ⟨#[118, 51]⟩] _ _ _ hSB4 (by omega) (by decide) (by decide) hKB_4.now (hSB4.ne hglB)).mono ?_
              rintro e w5_v ⟨v, rfl, hp, hSB5, hh⟩
              have HSv := Lib.hid (small_pick hp (by decide))
              clear hp hKB_4
              have hG5 := hG4.trans hh
              have hS5 := hS4.trans (GS.stream hh)
              have hZ5 := hZ4.grown hh (fun e => by have := Option.some.inj e; omega)
              clear hh hSB4 hG4 hS4 hZ4
              refine hK.out _ _ ?_ (fun hHeld => ?_)
              · exact ⟨(HO.out _ hS5).2.cell 0, (HO.out _ hS5).2.cell 1⟩
              clear hK K
              try simp only [Act.put, List.setIfInBounds_toArray, List.set_cons_zero, List.set_cons_succ]
              refine wpAnyH_ready (rs := [10]) (by kernel_rfl) (by simp) ?_
              refine (AllReadyH.cons (o := ⟨_, _, _, _, _, _⟩) rfl (fun K hK => ?_) AllReadyH.nil)
              go_simp
              refine (reading_c f _ s _ (by unfold bnd; omega) hSB5 (by omega)).mono ?_
              rintro e w6_r ⟨r, rfl, hr, hSB6, hh⟩
              have HBr := Lib.hid hr
              clear hr
              have hG6 := hG5.trans hh
              have hS6 := hS5.trans (GS.stream hh)
              have hZ6 := hZ5.grown hh (fun e => by have := Option.some.inj e; omega)
              clear hh hSB5 hG5 hS5 hZ5
              refine hK.out _ _ ?_ (fun hHeld => ?_)
              · exact ⟨(HO.out _ hS6).2.cell 0, (HO.out _ hS6).2.cell 1⟩
              clear hK K
              try simp only [Act.put, List.setIfInBounds_toArray, List.set_cons_zero, List.set_cons_succ]
              refine wpAnyH_ready (rs := [11]) (by kernel_rfl) (by simp) ?_
              refine (AllReadyH.cons (o := ⟨_, _, _, _, _, _⟩) rfl (fun K hK => ?_) AllReadyH.nil)
              go_simp
              refine (startOf_c (key, d, f, f + p) v r _ HSv.out HBr.out.2.1 HKS.out HSd.out (by unfold bnd; dsimp only; omega) (by unfold bnd; dsimp only; omega)).mono ?_
              rintro e w7_m ⟨H', a', n', c', rfl, hHH, hbb, hR7, hh⟩
              have HHH := Lib.hid hHH
              have HB := Lib.hid (fun k e => Nat.le_trans hS6.size (hbb k e))
              have hne7 : ∀ k, (Value.slice a' n' c').ownBlock = some k → k ≠ wd.heap.size := fun k e => by have := hbb k e; have := hZ6.lt; omega
              clear hHH hbb
              have hSB7 := hSB6.quiet hh
              have hG7 := hG6.trans0 hh
              have hS7 := hS6.trans (GS.of_G hh)
              have hZ7 := hZ6.quiet hh
              clear hh hSB6 hG6 hS6 hZ6
              refine hK.out _ _ ?_ (fun hHeld => ?_)
              · exact ⟨(HO.out _ hS7).2.cell 0, (HO.out _ hS7).2.cell 1⟩
              clear hK K
              try simp only [Act.put, List.setIfInBounds_toArray, List.set_cons_zero, List.set_cons_succ]
              refine wpAnyH_take (i := 12) (oi := ⟨_, _, _, _, _, _⟩) (v := ?_) rfl (by kernel_rfl) (by kernel_rfl) (by kernel_rfl) (fun _ _ _ h => h) (Or.inl ⟨by rfl, ?_⟩) (by assumption) ?_
              rotate_left
              · (intro w hSw; obtain ⟨s0, s1⟩ := hSw; (go_simp <;> with_reducible rfl))
              try simp only [Act.put, List.setIfInBounds_toArray, List.set_cons_zero, List.set_cons_succ]
              refine wpAnyH_take (i := 13) (oi := ⟨_, _, _, _, _, _⟩) (v := ?_) rfl (by kernel_rfl) (by kernel_rfl) (by kernel_rfl) (fun _ _ _ h => h) (Or.inl ⟨by rfl, ?_⟩) (by assumption) ?_
              rotate_left
              · (intro w hSw; obtain ⟨s0, s1⟩ := hSw; (go_simp <;> with_reducible rfl))
              try simp only [Act.put, List.setIfInBounds_toArray, List.set_cons_zero, List.set_cons_succ]
              refine wpAnyH_take (i := 14) (oi := ⟨_, _, _, _, _, _⟩) (v := ?_) rfl (by kernel_rfl) (by kernel_rfl) (by kernel_rfl) (fun _ _ _ h => h) (Or.inl ⟨by rfl, ?_⟩) (by assumption) ?_
              rotate_left
              · (intro w hSw; obtain ⟨s0, s1⟩ := hSw; (go_simp <;> with_reducible rfl))
              try simp only [Act.put, List.setIfInBounds_toArray, List.set_cons_zero, List.set_cons_succ]
              refine wpAnyH_ready (rs := [16]) (by kernel_rfl) (by simp) ?_
              refine (AllReadyH.cons (o := ⟨_, _, _, _, _, _⟩) rfl (fun K hK => ?_) AllReadyH.nil)
              refine st_wp rfl (wp_store_row 33 _ _ rfl (wd.heap.size) #[.string H'.1, .string H'.2.1, .int .i64 H'.2.2.1, .int .i64 H'.2.2.2, .slice a' n' c'] rfl rfl 33 _ hZ7 (hi_info H' _) rfl (hi_one H' a' n' c') ?_)
              have hSB8 := hSB7.setRow (r := wd.heap.size) (by omega) #[.string H'.1, .string H'.2.1, .int .i64 H'.2.2.1, .int .i64 H'.2.2.2, .slice a' n' c']
              have hG8 := hG7.setRow (g := wd.heap.size) (.inl (by omega)) #[.string H'.1, .string H'.2.1, .int .i64 H'.2.2.1, .int .i64 H'.2.2.2, .slice a' n' c']
              have hS8 := hS7.trans (GS.row (g := wd.heap.size) hz #[.string H'.1, .string H'.2.1, .int .i64 H'.2.2.1, .int .i64 H'.2.2.2, .slice a' n' c'])
              have hR8 := Rd.grown hR7 ((G.refl _ (some (wd.heap.size))).setRow (.inr rfl) #[.string H'.1, .string H'.2.1, .int .i64 H'.2.2.1, .int .i64 H'.2.2.2, .slice a' n' c']) (fun k e hk => by cases e; exact hne7 _ hk rfl)
              have hZ8 := hZ7.setRow #[.string H'.1, .string H'.2.1, .int .i64 H'.2.2.1, .int .i64 H'.2.2.2, .slice a' n' c']
              have hne8 := hne7
              clear hSB7 hG7
              refine hK.out _ _ ?_ (fun hHeld => ?_)
              · exact ⟨(HO.out _ hS8).2.cell 0, (HO.out _ hS8).2.cell 1⟩
              clear hK K
              try simp only [Act.put, List.setIfInBounds_toArray, List.set_cons_zero, List.set_cons_succ]
              refine wpAnyH_take (i := 17) (oi := ⟨_, _, _, _, _, _⟩) (v := ?_) rfl (by kernel_rfl) (by kernel_rfl) (by kernel_rfl) (fun _ _ _ h => h) (Or.inl ⟨by rfl, ?_⟩) (by assumption) ?_
              rotate_left
              · (intro w hSw; obtain ⟨s0, s1⟩ := hSw; (go_simp <;> with_reducible rfl))
              try simp only [Act.put, List.setIfInBounds_toArray, List.set_cons_zero, List.set_cons_succ]
              refine wpAnyH_done (by kernel_rfl) ?_ _
              go_wp2_with fail
              go_meet
              case rel => exact ⟨_, (key, d, f, f + p), [(v, r, noIn)], _, rfl, rfl, hv_leaf (fun e => e) HHH.out hR8 hZ8 (fun k e => ⟨by have := HB.out k e; omega, hne8 k e, hne8 k e⟩) (by omega) (fun x hx => by obtain rfl := List.mem_singleton.1 hx; exact ⟨HSv.out, HBr.out.2.1, small_nil⟩) HKS.out HSd.out (by unfold bnd; dsimp only; omega) (by unfold bnd; dsimp only; omega), (HO.out _ hS8).1, hSB8.le (by omega), hG8⟩
          · go_simp
            have hh := (G.refl w1_x none).alloc (.cells #[.string ⟨#[118, 49]⟩, .string ⟨#[118, 49]⟩, .string ⟨#[118, 50]⟩, .string ⟨#[118, 51]⟩] 9)
            have hN := Kp.made (s := s) (w := w1_x) 4 9 #[.string ⟨#[118, 49]⟩, .string ⟨#[118, 49]⟩, .string ⟨#[118, 50]⟩, .string ⟨#[118, 51]⟩] rfl (by decide) hSB1.lt
            have hglB := hSB1.lt
            have hSB2 := hSB1.quiet hh
            have hG2 := hG1.trans0 hh
            have hS2 := hS1.trans (GS.of_G hh)
            have hZ2 := hZ1.quiet hh
            clear hh hSB1 hG1 hS1 hZ1
            have hKB_2 := hN
            clear hN
            generalize w1_x.alloc (.cells #[.string ⟨#[118, 49]⟩, .string ⟨#[118, 49]⟩, .string ⟨#[118, 50]⟩, .string ⟨#[118, 51]⟩] 9) = w2_x at hSB2 hG2 hS2 hZ2 hKB_2 ⊢
            refine hK.out _ _ ?_ (fun hHeld => ?_)
            · exact ⟨(HO.out _ hS2).2.cell 0, (HO.out _ hS2).2.cell 1⟩
            clear hK K
            try simp only [Act.put, List.setIfInBounds_toArray, List.set_cons_zero, List.set_cons_succ]
            refine wpAnyH_ready (rs := [2]) (by kernel_rfl) (by simp) ?_
            refine (AllReadyH.cons (o := ⟨_, _, _, _, _, _⟩) rfl (fun K hK => ?_) AllReadyH.nil)
            go_simp
            have hh := (G.refl w2_x none).alloc (.cells #[.string ⟨#[97, 110, 110]⟩, .string ⟨#[97, 110, 110]⟩, .string ⟨#[98, 111, 98]⟩, .string ⟨#[99, 105, 100]⟩] 9)
            have hN := Kp.made (s := s) (w := w2_x) 4 9 #[.string ⟨#[97, 110, 110]⟩, .string ⟨#[97, 110, 110]⟩, .string ⟨#[98, 111, 98]⟩, .string ⟨#[99, 105, 100]⟩] rfl (by decide) hSB2.lt
            have hglA := hSB2.lt
            have hSB3 := hSB2.quiet hh
            have hG3 := hG2.trans0 hh
            have hS3 := hS2.trans (GS.of_G hh)
            have hZ3 := hZ2.quiet hh
            have hKB_3 := hKB_2.quiet hh
            clear hh hSB2 hG2 hS2 hZ2 hKB_2
            have hKA_3 := hN
            clear hN
            generalize w2_x.alloc (.cells #[.string ⟨#[97, 110, 110]⟩, .string ⟨#[97, 110, 110]⟩, .string ⟨#[98, 111, 98]⟩, .string ⟨#[99, 105, 100]⟩] 9) = w3_x at hSB3 hG3 hS3 hZ3 hKA_3 hKB_3 ⊢
            refine hK.out _ _ ?_ (fun hHeld => ?_)
            · exact ⟨(HO.out _ hS3).2.cell 0, (HO.out _ hS3).2.cell 1⟩
            clear hK K
            try simp only [Act.put, List.setIfInBounds_toArray, List.set_cons_zero, List.set_cons_succ]
            refine wpAnyH_ready (rs := [3]) (by kernel_rfl) (by simp) ?_
            refine (AllReadyH.cons (o := ⟨_, _, _, _, _, _⟩) rfl (fun K hK => ?_) AllReadyH.nil)
            go_simp
            refine (some_c _ _ _ [⟨#[97, 110, 110]⟩, ⟨#[97, 110, 110]⟩, ⟨#[98, 111, 98]⟩, ⟨#[99, 105, 100]⟩] _ _ _ hSB3 (by omega) (by decide) (by decide) hKA_3.now (hSB3.ne hglA)).mono ?_
            rintro e w4_d ⟨d, rfl, hp, hSB4, hh⟩
            have HSd := Lib.hid (small_pick hp (by decide))
            clear hp hKA_3
            have hG4 := hG3.trans hh
            have hS4 := hS3.trans (GS.stream hh)
            have hZ4 := hZ3.grown hh (fun e => by have := Option.some.inj e; omega)
            have hKB_4 := hKB_3.step hh
            clear hh hSB3 hG3 hS3 hZ3 hKB_3
            refine hK.out _ _ ?_ (fun hHeld => ?_)
            · exact ⟨(HO.out _ hS4).2.cell 0, (HO.out _ hS4).2.cell 1⟩
            clear hK K
            try simp only [Act.put, List.setIfInBounds_toArray, List.set_cons_zero, List.set_cons_succ]
            refine wpAnyH_ready (rs := [7]) (by kernel_rfl) (by simp) ?_
            refine (AllReadyH.cons (o := ⟨_, _, _, _, _, _⟩) rfl (fun K hK => ?_) AllReadyH.nil)
            go_simp
            refine (some_c _ _ _ [⟨#[118, 49]⟩, ⟨#[118, 49]⟩, ⟨#[118, 50]⟩, ⟨#[118, 51]⟩] _ _ _ hSB4 (by omega) (by decide) (by decide) hKB_4.now (hSB4.ne hglB)).mono ?_
            rintro e w5_v ⟨v, rfl, hp, hSB5, hh⟩
            have HSv := Lib.hid (small_pick hp (by decide))
            clear hp hKB_4
            have hG5 := hG4.trans hh
            have hS5 := hS4.trans (GS.stream hh)
            have hZ5 := hZ4.grown hh (fun e => by have := Option.some.inj e; omega)
            clear hh hSB4 hG4 hS4 hZ4
            refine hK.out _ _ ?_ (fun hHeld => ?_)
            · exact ⟨(HO.out _ hS5).2.cell 0, (HO.out _ hS5).2.cell 1⟩
            clear hK K
            try simp only [Act.put, List.setIfInBounds_toArray, List.set_cons_zero, List.set_cons_succ]
            refine wpAnyH_ready (rs := [10]) (by kernel_rfl) (by simp) ?_
            refine (AllReadyH.cons (o := ⟨_, _, _, _, _, _⟩) rfl (fun K hK => ?_) AllReadyH.nil)
            go_simp
            refine (reading_c f _ s _ (by unfold bnd; omega) hSB5 (by omega)).mono ?_
            rintro e w6_r ⟨r, rfl, hr, hSB6, hh⟩
            have HBr := Lib.hid hr
            clear hr
            have hG6 := hG5.trans hh
            have hS6 := hS5.trans (GS.stream hh)
            have hZ6 := hZ5.grown hh (fun e => by have := Option.some.inj e; omega)
            clear hh hSB5 hG5 hS5 hZ5
            refine hK.out _ _ ?_ (fun hHeld => ?_)
            · exact ⟨(HO.out _ hS6).2.cell 0, (HO.out _ hS6).2.cell 1⟩
            clear hK K
            try simp only [Act.put, List.setIfInBounds_toArray, List.set_cons_zero, List.set_cons_succ]
            refine wpAnyH_ready (rs := [11]) (by kernel_rfl) (by simp) ?_
            refine (AllReadyH.cons (o := ⟨_, _, _, _, _, _⟩) rfl (fun K hK => ?_) AllReadyH.nil)
            go_simp
            refine (startOf_c (key, d, f, f + p) v r _ HSv.out HBr.out.2.1 HKS.out HSd.out (by unfold bnd; dsimp only; omega) (by unfold bnd; dsimp only; omega)).mono ?_
            rintro e w7_m ⟨H', a', n', c', rfl, hHH, hbb, hR7, hh⟩
            have HHH := Lib.hid hHH
            have HB := Lib.hid (fun k e => Nat.le_trans hS6.size (hbb k e))
            have hne7 : ∀ k, (Value.slice a' n' c').ownBlock = some k → k ≠ wd.heap.size := fun k e => by have := hbb k e; have := hZ6.lt; omega
            clear hHH hbb
            have hSB7 := hSB6.quiet hh
            have hG7 := hG6.trans0 hh
            have hS7 := hS6.trans (GS.of_G hh)
            have hZ7 := hZ6.quiet hh
            clear hh hSB6 hG6 hS6 hZ6
            refine hK.out _ _ ?_ (fun hHeld => ?_)
            · exact ⟨(HO.out _ hS7).2.cell 0, (HO.out _ hS7).2.cell 1⟩
            clear hK K
            try simp only [Act.put, List.setIfInBounds_toArray, List.set_cons_zero, List.set_cons_succ]
            refine wpAnyH_take (i := 12) (oi := ⟨_, _, _, _, _, _⟩) (v := ?_) rfl (by kernel_rfl) (by kernel_rfl) (by kernel_rfl) (fun _ _ _ h => h) (Or.inl ⟨by rfl, ?_⟩) (by assumption) ?_
            rotate_left
            · (intro w hSw; obtain ⟨s0, s1⟩ := hSw; (go_simp <;> with_reducible rfl))
            try simp only [Act.put, List.setIfInBounds_toArray, List.set_cons_zero, List.set_cons_succ]
            refine wpAnyH_take (i := 13) (oi := ⟨_, _, _, _, _, _⟩) (v := ?_) rfl (by kernel_rfl) (by kernel_rfl) (by kernel_rfl) (fun _ _ _ h => h) (Or.inl ⟨by rfl, ?_⟩) (by assumption) ?_
            rotate_left
            · (intro w hSw; obtain ⟨s0, s1⟩ := hSw; (go_simp <;> with_reducible rfl))
            try simp only [Act.put, List.setIfInBounds_toArray, List.set_cons_zero, List.set_cons_succ]
            refine wpAnyH_take (i := 14) (oi := ⟨_, _, _, _, _, _⟩) (v := ?_) rfl (by kernel_rfl) (by kernel_rfl) (by kernel_rfl) (fun _ _ _ h => h) (Or.inl ⟨by rfl, ?_⟩) (by assumption) ?_
            rotate_left
            · (intro w hSw; obtain ⟨s0, s1⟩ := hSw; (go_simp <;> with_reducible rfl))
            try simp only [Act.put, List.setIfInBounds_toArray, List.set_cons_zero, List.set_cons_succ]
            refine wpAnyH_ready (rs := [16]) (by kernel_rfl) (by simp) ?_
            refine (AllReadyH.cons (o := ⟨_, _, _, _, _, _⟩) rfl (fun K hK => ?_) AllReadyH.nil)
            refine st_wp rfl (wp_store_row 33 _ _ rfl (wd.heap.size) #[.string H'.1, .string H'.2.1, .int .i64 H'.2.2.1, .int .i64 H'.2.2.2, .slice a' n' c'] rfl rfl 33 _ hZ7 (hi_info H' _) rfl (hi_one H' a' n' c') ?_)
            have hSB8 := hSB7.setRow (r := wd.heap.size) (by omega) #[.string H'.1, .string H'.2.1, .int .i64 H'.2.2.1, .int .i64 H'.2.2.2, .slice a' n' c']
            have hG8 := hG7.setRow (g := wd.heap.size) (.inl (by omega)) #[.string H'.1, .string H'.2.1, .int .i64 H'.2.2.1, .int .i64 H'.2.2.2, .slice a' n' c']
            have hS8 := hS7.trans (GS.row (g := wd.heap.size) hz #[.string H'.1, .string H'.2.1, .int .i64 H'.2.2.1, .int .i64 H'.2.2.2, .slice a' n' c'])
            have hR8 := Rd.grown hR7 ((G.refl _ (some (wd.heap.size))).setRow (.inr rfl) #[.string H'.1, .string H'.2.1, .int .i64 H'.2.2.1, .int .i64 H'.2.2.2, .slice a' n' c']) (fun k e hk => by cases e; exact hne7 _ hk rfl)
            have hZ8 := hZ7.setRow #[.string H'.1, .string H'.2.1, .int .i64 H'.2.2.1, .int .i64 H'.2.2.2, .slice a' n' c']
            have hne8 := hne7
            clear hSB7 hG7
            refine hK.out _ _ ?_ (fun hHeld => ?_)
            · exact ⟨(HO.out _ hS8).2.cell 0, (HO.out _ hS8).2.cell 1⟩
            clear hK K
            try simp only [Act.put, List.setIfInBounds_toArray, List.set_cons_zero, List.set_cons_succ]
            refine wpAnyH_take (i := 17) (oi := ⟨_, _, _, _, _, _⟩) (v := ?_) rfl (by kernel_rfl) (by kernel_rfl) (by kernel_rfl) (fun _ _ _ h => h) (Or.inl ⟨by rfl, ?_⟩) (by assumption) ?_
            rotate_left
            · (intro w hSw; obtain ⟨s0, s1⟩ := hSw; (go_simp <;> with_reducible rfl))
            try simp only [Act.put, List.setIfInBounds_toArray, List.set_cons_zero, List.set_cons_succ]
            refine wpAnyH_done (by kernel_rfl) ?_ _
            go_wp2_with fail
            go_meet
            case rel => exact ⟨_, (key, d, f, f + p), [(v, r, noIn)], _, rfl, rfl, hv_leaf (fun e => e) HHH.out hR8 hZ8 (fun k e => ⟨by have := HB.out k e; omega, hne8 k e, hne8 k e⟩) (by omega) (fun x hx => by obtain rfl := List.mem_singleton.1 hx; exact ⟨HSv.out, HBr.out.2.1, small_nil⟩) HKS.out HSd.out (by unfold bnd; dsimp only; omega) (by unfold bnd; dsimp only; omega), (HO.out _ hS8).1, hSB8.le (by omega), hG8⟩
      case rest =>
        obtain ⟨g8, H, l, E, rfl, rfl, hE, hB, hSB, hG⟩ := hcut
        clear HO hw hpb hn2 hn1 hs1
        by_cases k1 : E = 0
        · obtain ⟨hok, hv⟩ := hE k1
          have HOK := Lib.hid hok
          subst k1
          clear hE hok
          have hv8 : s < g8 ∧ w.heap.size < g8 := by obtain ⟨_, _, _, _, _, q⟩ := hv; omega
          go_wp2_with fail
          refine (pick_c _ _ _ [0, 0, 1, 2] _ _ _ (hSB.alloc _) (by omega) (by decide) (by decide) (Rd.newAt _ rfl rfl (by decide)) (hSB.newAt _ _ _ (Nat.le_refl _))).mono ?_; rintro e w3 ⟨m, rfl, hp, hSB3, hG3⟩
          have hmb : 0 ≤ m ∧ m ≤ 2 := by simp only [List.mem_cons, List.mem_nil_iff, or_false] at hp; omega
          have hh := ((G.refl wc (some s)).alloc (.cells _ 3)).trans hG3
          have hv3 := hv.ks (s := s) (by omega) _ (GS.stream hh)
          have hB3 := hB.grown hh (fun e => by have := Option.some.inj e; omega)
          have hG03 := hG.trans hh
          clear hv hB hSB hG hG3 hh hp
          obtain ⟨n, rfl⟩ := Int.eq_ofNat_of_zero_le hmb.1
          have hn2 : n ≤ 2 := by omega
          clear hmb
          go_wp2_with fail
          go_loopg [10, 49] n (fun gi s10 s49 wr => RhIn w s (K + 100 * k + 22) f g8 n gi s10 s49 wr)
          case atStart => exact ⟨0, f, H, l, by omega, rfl, rfl, rfl, by omega, HOK.out, hv3, hB3, hSB3.le (by omega), hG03⟩
          case round =>
            clear hv3 hB3 hSB3 hG03 HOK
            obtain ⟨j, t, H, l, hjn, rfl, rfl, rfl, ht, hok, hv, hB, hSB, hG⟩ := hrel
            have HOK := Lib.hid hok
            clear hok
            by_cases hj2 : j < n
            · have HJ := Lib.hid hj2
              have hji : (j : Int) < (n : Int) := by omega
              go_wp2_with fail
              refine (pick_c _ _ _ [1, 30, 100, 500] _ _ _ (hSB.alloc _) (by omega) (by decide) (by decide) (Rd.newAt _ rfl rfl (by decide)) (hSB.newAt _ _ _ (Nat.le_refl _))).mono ?_; rintro e w4 ⟨d, rfl, hp, hSB4, hG4⟩
              have hdb : 1 ≤ d ∧ d ≤ 500 := by simp only [List.mem_cons, List.mem_nil_iff, or_false] at hp; omega
              have hw : IntKind.i64.wrap (t + d) = t + d := by rw [IntKind.wrap_i64]; omega
              have hh := ((G.refl wr (some s)).alloc (.cells _ 3)).trans hG4
              have hv4 := hv.ks (s := s) (by omega) _ (GS.stream hh)
              have hB4 := hB.grown hh (fun e => by have := Option.some.inj e; omega)
              have hG04 := hG.trans hh
              clear hv hB hSB hG hG4 hh hp
              go_wp2_with fail
              refine (reading_c (t + d) _ s _ (by unfold bnd; omega) hSB4 (by omega)).mono ?_; rintro e w5 ⟨⟨i1, i2, i3, i4⟩, rfl, hri, hSB5, hh⟩
              rw [show rgC (i1, i2, i3, i4) = #[.int .i64 i1, .string i2, .int .i64 i3, .int .i64 i4] from rfl]
              have HRI := Lib.hid hri
              have hv5 := hv4.ks (s := s) (by omega) _ (GS.stream hh)
              have hB5 := hB4.grown hh (fun e => by have := Option.some.inj e; omega)
              have hG05 := hG04.trans hh
              have hs5 := hSB5.lt
              have hq := (G.refl w5 none).alloc (.cells #[.int .i64 i1, .string i2, .int .i64 i3, .int .i64 i4] 37)
              have hI6 := Bk.new w5 37 #[.int .i64 i1, .string i2, .int .i64 i3, .int .i64 i4]
              have hSB6 := hSB5.quiet hq
              have hv6 := hv5.ks (s := s) (by omega) _ (GS.of_G hq)
              have hB6 := hB5.quiet hq
              have hG06 := hG05.trans0 hq
              clear hv4 hB4 hG04 hSB4 hh hri hv5 hB5 hG05 hSB5 hq
              go_upto_region 11 with fail
              generalize w5.alloc (.cells #[.int .i64 i1, .string i2, .int .i64 i3, .int .i64 i4] 37) = w6 at hI6 hSB6 hv6 hB6 hG06 ⊢
              generalize w5.heap.size = g11 at hI6 hs5 ⊢
              go_wp2_with fail
              refine (reading_c (t + d) _ s _ (by unfold bnd; omega) hSB6 (by omega)).mono ?_; rintro e w7 ⟨⟨o1, o2, o3, o4⟩, rfl, hro, hSB7, hh⟩
              rw [show rgC (o1, o2, o3, o4) = #[.int .i64 o1, .string o2, .int .i64 o3, .int .i64 o4] from rfl]
              have hv7 := hv6.ks (s := s) (by omega) _ (GS.stream hh)
              have hB7 := hB6.grown hh (fun e => by have := Option.some.inj e; omega)
              have hI7 := hI6.grown hh (fun e => by have := Option.some.inj e; omega)
              have hG07 := hG06.trans hh
              have hs7 := hSB7.lt
              have hq := (G.refl w7 none).alloc (.cells #[.int .i64 o1, .string o2, .int .i64 o3, .int .i64 o4] 37)
              have hO8 := Bk.new w7 37 #[.int .i64 o1, .string o2, .int .i64 o3, .int .i64 o4]
              have hSB8 := hSB7.quiet hq
              have hlt7 : w.heap.size < w7.heap.size ∧ g11 < w7.heap.size ∧ g8 < w7.heap.size := ⟨hB7.lt, hI7.lt, by obtain ⟨_, _, q, _⟩ := hv7; exact q.lt⟩
              have hv8' := hv7.ks (s := s) (by omega) _ (GS.of_G hq)
              have hB8 := hB7.quiet hq
              have hI8 := hI7.quiet hq
              have hG08 := hG07.trans0 hq
              have hleg7 : Hid (KS (Snew s w7.heap.size) w7 (HV (w.heap.size + 1) g8 g8 H l)) := Lib.hid (hv7.ks (s := s) (by omega))
              clear hv6 hB6 hG06 hSB6 hh hro hv7 hB7 hG07 hSB7 hI6 hI7
              go_upto_region 12 with fail
              have hgs8 : GS (Snew s w7.heap.size) w7 (w7.alloc (.cells #[.int .i64 o1, .string o2, .int .i64 o3, .int .i64 o4] 37)) := GS.of_G hq
              clear hq
              generalize w7.alloc (.cells #[.int .i64 o1, .string o2, .int .i64 o3, .int .i64 o4] 37) = w8 at hI8 hO8 hSB8 hv8' hB8 hG08 hgs8 ⊢
              have hg12 : w7.heap.size ≤ w7.heap.size := Nat.le_refl _
              have x1 : w8.frozen? ⟨w7.heap.size, 1, none⟩ = false := hO8.free 1
              have y1 : w8.cell? ⟨w7.heap.size, 1, none⟩ = some (.string o2) := hO8.cell 1
              have z1 : w8.cell? ⟨g11, 1, none⟩ = some (.string i2) := hI8.cell 1
              go_upto_region 13 with fail
              have hgs9 := hgs8.trans (GS.cell (s := s) (p := ⟨w7.heap.size, 1, none⟩) hg12 (.string i2))
              have hv9 := hleg7.out _ hgs9
              have hB9 := hB8.far (p := ⟨w7.heap.size, 1, none⟩) (show w.heap.size ≠ w7.heap.size by omega) (.string i2)
              have hI9 := hI8.far (p := ⟨w7.heap.size, 1, none⟩) (show g11 ≠ w7.heap.size by omega) (.string i2)
              have hO9 : Bk (w8.setCell ⟨w7.heap.size, 1, none⟩ (.string i2)) w7.heap.size 37 #[.int .i64 o1, .string i2, .int .i64 o3, .int .i64 o4] := hO8.set 1 (.string i2)
              have hSB9 := hSB8.setCell (p := ⟨w7.heap.size, 1, none⟩) hs7 (.string i2)
              have hG09 := hG08.setCell (p := ⟨w7.heap.size, 1, none⟩) (.inl (show w.heap.size ≤ w7.heap.size by omega)) (.string i2)
              clear hI8 hO8 hSB8 hv8' hB8 hG08 hgs8 hgs9 hleg7 x1 y1 z1 hg12
              generalize w8.setCell ⟨w7.heap.size, 1, none⟩ (.string i2) = w9 at hv9 hB9 hI9 hO9 hSB9 hG09 ⊢
              generalize w7.heap.size = g12 at hO9 hs7 hlt7 ⊢
              obtain ⟨a8, c8, hH9, hL9, hown9, hN9⟩ := hv9
              have hn9 : w.heap.size + 1 ≤ w9.heap.size := hB9.lt
              have hg89 : g8 < w9.heap.size := hH9.lt
              have hlb := Rd.blk hL9
              have HO := Lib.hid (((((KS.old hB9 (by omega)).and (KS.old hH9 (by omega))).and (KS.rd (S := Snew s w9.heap.size) hL9 (by
                rintro k hk (e | e)
                · have := hown9 k hk; omega
                · have := hlb k hk; omega))).and (KS.old hI9 hs5)).and (KS.old hO9 hs7))
              have HOWN := Lib.hid hown9
              have hSB := hSB9
              have hG := hG09
              clear hB9 hH9 hL9 hI9 hO9 hSB9 hG09 hlb hown9
              simp only [hiC] at HO
              go_cut [13, 14] from 50 to 78 (fun s13 s14 w' => RhB w s (K + 100 * k + 22 + 26 * (j + 1)) g8 H l s13 s14 w')
              case first =>
                have hq := (G.refl w9 none).drew
                have hSB0 := hSB.quiet hq
                have hG0 := hG.trans0 hq
                have hS0 : GS (Snew s w9.heap.size) w9 w9.drew := GS.of_G hq
                clear hq hSB hG
                refine wp_region_held_drew (S := (fun w' => w'.cell? ⟨g8, 0, none⟩ = some (.string H.1) ∧ w'.cell? ⟨g8, 1, none⟩ = some (.string H.2.1) ∧ w'.cell? ⟨g8, 2, none⟩ = some (.int .i64 H.2.2.1) ∧ w'.cell? ⟨g8, 3, none⟩ = some (.int .i64 H.2.2.2) ∧ w'.cell? ⟨g8, 4, none⟩ = some (.slice a8 l.length c8) ∧ w'.cell? ⟨g11, 0, none⟩ = some (.int .i64 i1) ∧ w'.cell? ⟨g11, 1, none⟩ = some (.string i2) ∧ w'.cell? ⟨g11, 2, none⟩ = some (.int .i64 i3) ∧ w'.cell? ⟨g11, 3, none⟩ = some (.int .i64 i4) ∧ w'.cell? ⟨g12, 0, none⟩ = some (.int .i64 o1) ∧ w'.cell? ⟨g12, 1, none⟩ = some (.string i2) ∧ w'.cell? ⟨g12, 2, none⟩ = some (.int .i64 o3) ∧ w'.cell? ⟨g12, 3, none⟩ = some (.int .i64 o4))) (by kernel_rfl) ?_ (fun hHeld => ?_)
                · exact ⟨(HO.out _ hS0).1.1.1.2.cell 0, (HO.out _ hS0).1.1.1.2.cell 1, (HO.out _ hS0).1.1.1.2.cell 2, (HO.out _ hS0).1.1.1.2.cell 3, (HO.out _ hS0).1.1.1.2.cell 4, (HO.out _ hS0).1.2.cell 0, (HO.out _ hS0).1.2.cell 1, (HO.out _ hS0).1.2.cell 2, (HO.out _ hS0).1.2.cell 3, (HO.out _ hS0).2.cell 0, (HO.out _ hS0).2.cell 1, (HO.out _ hS0).2.cell 2, (HO.out _ hS0).2.cell 3⟩
                generalize w9.drew = wd at hHeld hSB0 hG0 hS0 ⊢
                refine wpAnyH_take (i := 0) (oi := ⟨_, _, _, _, _, _⟩) (v := ?_) rfl (by kernel_rfl) (by kernel_rfl) (by kernel_rfl) (fun _ _ _ h => h) (Or.inl ⟨by rfl, ?_⟩) (by assumption) ?_
                rotate_left
                · (intro w hSw; obtain ⟨s0, s1, s2, s3, s4, s5, s6, s7, s8, s9, s10, s11, s12⟩ := hSw; (go_simp <;> with_reducible rfl))
                try simp only [Act.put, List.setIfInBounds_toArray, List.set_cons_zero, List.set_cons_succ]
                refine wpAnyH_take (i := 1) (oi := ⟨_, _, _, _, _, _⟩) (v := ?_) rfl (by kernel_rfl) (by kernel_rfl) (by kernel_rfl) (fun _ _ _ h => h) (Or.inl ⟨by rfl, ?_⟩) (by assumption) ?_
                rotate_left
                · (intro w hSw; obtain ⟨s0, s1, s2, s3, s4, s5, s6, s7, s8, s9, s10, s11, s12⟩ := hSw; (go_simp <;> with_reducible rfl))
                try simp only [Act.put, List.setIfInBounds_toArray, List.set_cons_zero, List.set_cons_succ]
                refine wpAnyH_take (i := 2) (oi := ⟨_, _, _, _, _, _⟩) (v := ?_) rfl (by kernel_rfl) (by kernel_rfl) (by kernel_rfl) (fun _ _ _ h => h) (Or.inl ⟨by rfl, ?_⟩) (by assumption) ?_
                rotate_left
                · (intro w hSw; obtain ⟨s0, s1, s2, s3, s4, s5, s6, s7, s8, s9, s10, s11, s12⟩ := hSw; (go_simp <;> with_reducible rfl))
                try simp only [Act.put, List.setIfInBounds_toArray, List.set_cons_zero, List.set_cons_succ]
                refine wpAnyH_take (i := 5) (oi := ⟨_, _, _, _, _, _⟩) (v := ?_) rfl (by kernel_rfl) (by kernel_rfl) (by kernel_rfl) (fun _ _ _ h => h) (Or.inl ⟨by rfl, ?_⟩) (by assumption) ?_
                rotate_left
                · (intro w hSw; obtain ⟨s0, s1, s2, s3, s4, s5, s6, s7, s8, s9, s10, s11, s12⟩ := hSw; (go_simp <;> with_reducible rfl))
                try simp only [Act.put, List.setIfInBounds_toArray, List.set_cons_zero, List.set_cons_succ]
                refine wpAnyH_ready (rs := [3, 10]) (by kernel_rfl) (by simp) ?_
                refine (AllReadyH.cons (o := ⟨_, _, _, _, _, _⟩) rfl (fun K hK => ?_) (AllReadyH.cons (o := ⟨_, _, _, _, _, _⟩) rfl (fun K hK => ?_) AllReadyH.nil))
                · go_simp
                  have hh := (G.refl wd none).alloc (.cells #[.string ⟨#[118, 49]⟩, .string ⟨#[118, 50]⟩, .string ⟨#[118, 51]⟩, .string ⟨#[118, 52]⟩] 9)
                  have hN := Kp.made (s := s) (w := wd) 4 9 #[.string ⟨#[118, 49]⟩, .string ⟨#[118, 50]⟩, .string ⟨#[118, 51]⟩, .string ⟨#[118, 52]⟩] rfl (by decide) hSB0.lt
                  have hglA := hSB0.lt
                  have hSB1 := hSB0.quiet hh
                  have hG1 := hG0.trans0 hh
                  have hS1 := hS0.trans (GS.of_G hh)
                  clear hh hSB0 hG0 hS0
                  have hKA_1 := hN
                  clear hN
                  generalize wd.alloc (.cells #[.string ⟨#[118, 49]⟩, .string ⟨#[118, 50]⟩, .string ⟨#[118, 51]⟩, .string ⟨#[118, 52]⟩] 9) = w1_x at hSB1 hG1 hS1 hKA_1 ⊢
                  refine hK.out _ _ ?_ (fun hHeld => ?_)
                  · exact ⟨(HO.out _ hS1).1.1.1.2.cell 0, (HO.out _ hS1).1.1.1.2.cell 1, (HO.out _ hS1).1.1.1.2.cell 2, (HO.out _ hS1).1.1.1.2.cell 3, (HO.out _ hS1).1.1.1.2.cell 4, (HO.out _ hS1).1.2.cell 0, (HO.out _ hS1).1.2.cell 1, (HO.out _ hS1).1.2.cell 2, (HO.out _ hS1).1.2.cell 3, (HO.out _ hS1).2.cell 0, (HO.out _ hS1).2.cell 1, (HO.out _ hS1).2.cell 2, (HO.out _ hS1).2.cell 3⟩
                  clear hK K
                  try simp only [Act.put, List.setIfInBounds_toArray, List.set_cons_zero, List.set_cons_succ]
                  refine wpAnyH_ready (rs := [4, 10]) (by kernel_rfl) (by simp) ?_
                  refine (AllReadyH.cons (o := ⟨_, _, _, _, _, _⟩) rfl (fun K hK => ?_) (AllReadyH.cons (o := ⟨_, _, _, _, _, _⟩) rfl (fun K hK => ?_) AllReadyH.nil))
                  · go_simp
                    refine (some_c _ _ _ [⟨#[118, 49]⟩, ⟨#[118, 50]⟩, ⟨#[118, 51]⟩, ⟨#[118, 52]⟩] _ _ _ hSB1 (by omega) (by decide) (by decide) hKA_1.now (hSB1.ne hglA)).mono ?_
                    rintro e w2_v ⟨v, rfl, hp, hSB2, hh⟩
                    have HSv := Lib.hid (small_pick hp (by decide))
                    clear hp hKA_1
                    have hG2 := hG1.trans hh
                    have hS2 := hS1.trans (GS.stream hh)
                    clear hh hSB1 hG1 hS1
                    refine hK.out _ _ ?_ (fun hHeld => ?_)
                    · exact ⟨(HO.out _ hS2).1.1.1.2.cell 0, (HO.out _ hS2).1.1.1.2.cell 1, (HO.out _ hS2).1.1.1.2.cell 2, (HO.out _ hS2).1.1.1.2.cell 3, (HO.out _ hS2).1.1.1.2.cell 4, (HO.out _ hS2).1.2.cell 0, (HO.out _ hS2).1.2.cell 1, (HO.out _ hS2).1.2.cell 2, (HO.out _ hS2).1.2.cell 3, (HO.out _ hS2).2.cell 0, (HO.out _ hS2).2.cell 1, (HO.out _ hS2).2.cell 2, (HO.out _ hS2).2.cell 3⟩
                    clear hK K
                    try simp only [Act.put, List.setIfInBounds_toArray, List.set_cons_zero, List.set_cons_succ]
                    refine wpAnyH_ready (rs := [6, 10]) (by kernel_rfl) (by simp) ?_
                    refine (AllReadyH.cons (o := ⟨_, _, _, _, _, _⟩) rfl (fun K hK => ?_) (AllReadyH.cons (o := ⟨_, _, _, _, _, _⟩) rfl (fun K hK => ?_) AllReadyH.nil))
                    · go_simp
                      refine (exchangeOf_c H (.slice a8 l.length c8) l (i1, i2, i3, i4) v (o1, i2, o3, o4) _ (HO.out _ hS2).1.1.2 HOK.out.2.1 HOK.out.2.2.1 HOK.out.2.2.2.1 HOK.out.2.2.2.2.1 HOK.out.2.2.2.2.2 (by have := HOK.out.len; omega) HRI.out.2.1 HSv.out HRI.out.2.1).mono ?_
                      rintro e w3_m ⟨H', a', n', c', rfl, hHH, hbb, hR3, hh⟩
                      have HHH := Lib.hid hHH
                      have HB := Lib.hid (fun k e => Nat.le_trans hS2.size (hbb k e))
                      clear hHH hbb
                      have hSB3 := hSB2.quiet hh
                      have hG3 := hG2.trans0 hh
                      have hS3 := hS2.trans (GS.of_G hh)
                      clear hh hSB2 hG2 hS2
                      refine hK.out _ _ ?_ (fun hHeld => ?_)
                      · exact ⟨(HO.out _ hS3).1.1.1.2.cell 0, (HO.out _ hS3).1.1.1.2.cell 1, (HO.out _ hS3).1.1.1.2.cell 2, (HO.out _ hS3).1.1.1.2.cell 3, (HO.out _ hS3).1.1.1.2.cell 4, (HO.out _ hS3).1.2.cell 0, (HO.out _ hS3).1.2.cell 1, (HO.out _ hS3).1.2.cell 2, (HO.out _ hS3).1.2.cell 3, (HO.out _ hS3).2.cell 0, (HO.out _ hS3).2.cell 1, (HO.out _ hS3).2.cell 2, (HO.out _ hS3).2.cell 3⟩
                      clear hK K
                      try simp only [Act.put, List.setIfInBounds_toArray, List.set_cons_zero, List.set_cons_succ]
                      refine wpAnyH_take (i := 7) (oi := ⟨_, _, _, _, _, _⟩) (v := ?_) rfl (by kernel_rfl) (by kernel_rfl) (by kernel_rfl) (fun _ _ _ h => h) (Or.inl ⟨by rfl, ?_⟩) (by assumption) ?_
                      rotate_left
                      · (intro w hSw; obtain ⟨s0, s1, s2, s3, s4, s5, s6, s7, s8, s9, s10, s11, s12⟩ := hSw; (go_simp <;> with_reducible rfl))
                      try simp only [Act.put, List.setIfInBounds_toArray, List.set_cons_zero, List.set_cons_succ]
                      refine wpAnyH_take (i := 8) (oi := ⟨_, _, _, _, _, _⟩) (v := ?_) rfl (by kernel_rfl) (by kernel_rfl) (by kernel_rfl) (fun _ _ _ h => h) (Or.inl ⟨by rfl, ?_⟩) (by assumption) ?_
                      rotate_left
                      · (intro w hSw; obtain ⟨s0, s1, s2, s3, s4, s5, s6, s7, s8, s9, s10, s11, s12⟩ := hSw; (go_simp <;> with_reducible rfl))
                      try simp only [Act.put, List.setIfInBounds_toArray, List.set_cons_zero, List.set_cons_succ]
                      refine wpAnyH_take (i := 9) (oi := ⟨_, _, _, _, _, _⟩) (v := ?_) rfl (by kernel_rfl) (by kernel_rfl) (by kernel_rfl) (fun _ _ _ h => h) (Or.inl ⟨by rfl, ?_⟩) (by assumption) ?_
                      rotate_left
                      · (intro w hSw; obtain ⟨s0, s1, s2, s3, s4, s5, s6, s7, s8, s9, s10, s11, s12⟩ := hSw; (go_simp <;> with_reducible rfl))
                      try simp only [Act.put, List.setIfInBounds_toArray, List.set_cons_zero, List.set_cons_succ]
                      refine wpAnyH_ready (rs := [10]) (by kernel_rfl) (by simp) ?_
                      refine (AllReadyH.cons (o := ⟨_, _, _, _, _, _⟩) rfl (fun K hK => ?_) AllReadyH.nil)
                      go_simp
                      have hh := (G.refl w3_m none).alloc (.cells #[.string ⟨#[]⟩, .string ⟨#[]⟩, .int .i64 0, .int .i64 0, .slice none 0 0] 33)
                      have hz : w9.heap.size ≤ w3_m.heap.size := hS3.size
                      have hZZ := Bk.new w3_m 33 #[.string ⟨#[]⟩, .string ⟨#[]⟩, .int .i64 0, .int .i64 0, .slice none 0 0]
                      have hNE : ∀ k, (Value.slice a' n' c').ownBlock = some k → k ≠ w3_m.heap.size := fun k e => Nat.ne_of_lt (Rd.blk hR3 k e)
                      have hSB4 := hSB3.quiet hh
                      have hG4 := hG3.trans0 hh
                      have hS4 := hS3.trans (GS.of_G hh)
                      have hR4 := Rd.quiet hR3 hh
                      clear hh hSB3 hG3 hS3 hR3
                      have hZ4 := hZZ
                      have hne4 := hNE
                      generalize w3_m.alloc (.cells #[.string ⟨#[]⟩, .string ⟨#[]⟩, .int .i64 0, .int .i64 0, .slice none 0 0] 33) = w4_x at hSB4 hG4 hS4 hZ4 hR4 ⊢
                      refine hK.out _ _ ?_ (fun hHeld => ?_)
                      · exact ⟨(HO.out _ hS4).1.1.1.2.cell 0, (HO.out _ hS4).1.1.1.2.cell 1, (HO.out _ hS4).1.1.1.2.cell 2, (HO.out _ hS4).1.1.1.2.cell 3, (HO.out _ hS4).1.1.1.2.cell 4, (HO.out _ hS4).1.2.cell 0, (HO.out _ hS4).1.2.cell 1, (HO.out _ hS4).1.2.cell 2, (HO.out _ hS4).1.2.cell 3, (HO.out _ hS4).2.cell 0, (HO.out _ hS4).2.cell 1, (HO.out _ hS4).2.cell 2, (HO.out _ hS4).2.cell 3⟩
                      clear hK K
                      try simp only [Act.put, List.setIfInBounds_toArray, List.set_cons_zero, List.set_cons_succ]
                      refine wpAnyH_ready (rs := [11]) (by kernel_rfl) (by simp) ?_
                      refine (AllReadyH.cons (o := ⟨_, _, _, _, _, _⟩) rfl (fun K hK => ?_) AllReadyH.nil)
                      refine st_wp rfl (wp_store_row 33 _ _ rfl (w3_m.heap.size) #[.string H'.1, .string H'.2.1, .int .i64 H'.2.2.1, .int .i64 H'.2.2.2, .slice a' n' c'] rfl rfl 33 _ hZ4 (hi_info H' _) rfl (hi_one H' a' n' c') ?_)
                      have hSB5 := hSB4.setRow (r := w3_m.heap.size) (by omega) #[.string H'.1, .string H'.2.1, .int .i64 H'.2.2.1, .int .i64 H'.2.2.2, .slice a' n' c']
                      have hG5 := hG4.setRow (g := w3_m.heap.size) (.inl (by omega)) #[.string H'.1, .string H'.2.1, .int .i64 H'.2.2.1, .int .i64 H'.2.2.2, .slice a' n' c']
                      have hS5 := hS4.trans (GS.row (g := w3_m.heap.size) hz #[.string H'.1, .string H'.2.1, .int .i64 H'.2.2.1, .int .i64 H'.2.2.2, .slice a' n' c'])
                      have hR5 := Rd.grown hR4 ((G.refl _ (some (w3_m.heap.size))).setRow (.inr rfl) #[.string H'.1, .string H'.2.1, .int .i64 H'.2.2.1, .int .i64 H'.2.2.2, .slice a' n' c']) (fun k e hk => by cases e; exact hne4 _ hk rfl)
                      have hZ5 := hZ4.setRow #[.string H'.1, .string H'.2.1, .int .i64 H'.2.2.1, .int .i64 H'.2.2.2, .slice a' n' c']
                      have hne5 := hne4
                      clear hSB4 hG4
                      refine hK.out _ _ ?_ (fun hHeld => ?_)
                      · exact ⟨(HO.out _ hS5).1.1.1.2.cell 0, (HO.out _ hS5).1.1.1.2.cell 1, (HO.out _ hS5).1.1.1.2.cell 2, (HO.out _ hS5).1.1.1.2.cell 3, (HO.out _ hS5).1.1.1.2.cell 4, (HO.out _ hS5).1.2.cell 0, (HO.out _ hS5).1.2.cell 1, (HO.out _ hS5).1.2.cell 2, (HO.out _ hS5).1.2.cell 3, (HO.out _ hS5).2.cell 0, (HO.out _ hS5).2.cell 1, (HO.out _ hS5).2.cell 2, (HO.out _ hS5).2.cell 3⟩
                      clear hK K
                      try simp only [Act.put, List.setIfInBounds_toArray, List.set_cons_zero, List.set_cons_succ]
                      refine wpAnyH_take (i := 12) (oi := ⟨_, _, _, _, _, _⟩) (v := ?_) rfl (by kernel_rfl) (by kernel_rfl) (by kernel_rfl) (fun _ _ _ h => h) (Or.inl ⟨by rfl, ?_⟩) (by assumption) ?_
                      rotate_left
                      · (intro w hSw; obtain ⟨s0, s1, s2, s3, s4, s5, s6, s7, s8, s9, s10, s11, s12⟩ := hSw; (go_simp <;> with_reducible rfl))
                      try simp only [Act.put, List.setIfInBounds_toArray, List.set_cons_zero, List.set_cons_succ]
                      refine wpAnyH_done (by kernel_rfl) ?_ _
                      go_wp2_with fail
                      go_meet
                      case rel => exact ⟨_, H, inL l (i1, i2, i3, i4) ++ [(v, (o1, i2, o3, o4), noIn)], _, rfl, rfl, hv_leaf chR_ok HHH.out hR5 hZ5 (fun k e => ⟨by have := HB.out k e; omega, hne5 k e, by have := HB.out k e; omega⟩) (by omega) ((HOK.out.2.1.inL HRI.out.2.1).snoc ⟨HSv.out, HRI.out.2.1, small_nil⟩) HOK.out.2.2.1 HOK.out.2.2.2.1 HOK.out.2.2.2.2.1 HOK.out.2.2.2.2.2, ⟨a8, c8, (HO.out _ hS5).1.1.1.2, (HO.out _ hS5).1.1.2, HOWN.out, hN9⟩, (HO.out _ hS5).1.1.1.1, hSB5.le (by omega), hG5⟩
                    · go_simp
                      have hh := (G.refl w2_v none).alloc (.cells #[.string ⟨#[]⟩, .string ⟨#[]⟩, .int .i64 0, .int .i64 0, .slice none 0 0] 33)
                      have hz : w9.heap.size ≤ w2_v.heap.size := hS2.size
                      have hZZ := Bk.new w2_v 33 #[.string ⟨#[]⟩, .string ⟨#[]⟩, .int .i64 0, .int .i64 0, .slice none 0 0]
                      have hSB3 := hSB2.quiet hh
                      have hG3 := hG2.trans0 hh
                      have hS3 := hS2.trans (GS.of_G hh)
                      clear hh hSB2 hG2 hS2
                      have hZ3 := hZZ
                      generalize w2_v.alloc (.cells #[.string ⟨#[]⟩, .string ⟨#[]⟩, .int .i64 0, .int .i64 0, .slice none 0 0] 33) = w3_x at hSB3 hG3 hS3 hZ3 ⊢
                      refine hK.out _ _ ?_ (fun hHeld => ?_)
                      · exact ⟨(HO.out _ hS3).1.1.1.2.cell 0, (HO.out _ hS3).1.1.1.2.cell 1, (HO.out _ hS3).1.1.1.2.cell 2, (HO.out _ hS3).1.1.1.2.cell 3, (HO.out _ hS3).1.1.1.2.cell 4, (HO.out _ hS3).1.2.cell 0, (HO.out _ hS3).1.2.cell 1, (HO.out _ hS3).1.2.cell 2, (HO.out _ hS3).1.2.cell 3, (HO.out _ hS3).2.cell 0, (HO.out _ hS3).2.cell 1, (HO.out _ hS3).2.cell 2, (HO.out _ hS3).2.cell 3⟩
                      clear hK K
                      try simp only [Act.put, List.setIfInBounds_toArray, List.set_cons_zero, List.set_cons_succ]
                      refine wpAnyH_ready (rs := [6]) (by kernel_rfl) (by simp) ?_
                      refine (AllReadyH.cons (o := ⟨_, _, _, _, _, _⟩) rfl (fun K hK => ?_) AllReadyH.nil)
                      go_simp
                      refine (exchangeOf_c H (.slice a8 l.length c8) l (i1, i2, i3, i4) v (o1, i2, o3, o4) _ (HO.out _ hS3).1.1.2 HOK.out.2.1 HOK.out.2.2.1 HOK.out.2.2.2.1 HOK.out.2.2.2.2.1 HOK.out.2.2.2.2.2 (by have := HOK.out.len; omega) HRI.out.2.1 HSv.out HRI.out.2.1).mono ?_
                      rintro e w4_m ⟨H', a', n', c', rfl, hHH, hbb, hR4, hh⟩
                      have HHH := Lib.hid hHH
                      have HB := Lib.hid (fun k e => Nat.le_trans hS3.size (hbb k e))
                      have hne4 : ∀ k, (Value.slice a' n' c').ownBlock = some k → k ≠ w2_v.heap.size := fun k e => by have := hbb k e; have := hZ3.lt; omega
                      clear hHH hbb
                      have hSB4 := hSB3.quiet hh
                      have hG4 := hG3.trans0 hh
                      have hS4 := hS3.trans (GS.of_G hh)
                      have hZ4 := hZ3.quiet hh
                      clear hh hSB3 hG3 hS3 hZ3
                      refine hK.out _ _ ?_ (fun hHeld => ?_)
                      · exact ⟨(HO.out _ hS4).1.1.1.2.cell 0, (HO.out _ hS4).1.1.1.2.cell 1, (HO.out _ hS4).1.1.1.2.cell 2, (HO.out _ hS4).1.1.1.2.cell 3, (HO.out _ hS4).1.1.1.2.cell 4, (HO.out _ hS4).1.2.cell 0, (HO.out _ hS4).1.2.cell 1, (HO.out _ hS4).1.2.cell 2, (HO.out _ hS4).1.2.cell 3, (HO.out _ hS4).2.cell 0, (HO.out _ hS4).2.cell 1, (HO.out _ hS4).2.cell 2, (HO.out _ hS4).2.cell 3⟩
                      clear hK K
                      try simp only [Act.put, List.setIfInBounds_toArray, List.set_cons_zero, List.set_cons_succ]
                      refine wpAnyH_take (i := 7) (oi := ⟨_, _, _, _, _, _⟩) (v := ?_) rfl (by kernel_rfl) (by kernel_rfl) (by kernel_rfl) (fun _ _ _ h => h) (Or.inl ⟨by rfl, ?_⟩) (by assumption) ?_
                      rotate_left
                      · (intro w hSw; obtain ⟨s0, s1, s2, s3, s4, s5, s6, s7, s8, s9, s10, s11, s12⟩ := hSw; (go_simp <;> with_reducible rfl))
                      try simp only [Act.put, List.setIfInBounds_toArray, List.set_cons_zero, List.set_cons_succ]
                      refine wpAnyH_take (i := 8) (oi := ⟨_, _, _, _, _, _⟩) (v := ?_) rfl (by kernel_rfl) (by kernel_rfl) (by kernel_rfl) (fun _ _ _ h => h) (Or.inl ⟨by rfl, ?_⟩) (by assumption) ?_
                      rotate_left
                      · (intro w hSw; obtain ⟨s0, s1, s2, s3, s4, s5, s6, s7, s8, s9, s10, s11, s12⟩ := hSw; (go_simp <;> with_reducible rfl))
                      try simp only [Act.put, List.setIfInBounds_toArray, List.set_cons_zero, List.set_cons_succ]
                      refine wpAnyH_take (i := 9) (oi := ⟨_, _, _, _, _, _⟩) (v := ?_) rfl (by kernel_rfl) (by kernel_rfl) (by kernel_rfl) (fun _ _ _ h => h) (Or.inl ⟨by rfl, ?_⟩) (by assumption) ?_
                      rotate_left
                      · (intro w hSw; obtain ⟨s0, s1, s2, s3, s4, s5, s6, s7, s8, s9, s10, s11, s12⟩ := hSw; (go_simp <;> with_reducible rfl))
                      try simp only [Act.put, List.setIfInBounds_toArray, List.set_cons_zero, List.set_cons_succ]
                      refine wpAnyH_ready (rs := [11]) (by kernel_rfl) (by simp) ?_
                      refine (AllReadyH.cons (o := ⟨_, _, _, _, _, _⟩) rfl (fun K hK => ?_) AllReadyH.nil)
                      refine st_wp rfl (wp_store_row 33 _ _ rfl (w2_v.heap.size) #[.string H'.1, .string H'.2.1, .int .i64 H'.2.2.1, .int .i64 H'.2.2.2, .slice a' n' c'] rfl rfl 33 _ hZ4 (hi_info H' _) rfl (hi_one H' a' n' c') ?_)
                      have hSB5 := hSB4.setRow (r := w2_v.heap.size) (by omega) #[.string H'.1, .string H'.2.1, .int .i64 H'.2.2.1, .int .i64 H'.2.2.2, .slice a' n' c']
                      have hG5 := hG4.setRow (g := w2_v.heap.size) (.inl (by omega)) #[.string H'.1, .string H'.2.1, .int .i64 H'.2.2.1, .int .i64 H'.2.2.2, .slice a' n' c']
                      have hS5 := hS4.trans (GS.row (g := w2_v.heap.size) hz #[.string H'.1, .string H'.2.1, .int .i64 H'.2.2.1, .int .i64 H'.2.2.2, .slice a' n' c'])
                      have hR5 := Rd.grown hR4 ((G.refl _ (some (w2_v.heap.size))).setRow (.inr rfl) #[.string H'.1, .string H'.2.1, .int .i64 H'.2.2.1, .int .i64 H'.2.2.2, .slice a' n' c']) (fun k e hk => by cases e; exact hne4 _ hk rfl)
                      have hZ5 := hZ4.setRow #[.string H'.1, .string H'.2.1, .int .i64 H'.2.2.1, .int .i64 H'.2.2.2, .slice a' n' c']
                      have hne5 := hne4
                      clear hSB4 hG4
                      refine hK.out _ _ ?_ (fun hHeld => ?_)
                      · exact ⟨(HO.out _ hS5).1.1.1.2.cell 0, (HO.out _ hS5).1.1.1.2.cell 1, (HO.out _ hS5).1.1.1.2.cell 2, (HO.out _ hS5).1.1.1.2.cell 3, (HO.out _ hS5).1.1.1.2.cell 4, (HO.out _ hS5).1.2.cell 0, (HO.out _ hS5).1.2.cell 1, (HO.out _ hS5).1.2.cell 2, (HO.out _ hS5).1.2.cell 3, (HO.out _ hS5).2.cell 0, (HO.out _ hS5).2.cell 1, (HO.out _ hS5).2.cell 2, (HO.out _ hS5).2.cell 3⟩
                      clear hK K
                      try simp only [Act.put, List.setIfInBounds_toArray, List.set_cons_zero, List.set_cons_succ]
                      refine wpAnyH_take (i := 12) (oi := ⟨_, _, _, _, _, _⟩) (v := ?_) rfl (by kernel_rfl) (by kernel_rfl) (by kernel_rfl) (fun _ _ _ h => h) (Or.inl ⟨by rfl, ?_⟩) (by assumption) ?_
                      rotate_left
                      · (intro w hSw; obtain ⟨s0, s1, s2, s3, s4, s5, s6, s7, s8, s9, s10, s11, s12⟩ := hSw; (go_simp <;> with_reducible rfl))
                      try simp only [Act.put, List.setIfInBounds_toArray, List.set_cons_zero, List.set_cons_succ]
                      refine wpAnyH_done (by kernel_rfl) ?_ _
                      go_wp2_with fail
                      go_meet
                      case rel => exact ⟨_, H, inL l (i1, i2, i3, i4) ++ [(v, (o1, i2, o3, o4), noIn)], _, rfl, rfl, hv_leaf chR_ok HHH.out hR5 hZ5 (fun k e => ⟨by have := HB.out k e; omega, hne5 k e, by have := HB.out k e; omega⟩) (by omega) ((HOK.out.2.1.inL HRI.out.2.1).snoc ⟨HSv.out, HRI.out.2.1, small_nil⟩) HOK.out.2.2.1 HOK.out.2.2.2.1 HOK.out.2.2.2.2.1 HOK.out.2.2.2.2.2, ⟨a8, c8, (HO.out _ hS5).1.1.1.2, (HO.out _ hS5).1.1.2, HOWN.out, hN9⟩, (HO.out _ hS5).1.1.1.1, hSB5.le (by omega), hG5⟩
                  · go_simp
                    have hh := (G.refl w1_x none).alloc (.cells #[.string ⟨#[]⟩, .string ⟨#[]⟩, .int .i64 0, .int .i64 0, .slice none 0 0] 33)
                    have hz : w9.heap.size ≤ w1_x.heap.size := hS1.size
                    have hZZ := Bk.new w1_x 33 #[.string ⟨#[]⟩, .string ⟨#[]⟩, .int .i64 0, .int .i64 0, .slice none 0 0]
                    have hSB2 := hSB1.quiet hh
                    have hG2 := hG1.trans0 hh
                    have hS2 := hS1.trans (GS.of_G hh)
                    have hKA_2 := hKA_1.quiet hh
                    clear hh hSB1 hG1 hS1 hKA_1
                    have hZ2 := hZZ
                    generalize w1_x.alloc (.cells #[.string ⟨#[]⟩, .string ⟨#[]⟩, .int .i64 0, .int .i64 0, .slice none 0 0] 33) = w2_x at hSB2 hG2 hS2 hZ2 hKA_2 ⊢
                    refine hK.out _ _ ?_ (fun hHeld => ?_)
                    · exact ⟨(HO.out _ hS2).1.1.1.2.cell 0, (HO.out _ hS2).1.1.1.2.cell 1, (HO.out _ hS2).1.1.1.2.cell 2, (HO.out _ hS2).1.1.1.2.cell 3, (HO.out _ hS2).1.1.1.2.cell 4, (HO.out _ hS2).1.2.cell 0, (HO.out _ hS2).1.2.cell 1, (HO.out _ hS2).1.2.cell 2, (HO.out _ hS2).1.2.cell 3, (HO.out _ hS2).2.cell 0, (HO.out _ hS2).2.cell 1, (HO.out _ hS2).2.cell 2, (HO.out _ hS2).2.cell 3⟩
                    clear hK K
                    try simp only [Act.put, List.setIfInBounds_toArray, List.set_cons_zero, List.set_cons_succ]
                    refine wpAnyH_ready (rs := [4]) (by kernel_rfl) (by simp) ?_
                    refine (AllReadyH.cons (o := ⟨_, _, _, _, _, _⟩) rfl (fun K hK => ?_) AllReadyH.nil)
                    go_simp
                    refine (some_c _ _ _ [⟨#[118, 49]⟩, ⟨#[118, 50]⟩, ⟨#[118, 51]⟩, ⟨#[118, 52]⟩] _ _ _ hSB2 (by omega) (by decide) (by decide) hKA_2.now (hSB2.ne hglA)).mono ?_
                    rintro e w3_v ⟨v, rfl, hp, hSB3, hh⟩
                    have HSv := Lib.hid (small_pick hp (by decide))
                    clear hp hKA_2
                    have hG3 := hG2.trans hh
                    have hS3 := hS2.trans (GS.stream hh)
                    have hZ3 := hZ2.grown hh (fun e => by have := Option.some.inj e; omega)
                    clear hh hSB2 hG2 hS2 hZ2
                    refine hK.out _ _ ?_ (fun hHeld => ?_)
                    · exact ⟨(HO.out _ hS3).1.1.1.2.cell 0, (HO.out _ hS3).1.1.1.2.cell 1, (HO.out _ hS3).1.1.1.2.cell 2, (HO.out _ hS3).1.1.1.2.cell 3, (HO.out _ hS3).1.1.1.2.cell 4, (HO.out _ hS3).1.2.cell 0, (HO.out _ hS3).1.2.cell 1, (HO.out _ hS3).1.2.cell 2, (HO.out _ hS3).1.2.cell 3, (HO.out _ hS3).2.cell 0, (HO.out _ hS3).2.cell 1, (HO.out _ hS3).2.cell 2, (HO.out _ hS3).2.cell 3⟩
                    clear hK K
                    try simp only [Act.put, List.setIfInBounds_toArray, List.set_cons_zero, List.set_cons_succ]
                    refine wpAnyH_ready (rs := [6]) (by kernel_rfl) (by simp) ?_
                    refine (AllReadyH.cons (o := ⟨_, _, _, _, _, _⟩) rfl (fun K hK => ?_) AllReadyH.nil)
                    go_simp
                    refine (exchangeOf_c H (.slice a8 l.length c8) l (i1, i2, i3, i4) v (o1, i2, o3, o4) _ (HO.out _ hS3).1.1.2 HOK.out.2.1 HOK.out.2.2.1 HOK.out.2.2.2.1 HOK.out.2.2.2.2.1 HOK.out.2.2.2.2.2 (by have := HOK.out.len; omega) HRI.out.2.1 HSv.out HRI.out.2.1).mono ?_
                    rintro e w4_m ⟨H', a', n', c', rfl, hHH, hbb, hR4, hh⟩
                    have HHH := Lib.hid hHH
                    have HB := Lib.hid (fun k e => Nat.le_trans hS3.size (hbb k e))
                    have hne4 : ∀ k, (Value.slice a' n' c').ownBlock = some k → k ≠ w1_x.heap.size := fun k e => by have := hbb k e; have := hZ3.lt; omega
                    clear hHH hbb
                    have hSB4 := hSB3.quiet hh
                    have hG4 := hG3.trans0 hh
                    have hS4 := hS3.trans (GS.of_G hh)
                    have hZ4 := hZ3.quiet hh
                    clear hh hSB3 hG3 hS3 hZ3
                    refine hK.out _ _ ?_ (fun hHeld => ?_)
                    · exact ⟨(HO.out _ hS4).1.1.1.2.cell 0, (HO.out _ hS4).1.1.1.2.cell 1, (HO.out _ hS4).1.1.1.2.cell 2, (HO.out _ hS4).1.1.1.2.cell 3, (HO.out _ hS4).1.1.1.2.cell 4, (HO.out _ hS4).1.2.cell 0, (HO.out _ hS4).1.2.cell 1, (HO.out _ hS4).1.2.cell 2, (HO.out _ hS4).1.2.cell 3, (HO.out _ hS4).2.cell 0, (HO.out _ hS4).2.cell 1, (HO.out _ hS4).2.cell 2, (HO.out _ hS4).2.cell 3⟩
                    clear hK K
                    try simp only [Act.put, List.setIfInBounds_toArray, List.set_cons_zero, List.set_cons_succ]
                    refine wpAnyH_take (i := 7) (oi := ⟨_, _, _, _, _, _⟩) (v := ?_) rfl (by kernel_rfl) (by kernel_rfl) (by kernel_rfl) (fun _ _ _ h => h) (Or.inl ⟨by rfl, ?_⟩) (by assumption) ?_
                    rotate_left
                    · (intro w hSw; obtain ⟨s0, s1, s2, s3, s4, s5, s6, s7, s8, s9, s10, s11, s12⟩ := hSw; (go_simp <;> with_reducible rfl))
                    try simp only [Act.put, List.setIfInBounds_toArray, List.set_cons_zero, List.set_cons_succ]
                    refine wpAnyH_take (i := 8) (oi := ⟨_, _, _, _, _, _⟩) (v := ?_) rfl (by kernel_rfl) (by kernel_rfl) (by kernel_rfl) (fun _ _ _ h => h) (Or.inl ⟨by rfl, ?_⟩) (by assumption) ?_
                    rotate_left
                    · (intro w hSw; obtain ⟨s0, s1, s2, s3, s4, s5, s6, s7, s8, s9, s10, s11, s12⟩ := hSw; (go_simp <;> with_reducible rfl))
                    try simp only [Act.put, List.setIfInBounds_toArray, List.set_cons_zero, List.set_cons_succ]
                    refine wpAnyH_take (i := 9) (oi := ⟨_, _, _, _, _, _⟩) (v := ?_) rfl (by kernel_rfl) (by kernel_rfl) (by kernel_rfl) (fun _ _ _ h => h) (Or.inl ⟨by rfl, ?_⟩) (by assumption) ?_
                    rotate_left
                    · (intro w hSw; obtain ⟨s0, s1, s2, s3, s4, s5, s6, s7, s8, s9, s10, s11, s12⟩ := hSw; (go_simp <;> with_reducible rfl))
                    try simp only [Act.put, List.setIfInBounds_toArray, List.set_cons_zero, List.set_cons_succ]
                    refine wpAnyH_ready (rs := [11]) (by kernel_rfl) (by simp) ?_
                    refine (AllReadyH.cons (o := ⟨_, _, _, _, _, _⟩) rfl (fun K hK => ?_) AllReadyH.nil)
                    refine st_wp rfl (wp_store_row 33 _ _ rfl (w1_x.heap.size) #[.string H'.1, .string H'.2.1, .int .i64 H'.2.2.1, .int .i64 H'.2.2.2, .slice a' n' c'] rfl rfl 33 _ hZ4 (hi_info H' _) rfl (hi_one H' a' n' c') ?_)
                    have hSB5 := hSB4.setRow (r := w1_x.heap.size) (by omega) #[.string H'.1, .string H'.2.1, .int .i64 H'.2.2.1, .int .i64 H'.2.2.2, .slice a' n' c']
                    have hG5 := hG4.setRow (g := w1_x.heap.size) (.inl (by omega)) #[.string H'.1, .string H'.2.1, .int .i64 H'.2.2.1, .int .i64 H'.2.2.2, .slice a' n' c']
                    have hS5 := hS4.trans (GS.row (g := w1_x.heap.size) hz #[.string H'.1, .string H'.2.1, .int .i64 H'.2.2.1, .int .i64 H'.2.2.2, .slice a' n' c'])
                    have hR5 := Rd.grown hR4 ((G.refl _ (some (w1_x.heap.size))).setRow (.inr rfl) #[.string H'.1, .string H'.2.1, .int .i64 H'.2.2.1, .int .i64 H'.2.2.2, .slice a' n' c']) (fun k e hk => by cases e; exact hne4 _ hk rfl)
                    have hZ5 := hZ4.setRow #[.string H'.1, .string H'.2.1, .int .i64 H'.2.2.1, .int .i64 H'.2.2.2, .slice a' n' c']
                    have hne5 := hne4
                    clear hSB4 hG4
                    refine hK.out _ _ ?_ (fun hHeld => ?_)
                    · exact ⟨(HO.out _ hS5).1.1.1.2.cell 0, (HO.out _ hS5).1.1.1.2.cell 1, (HO.out _ hS5).1.1.1.2.cell 2, (HO.out _ hS5).1.1.1.2.cell 3, (HO.out _ hS5).1.1.1.2.cell 4, (HO.out _ hS5).1.2.cell 0, (HO.out _ hS5).1.2.cell 1, (HO.out _ hS5).1.2.cell 2, (HO.out _ hS5).1.2.cell 3, (HO.out _ hS5).2.cell 0, (HO.out _ hS5).2.cell 1, (HO.out _ hS5).2.cell 2, (HO.out _ hS5).2.cell 3⟩
                    clear hK K
                    try simp only [Act.put, List.setIfInBounds_toArray, List.set_cons_zero, List.set_cons_succ]
                    refine wpAnyH_take (i := 12) (oi := ⟨_, _, _, _, _, _⟩) (v := ?_) rfl (by kernel_rfl) (by kernel_rfl) (by kernel_rfl) (fun _ _ _ h => h) (Or.inl ⟨by rfl, ?_⟩) (by assumption) ?_
                    rotate_left
                    · (intro w hSw; obtain ⟨s0, s1, s2, s3, s4, s5, s6, s7, s8, s9, s10, s11, s12⟩ := hSw; (go_simp <;> with_reducible rfl))
                    try simp only [Act.put, List.setIfInBounds_toArray, List.set_cons_zero, List.set_cons_succ]
                    refine wpAnyH_done (by kernel_rfl) ?_ _
                    go_wp2_with fail
                    go_meet
                    case rel => exact ⟨_, H, inL l (i1, i2, i3, i4) ++ [(v, (o1, i2, o3, o4), noIn)], _, rfl, rfl, hv_leaf chR_ok HHH.out hR5 hZ5 (fun k e => ⟨by have := HB.out k e; omega, hne5 k e, by have := HB.out k e; omega⟩) (by omega) ((HOK.out.2.1.inL HRI.out.2.1).snoc ⟨HSv.out, HRI.out.2.1, small_nil⟩) HOK.out.2.2.1 HOK.out.2.2.2.1 HOK.out.2.2.2.2.1 HOK.out.2.2.2.2.2, ⟨a8, c8, (HO.out _ hS5).1.1.1.2, (HO.out _ hS5).1.1.2, HOWN.out, hN9⟩, (HO.out _ hS5).1.1.1.1, hSB5.le (by omega), hG5⟩
                · go_simp
                  have hh := (G.refl wd none).alloc (.cells #[.string ⟨#[]⟩, .string ⟨#[]⟩, .int .i64 0, .int .i64 0, .slice none 0 0] 33)
                  have hz : w9.heap.size ≤ wd.heap.size := hS0.size
                  have hZZ := Bk.new wd 33 #[.string ⟨#[]⟩, .string ⟨#[]⟩, .int .i64 0, .int .i64 0, .slice none 0 0]
                  have hSB1 := hSB0.quiet hh
                  have hG1 := hG0.trans0 hh
                  have hS1 := hS0.trans (GS.of_G hh)
                  clear hh hSB0 hG0 hS0
                  have hZ1 := hZZ
                  generalize wd.alloc (.cells #[.string ⟨#[]⟩, .string ⟨#[]⟩, .int .i64 0, .int .i64 0, .slice none 0 0] 33) = w1_x at hSB1 hG1 hS1 hZ1 ⊢
                  refine hK.out _ _ ?_ (fun hHeld => ?_)
                  · exact ⟨(HO.out _ hS1).1.1.1.2.cell 0, (HO.out _ hS1).1.1.1.2.cell 1, (HO.out _ hS1).1.1.1.2.cell 2, (HO.out _ hS1).1.1.1.2.cell 3, (HO.out _ hS1).1.1.1.2.cell 4, (HO.out _ hS1).1.2.cell 0, (HO.out _ hS1).1.2.cell 1, (HO.out _ hS1).1.2.cell 2, (HO.out _ hS1).1.2.cell 3, (HO.out _ hS1).2.cell 0, (HO.out _ hS1).2.cell 1, (HO.out _ hS1).2.cell 2, (HO.out _ hS1).2.cell 3⟩
                  clear hK K
                  try simp only [Act.put, List.setIfInBounds_toArray, List.set_cons_zero, List.set_cons_succ]
                  refine wpAnyH_ready (rs := [3]) (by kernel_rfl) (by simp) ?_
                  refine (AllReadyH.cons (o := ⟨_, _, _, _, _, _⟩) rfl (fun K hK => ?_) AllReadyH.nil)
                  go_simp
                  have hh := (G.refl w1_x none).alloc (.cells #[.string ⟨#[118, 49]⟩, .string ⟨#[118, 50]⟩, .string ⟨#[118, 51]⟩, .string ⟨#[118, 52]⟩] 9)
                  have hN := Kp.made (s := s) (w := w1_x) 4 9 #[.string ⟨#[118, 49]⟩, .string ⟨#[118, 50]⟩, .string ⟨#[118, 51]⟩, .string ⟨#[118, 52]⟩] rfl (by decide) hSB1.lt
                  have hglA := hSB1.lt
                  have hSB2 := hSB1.quiet hh
                  have hG2 := hG1.trans0 hh
                  have hS2 := hS1.trans (GS.of_G hh)
                  have hZ2 := hZ1.quiet hh
                  clear hh hSB1 hG1 hS1 hZ1
                  have hKA_2 := hN
                  clear hN
                  generalize w1_x.alloc (.cells #[.string ⟨#[118, 49]⟩, .string ⟨#[118, 50]⟩, .string ⟨#[118, 51]⟩, .string ⟨#[118, 52]⟩] 9) = w2_x at hSB2 hG2 hS2 hZ2 hKA_2 ⊢
                  refine hK.out _ _ ?_ (fun hHeld => ?_)
                  · exact ⟨(HO.out _ hS2).1.1.1.2.cell 0, (HO.out _ hS2).1.1.1.2.cell 1, (HO.out _ hS2).1.1.1.2.cell 2, (HO.out _ hS2).1.1.1.2.cell 3, (HO.out _ hS2).1.1.1.2.cell 4, (HO.out _ hS2).1.2.cell 0, (HO.out _ hS2).1.2.cell 1, (HO.out _ hS2).1.2.cell 2, (HO.out _ hS2).1.2.cell 3, (HO.out _ hS2).2.cell 0, (HO.out _ hS2).2.cell 1, (HO.out _ hS2).2.cell 2, (HO.out _ hS2).2.cell 3⟩
                  clear hK K
                  try simp only [Act.put, List.setIfInBounds_toArray, List.set_cons_zero, List.set_cons_succ]
                  refine wpAnyH_ready (rs := [4]) (by kernel_rfl) (by simp) ?_
                  refine (AllReadyH.cons (o := ⟨_, _, _, _, _, _⟩) rfl (fun K hK => ?_) AllReadyH.nil)
                  go_simp
                  refine (some_c _ _ _ [⟨#[118, 49]⟩, ⟨#[118, 50]⟩, ⟨#[118, 51]⟩, ⟨#[118, 52]⟩] _ _ _ hSB2 (by omega) (by decide) (by decide) hKA_2.now (hSB2.ne hglA)).mono ?_
                  rintro e w3_v ⟨v, rfl, hp, hSB3, hh⟩
                  have HSv := Lib.hid (small_pick hp (by decide))
                  clear hp hKA_2
                  have hG3 := hG2.trans hh
                  have hS3 := hS2.trans (GS.stream hh)
                  have hZ3 := hZ2.grown hh (fun e => by have := Option.some.inj e; omega)
                  clear hh hSB2 hG2 hS2 hZ2
                  refine hK.out _ _ ?_ (fun hHeld => ?_)
                  · exact ⟨(HO.out _ hS3).1.1.1.2.cell 0, (HO.out _ hS3).1.1.1.2.cell 1, (HO.out _ hS3).1.1.1.2.cell 2, (HO.out _ hS3).1.1.1.2.cell 3, (HO.out _ hS3).1.1.1.2.cell 4, (HO.out _ hS3).1.2.cell 0, (HO.out _ hS3).1.2.cell 1, (HO.out _ hS3).1.2.cell 2, (HO.out _ hS3).1.2.cell 3, (HO.out _ hS3).2.cell 0, (HO.out _ hS3).2.cell 1, (HO.out _ hS3).2.cell 2, (HO.out _ hS3).2.cell 3⟩
                  clear hK K
                  try simp only [Act.put, List.setIfInBounds_toArray, List.set_cons_zero, List.set_cons_succ]
                  refine wpAnyH_ready (rs := [6]) (by kernel_rfl) (by simp) ?_
                  refine (AllReadyH.cons (o := ⟨_, _, _, _, _, _⟩) rfl (fun K hK => ?_) AllReadyH.nil)
                  go_simp
                  refine (exchangeOf_c H (.slice a8 l.length c8) l (i1, i2, i3, i4) v (o1, i2, o3, o4) _ (HO.out _ hS3).1.1.2 HOK.out.2.1 HOK.out.2.2.1 HOK.out.2.2.2.1 HOK.out.2.2.2.2.1 HOK.out.2.2.2.2.2 (by have := HOK.out.len; omega) HRI.out.2.1 HSv.out HRI.out.2.1).mono ?_
                  rintro e w4_m ⟨H', a', n', c', rfl, hHH, hbb, hR4, hh⟩
                  have HHH := Lib.hid hHH
                  have HB := Lib.hid (fun k e => Nat.le_trans hS3.size (hbb k e))
                  have hne4 : ∀ k, (Value.slice a' n' c').ownBlock = some k → k ≠ wd.heap.size := fun k e => by have := hbb k e; have := hZ3.lt; omega
                  clear hHH hbb
                  have hSB4 := hSB3.quiet hh
                  have hG4 := hG3.trans0 hh
                  have hS4 := hS3.trans (GS.of_G hh)
                  have hZ4 := hZ3.quiet hh
                  clear hh hSB3 hG3 hS3 hZ3
                  refine hK.out _ _ ?_ (fun hHeld => ?_)
                  · exact ⟨(HO.out _ hS4).1.1.1.2.cell 0, (HO.out _ hS4).1.1.1.2.cell 1, (HO.out _ hS4).1.1.1.2.cell 2, (HO.out _ hS4).1.1.1.2.cell 3, (HO.out _ hS4).1.1.1.2.cell 4, (HO.out _ hS4).1.2.cell 0, (HO.out _ hS4).1.2.cell 1, (HO.out _ hS4).1.2.cell 2, (HO.out _ hS4).1.2.cell 3, (HO.out _ hS4).2.cell 0, (HO.out _ hS4).2.cell 1, (HO.out _ hS4).2.cell 2, (HO.out _ hS4).2.cell 3⟩
                  clear hK K
                  try simp only [Act.put, List.setIfInBounds_toArray, List.set_cons_zero, List.set_cons_succ]
                  refine wpAnyH_take (i := 7) (oi := ⟨_, _, _, _, _, _⟩) (v := ?_) rfl (by kernel_rfl) (by kernel_rfl) (by kernel_rfl) (fun _ _ _ h => h) (Or.inl ⟨by rfl, ?_⟩) (by assumption) ?_
                  rotate_left
                  · (intro w hSw; obtain ⟨s0, s1, s2, s3, s4, s5, s6, s7, s8, s9, s10, s11, s12⟩ := hSw; (go_simp <;> with_reducible rfl))
                  try simp only [Act.put, List.setIfInBounds_toArray, List.set_cons_zero, List.set_cons_succ]
                  refine wpAnyH_take (i := 8) (oi := ⟨_, _, _, _, _, _⟩) (v := ?_) rfl (by kernel_rfl) (by kernel_rfl) (by kernel_rfl) (fun _ _ _ h => h) (Or.inl ⟨by rfl, ?_⟩) (by assumption) ?_
                  rotate_left
                  · (intro w hSw; obtain ⟨s0, s1, s2, s3, s4, s5, s6, s7, s8, s9, s10, s11, s12⟩ := hSw; (go_simp <;> with_reducible rfl))
                  try simp only [Act.put, List.setIfInBounds_toArray, List.set_cons_zero, List.set_cons_succ]
                  refine wpAnyH_take (i := 9) (oi := ⟨_, _, _, _, _, _⟩) (v := ?_) rfl (by kernel_rfl) (by kernel_rfl) (by kernel_rfl) (fun _ _ _ h => h) (Or.inl ⟨by rfl, ?_⟩) (by assumption) ?_
                  rotate_left
                  · (intro w hSw; obtain ⟨s0, s1, s2, s3, s4, s5, s6, s7, s8, s9, s10, s11, s12⟩ := hSw; (go_simp <;> with_reducible rfl))
                  try simp only [Act.put, List.setIfInBounds_toArray, List.set_cons_zero, List.set_cons_succ]
                  refine wpAnyH_ready (rs := [11]) (by kernel_rfl) (by simp) ?_
                  refine (AllReadyH.cons (o := ⟨_, _, _, _, _, _⟩) rfl (fun K hK => ?_) AllReadyH.nil)
                  refine st_wp rfl (wp_store_row 33 _ _ rfl (wd.heap.size) #[.string H'.1, .string H'.2.1, .int .i64 H'.2.2.1, .int .i64 H'.2.2.2, .slice a' n' c'] rfl rfl 33 _ hZ4 (hi_info H' _) rfl (hi_one H' a' n' c') ?_)
                  have hSB5 := hSB4.setRow (r := wd.heap.size) (by omega) #[.string H'.1, .string H'.2.1, .int .i64 H'.2.2.1, .int .i64 H'.2.2.2, .slice a' n' c']
                  have hG5 := hG4.setRow (g := wd.heap.size) (.inl (by omega)) #[.string H'.1, .string H'.2.1, .int .i64 H'.2.2.1, .int .i64 H'.2.2.2, .slice a' n' c']
                  have hS5 := hS4.trans (GS.row (g := wd.heap.size) hz #[.string H'.1, .string H'.2.1, .int .i64 H'.2.2.1, .int .i64 H'.2.2.2, .slice a' n' c'])
                  have hR5 := Rd.grown hR4 ((G.refl _ (some (wd.heap.size))).setRow (.inr rfl) #[.string H'.1, .string H'.2.1, .int .i64 H'.2.2.1, .int .i64 H'.2.2.2, .slice a' n' c']) (fun k e hk => by cases e; exact hne4 _ hk rfl)
                  have hZ5 := hZ4.setRow #[.string H'.1, .string H'.2.1, .int .i64 H'.2.2.1, .int .i64 H'.2.2.2, .slice a' n' c']
                  have hne5 := hne4
                  clear hSB4 hG4
                  refine hK.out _ _ ?_ (fun hHeld => ?_)
                  · exact ⟨(HO.out _ hS5).1.1.1.2.cell 0, (HO.out _ hS5).1.1.1.2.cell 1, (HO.out _ hS5).1.1.1.2.cell 2, (HO.out _ hS5).1.1.1.2.cell 3, (HO.out _ hS5).1.1.1.2.cell 4, (HO.out _ hS5).1.2.cell 0, (HO.out _ hS5).1.2.cell 1, (HO.out _ hS5).1.2.cell 2, (HO.out _ hS5).1.2.cell 3, (HO.out _ hS5).2.cell 0, (HO.out _ hS5).2.cell 1, (HO.out _ hS5).2.cell 2, (HO.out _ hS5).2.cell 3⟩
                  clear hK K
                  try simp only [Act.put, List.setIfInBounds_toArray, List.set_cons_zero, List.set_cons_succ]
                  refine wpAnyH_take (i := 12) (oi := ⟨_, _, _, _, _, _⟩) (v := ?_) rfl (by kernel_rfl) (by kernel_rfl) (by kernel_rfl) (fun _ _ _ h => h) (Or.inl ⟨by rfl, ?_⟩) (by assumption) ?_
                  rotate_left
                  · (intro w hSw; obtain ⟨s0, s1, s2, s3, s4, s5, s6, s7, s8, s9, s10, s11, s12⟩ := hSw; (go_simp <;> with_reducible rfl))
                  try simp only [Act.put, List.setIfInBounds_toArray, List.set_cons_zero, List.set_cons_succ]
                  refine wpAnyH_done (by kernel_rfl) ?_ _
                  go_wp2_with fail
                  go_meet
                  case rel => exact ⟨_, H, inL l (i1, i2, i3, i4) ++ [(v, (o1, i2, o3, o4), noIn)], _, rfl, rfl, hv_leaf chR_ok HHH.out hR5 hZ5 (fun k e => ⟨by have := HB.out k e; omega, hne5 k e, by have := HB.out k e; omega⟩) (by omega) ((HOK.out.2.1.inL HRI.out.2.1).snoc ⟨HSv.out, HRI.out.2.1, small_nil⟩) HOK.out.2.2.1 HOK.out.2.2.2.1 HOK.out.2.2.2.2.1 HOK.out.2.2.2.2.2, ⟨a8, c8, (HO.out _ hS5).1.1.1.2, (HO.out _ hS5).1.1.2, HOWN.out, hN9⟩, (HO.out _ hS5).1.1.1.1, hSB5.le (by omega), hG5⟩
              case rest =>
                obtain ⟨g13, H2, l2, E, rfl, rfl, hE, hv, hB, hSB, hG⟩ := hcut
                clear HO HOWN HRI hn9 hg89 hN9 hlt7 hs5 hs7
                by_cases k1 : E = 0
                · obtain ⟨hok2, a9, c9, q1, q2, q3, q4⟩ := hE k1
                  obtain ⟨a8, c8, p1, p2, p3, p4⟩ := hv
                  have HOK2 := Lib.hid hok2
                  subst k1
                  clear hE hok2
                  simp only [hiC] at q1 p1
                  go_wp2_with (first | (refine wpList_load_row rfl 33 _ rfl (g13) rfl 33 #[.string H2.1, .string H2.2.1, .int .i64 H2.2.2.1, .int .i64 H2.2.2.2, .slice a9 l2.length c9] (0, 0) _ q1 Tryd.underlying33 rfl (hi_info H2 _) ?_) | (refine wpList_store_row rfl 33 _ _ rfl (g8) #[.string H2.1, .string H2.2.1, .int .i64 H2.2.2.1, .int .i64 H2.2.2.2, .slice a9 l2.length c9] rfl rfl 33 _ p1 (hi_info H2 _) rfl (hi_one H2 _ _ _) ?_))
                  go_roundg (n - (j + 1))
                  case rel => exact ⟨j + 1, t + d, H2, l2, by have := HJ.out; omega, rfl, rfl, by go_num, by omega, HOK2.out, ⟨a9, c9, p1.setRow _, Rd.grown q2 ((G.refl wc (some g8)).setRow (.inr rfl) _) (fun k e hk => by cases e; have := q3 _ hk; omega), fun k e => ⟨(q3 k e).1, (q3 k e).2.2, (q3 k e).2.2⟩, p4⟩, hB.farRow (show w.heap.size ≠ g8 by omega) _, hSB.setRow (by omega) _, hG.setRow (.inl (by omega)) _⟩
                  case measure => have := HJ.out; omega
                · have k1' : (E == 0) = false := by simpa using k1
                  clear k1 hE
                  go_wp2_with fail
                  go_roundg (n - (j + 1))
                  case rel => exact ⟨j + 1, t + d, H, l, by have := HJ.out; omega, rfl, rfl, by go_num, by omega, HOK.out, hv, hB, hSB, hG⟩
                  case measure => have := HJ.out; omega
            · obtain rfl : j = n := by omega
              go_wp2_with fail
              refine (flip_c _ _ _ _ hSB (by omega) (by omega)).mono ?_; rintro e w4 ⟨q, rfl, hSB4, hh⟩
              have hv4 := hv.ks (s := s) (by omega) _ (GS.stream hh)
              have hB4 := hB.grown hh (fun e => by have := Option.some.inj e; omega)
              have hG04 := hG.trans hh
              clear hv hB hSB hG hh
              cases q with
              | true =>
                have hv := hv4
                have hB := hB4
                have hSB := hSB4
                have hG := hG04
                clear hv4 hB4 hSB4 hG04
                obtain ⟨a8, c8, p1, p2, p3, p4⟩ := hv
                simp only [hiC] at p1
                go_wp2_with (first | (refine wpList_load_row rfl 33 _ rfl (g8) rfl 33 #[.string H.1, .string H.2.1, .int .i64 H.2.2.1, .int .i64 H.2.2.2, .slice a8 l.length c8] (0, 0) _ p1 Tryd.underlying33 rfl (hi_info H _) ?_) | (refine wpList_store_row rfl 33 _ _ rfl (w.heap.size) #[.string H.1, .string H.2.1, .int .i64 H.2.2.1, .int .i64 H.2.2.2, .slice a8 l.length c8] rfl rfl 33 _ hB (hi_info H _) rfl (hi_one H _ _ _) ?_))
                refine bodyPost_ret (results_cell_row rfl _ _ w.heap.size 33 #[.string H.1, .string H.2.1, .int .i64 H.2.2.1, .int .i64 H.2.2.2, .slice a8 l.length c8] (0, 0) _ rfl (hB.setRow _) Tryd.underlying33 rfl (hi_info H _)) rfl ?_
                exact rh_fin (H := H) HOK.out p2 (fun k e => (p3 k e).1) hSB (by have := HK.out; omega) hG hslt
              | false =>
                go_wp2_with fail
                refine (pick_c _ _ _ [1, 50, 100, 1440, 1470, 1471, 1500, 3000] _ _ _ (hSB4.alloc _) (by omega) (by decide) (by decide) (Rd.newAt _ rfl rfl (by decide)) (hSB4.newAt _ _ _ (Nat.le_refl _))).mono ?_; rintro e w5 ⟨d, rfl, hp, hSB5, hG5⟩
                have hdb : 1 ≤ d ∧ d ≤ 3000 := by simp only [List.mem_cons, List.mem_nil_iff, or_false] at hp; omega
                have hw : IntKind.i64.wrap (t + d) = t + d := by rw [IntKind.wrap_i64]; omega
                have hh := ((G.refl w4 (some s)).alloc (.cells _ 3)).trans hG5
                have hv5 := hv4.ks (s := s) (by omega) _ (GS.stream hh)
                have hB5 := hB4.grown hh (fun e => by have := Option.some.inj e; omega)
                have hG05 := hG04.trans hh
                clear hv4 hB4 hSB4 hG04 hG5 hh hp
                go_upto_region 19 with fail
                obtain ⟨a8, c8, hH9, hL9, hown9, hN9⟩ := hv5
                have hn9 : w.heap.size + 1 ≤ w5.heap.size := hB5.lt
                have hg89 : g8 < w5.heap.size := hH9.lt
                have hlb := Rd.blk hL9
                have HO := Lib.hid (((KS.old hB5 (by omega)).and (KS.old hH9 (by omega))).and (KS.rd (S := Snew s w5.heap.size) hL9 (by
                  rintro k hk (e | e)
                  · have := hown9 k hk; omega
                  · have := hlb k hk; omega)))
                have HOWN := Lib.hid hown9
                have hSB := hSB5
                have hG := hG05
                clear hB5 hH9 hL9 hSB5 hG05 hlb hown9
                simp only [hiC] at HO
                go_cut [15, 16] from 20 to 99 (fun s15 s16 w' => RhB w s (K + 100 * k + 22 + 26 * j + 14) g8 H l s15 s16 w')
                case first =>
                  have hq := (G.refl w5 none).drew
                  have hSB0 := hSB.quiet hq
                  have hG0 := hG.trans0 hq
                  have hS0 : GS (Snew s w5.heap.size) w5 w5.drew := GS.of_G hq
                  clear hq hSB hG
                  refine wp_region_held_drew (S := (fun w' => w'.cell? ⟨g8, 0, none⟩ = some (.string H.1) ∧ w'.cell? ⟨g8, 1, none⟩ = some (.string H.2.1) ∧ w'.cell? ⟨g8, 2, none⟩ = some (.int .i64 H.2.2.1) ∧ w'.cell? ⟨g8, 3, none⟩ = some (.int .i64 H.2.2.2) ∧ w'.cell? ⟨g8, 4, none⟩ = some (.slice a8 l.length c8))) (by kernel_rfl) ?_ (fun hHeld => ?_)
                  · exact ⟨(HO.out _ hS0).1.2.cell 0, (HO.out _ hS0).1.2.cell 1, (HO.out _ hS0).1.2.cell 2, (HO.out _ hS0).1.2.cell 3, (HO.out _ hS0).1.2.cell 4⟩
                  generalize w5.drew = wd at hHeld hSB0 hG0 hS0 ⊢
                  refine wpAnyH_take (i := 0) (oi := ⟨_, _, _, _, _, _⟩) (v := ?_) rfl (by kernel_rfl) (by kernel_rfl) (by kernel_rfl) (fun _ _ _ h => h) (Or.inl ⟨by rfl, ?_⟩) (by assumption) ?_
                  rotate_left
                  · (intro w hSw; obtain ⟨s0, s1, s2, s3, s4⟩ := hSw; (go_simp <;> with_reducible rfl))
                  try simp only [Act.put, List.setIfInBounds_toArray, List.set_cons_zero, List.set_cons_succ]
                  refine wpAnyH_take (i := 1) (oi := ⟨_, _, _, _, _, _⟩) (v := ?_) rfl (by kernel_rfl) (by kernel_rfl) (by kernel_rfl) (fun _ _ _ h => h) (Or.inl ⟨by rfl, ?_⟩) (by assumption) ?_
                  rotate_left
                  · (intro w hSw; obtain ⟨s0, s1, s2, s3, s4⟩ := hSw; (go_simp <;> with_reducible rfl))
                  try simp only [Act.put, List.setIfInBounds_toArray, List.set_cons_zero, List.set_cons_succ]
                  refine wpAnyH_take (i := 2) (oi := ⟨_, _, _, _, _, _⟩) (v := ?_) rfl (by kernel_rfl) (by kernel_rfl) (by kernel_rfl) (fun _ _ _ h => h) (Or.inl ⟨by rfl, ?_⟩) (by assumption) ?_
                  rotate_left
                  · (intro w hSw; obtain ⟨s0, s1, s2, s3, s4⟩ := hSw; (go_simp <;> with_reducible rfl))
                  try simp only [Act.put, List.setIfInBounds_toArray, List.set_cons_zero, List.set_cons_succ]
                  refine wpAnyH_ready (rs := [3, 8]) (by kernel_rfl) (by simp) ?_
                  refine (AllReadyH.cons (o := ⟨_, _, _, _, _, _⟩) rfl (fun K hK => ?_) (AllReadyH.cons (o := ⟨_, _, _, _, _, _⟩) rfl (fun K hK => ?_) AllReadyH.nil))
                  · go_simp
                    refine (reading_c (t + d) _ s _ (by unfold bnd; omega) hSB0 (by omega)).mono ?_
                    rintro e w1_r ⟨r, rfl, hr, hSB1, hh⟩
                    have HBr := Lib.hid hr
                    clear hr
                    have hG1 := hG0.trans hh
                    have hS1 := hS0.trans (GS.stream hh)
                    clear hh hSB0 hG0 hS0
                    refine hK.out _ _ ?_ (fun hHeld => ?_)
                    · exact ⟨(HO.out _ hS1).1.2.cell 0, (HO.out _ hS1).1.2.cell 1, (HO.out _ hS1).1.2.cell 2, (HO.out _ hS1).1.2.cell 3, (HO.out _ hS1).1.2.cell 4⟩
                    clear hK K
                    try simp only [Act.put, List.setIfInBounds_toArray, List.set_cons_zero, List.set_cons_succ]
                    refine wpAnyH_ready (rs := [4, 8]) (by kernel_rfl) (by simp) ?_
                    refine (AllReadyH.cons (o := ⟨_, _, _, _, _, _⟩) rfl (fun K hK => ?_) (AllReadyH.cons (o := ⟨_, _, _, _, _, _⟩) rfl (fun K hK => ?_) AllReadyH.nil))
                    · go_simp
                      refine (closeOf_c H (.slice a8 l.length c8) l r _ (HO.out _ hS1).2 HOK.out.2.1 HOK.out.2.2.1 HOK.out.2.2.2.1 HOK.out.2.2.2.2.1 HOK.out.2.2.2.2.2 (by have := HOK.out.len; omega) HBr.out.2.1).mono ?_
                      rintro e w2_m ⟨H', a', n', c', rfl, hHH, hbb, hR2, hh⟩
                      have HHH := Lib.hid hHH
                      have HB := Lib.hid (fun k e => Nat.le_trans hS1.size (hbb k e))
                      clear hHH hbb
                      have hSB2 := hSB1.quiet hh
                      have hG2 := hG1.trans0 hh
                      have hS2 := hS1.trans (GS.of_G hh)
                      clear hh hSB1 hG1 hS1
                      refine hK.out _ _ ?_ (fun hHeld => ?_)
                      · exact ⟨(HO.out _ hS2).1.2.cell 0, (HO.out _ hS2).1.2.cell 1, (HO.out _ hS2).1.2.cell 2, (HO.out _ hS2).1.2.cell 3, (HO.out _ hS2).1.2.cell 4⟩
                      clear hK K
                      try simp only [Act.put, List.setIfInBounds_toArray, List.set_cons_zero, List.set_cons_succ]
                      refine wpAnyH_take (i := 5) (oi := ⟨_, _, _, _, _, _⟩) (v := ?_) rfl (by kernel_rfl) (by kernel_rfl) (by kernel_rfl) (fun _ _ _ h => h) (Or.inl ⟨by rfl, ?_⟩) (by assumption) ?_
                      rotate_left
                      · (intro w hSw; obtain ⟨s0, s1, s2, s3, s4⟩ := hSw; (go_simp <;> with_reducible rfl))
                      try simp only [Act.put, List.setIfInBounds_toArray, List.set_cons_zero, List.set_cons_succ]
                      refine wpAnyH_take (i := 6) (oi := ⟨_, _, _, _, _, _⟩) (v := ?_) rfl (by kernel_rfl) (by kernel_rfl) (by kernel_rfl) (fun _ _ _ h => h) (Or.inl ⟨by rfl, ?_⟩) (by assumption) ?_
                      rotate_left
                      · (intro w hSw; obtain ⟨s0, s1, s2, s3, s4⟩ := hSw; (go_simp <;> with_reducible rfl))
                      try simp only [Act.put, List.setIfInBounds_toArray, List.set_cons_zero, List.set_cons_succ]
                      refine wpAnyH_take (i := 7) (oi := ⟨_, _, _, _, _, _⟩) (v := ?_) rfl (by kernel_rfl) (by kernel_rfl) (by kernel_rfl) (fun _ _ _ h => h) (Or.inl ⟨by rfl, ?_⟩) (by assumption) ?_
                      rotate_left
                      · (intro w hSw; obtain ⟨s0, s1, s2, s3, s4⟩ := hSw; (go_simp <;> with_reducible rfl))
                      try simp only [Act.put, List.setIfInBounds_toArray, List.set_cons_zero, List.set_cons_succ]
                      refine wpAnyH_ready (rs := [8]) (by kernel_rfl) (by simp) ?_
                      refine (AllReadyH.cons (o := ⟨_, _, _, _, _, _⟩) rfl (fun K hK => ?_) AllReadyH.nil)
                      go_simp
                      have hh := (G.refl w2_m none).alloc (.cells #[.string ⟨#[]⟩, .string ⟨#[]⟩, .int .i64 0, .int .i64 0, .slice none 0 0] 33)
                      have hz : w5.heap.size ≤ w2_m.heap.size := hS2.size
                      have hZZ := Bk.new w2_m 33 #[.string ⟨#[]⟩, .string ⟨#[]⟩, .int .i64 0, .int .i64 0, .slice none 0 0]
                      have hNE : ∀ k, (Value.slice a' n' c').ownBlock = some k → k ≠ w2_m.heap.size := fun k e => Nat.ne_of_lt (Rd.blk hR2 k e)
                      have hSB3 := hSB2.quiet hh
                      have hG3 := hG2.trans0 hh
                      have hS3 := hS2.trans (GS.of_G hh)
                      have hR3 := Rd.quiet hR2 hh
                      clear hh hSB2 hG2 hS2 hR2
                      have hZ3 := hZZ
                      have hne3 := hNE
                      generalize w2_m.alloc (.cells #[.string ⟨#[]⟩, .string ⟨#[]⟩, .int .i64 0, .int .i64 0, .slice none 0 0] 33) = w3_x at hSB3 hG3 hS3 hZ3 hR3 ⊢
                      refine hK.out _ _ ?_ (fun hHeld => ?_)
                      · exact ⟨(HO.out _ hS3).1.2.cell 0, (HO.out _ hS3).1.2.cell 1, (HO.out _ hS3).1.2.cell 2, (HO.out _ hS3).1.2.cell 3, (HO.out _ hS3).1.2.cell 4⟩
                      clear hK K
                      try simp only [Act.put, List.setIfInBounds_toArray, List.set_cons_zero, List.set_cons_succ]
                      refine wpAnyH_ready (rs := [9]) (by kernel_rfl) (by simp) ?_
                      refine (AllReadyH.cons (o := ⟨_, _, _, _, _, _⟩) rfl (fun K hK => ?_) AllReadyH.nil)
                      refine st_wp rfl (wp_store_row 33 _ _ rfl (w2_m.heap.size) #[.string H'.1, .string H'.2.1, .int .i64 H'.2.2.1, .int .i64 H'.2.2.2, .slice a' n' c'] rfl rfl 33 _ hZ3 (hi_info H' _) rfl (hi_one H' a' n' c') ?_)
                      have hSB4 := hSB3.setRow (r := w2_m.heap.size) (by omega) #[.string H'.1, .string H'.2.1, .int .i64 H'.2.2.1, .int .i64 H'.2.2.2, .slice a' n' c']
                      have hG4 := hG3.setRow (g := w2_m.heap.size) (.inl (by omega)) #[.string H'.1, .string H'.2.1, .int .i64 H'.2.2.1, .int .i64 H'.2.2.2, .slice a' n' c']
                      have hS4 := hS3.trans (GS.row (g := w2_m.heap.size) hz #[.string H'.1, .string H'.2.1, .int .i64 H'.2.2.1, .int .i64 H'.2.2.2, .slice a' n' c'])
                      have hR4 := Rd.grown hR3 ((G.refl _ (some (w2_m.heap.size))).setRow (.inr rfl) #[.string H'.1, .string H'.2.1, .int .i64 H'.2.2.1, .int .i64 H'.2.2.2, .slice a' n' c']) (fun k e hk => by cases e; exact hne3 _ hk rfl)
                      have hZ4 := hZ3.setRow #[.string H'.1, .string H'.2.1, .int .i64 H'.2.2.1, .int .i64 H'.2.2.2, .slice a' n' c']
                      have hne4 := hne3
                      clear hSB3 hG3
                      refine hK.out _ _ ?_ (fun hHeld => ?_)
                      · exact ⟨(HO.out _ hS4).1.2.cell 0, (HO.out _ hS4).1.2.cell 1, (HO.out _ hS4).1.2.cell 2, (HO.out _ hS4).1.2.cell 3, (HO.out _ hS4).1.2.cell 4⟩
                      clear hK K
                      try simp only [Act.put, List.setIfInBounds_toArray, List.set_cons_zero, List.set_cons_succ]
                      refine wpAnyH_take (i := 10) (oi := ⟨_, _, _, _, _, _⟩) (v := ?_) rfl (by kernel_rfl) (by kernel_rfl) (by kernel_rfl) (fun _ _ _ h => h) (Or.inl ⟨by rfl, ?_⟩) (by assumption) ?_
                      rotate_left
                      · (intro w hSw; obtain ⟨s0, s1, s2, s3, s4⟩ := hSw; (go_simp <;> with_reducible rfl))
                      try simp only [Act.put, List.setIfInBounds_toArray, List.set_cons_zero, List.set_cons_succ]
                      refine wpAnyH_done (by kernel_rfl) ?_ _
                      go_wp2_with fail
                      go_meet
                      case rel => exact ⟨_, H, inL l r, _, rfl, rfl, hv_leaf chR_ok HHH.out hR4 hZ4 (fun k e => ⟨by have := HB.out k e; omega, hne4 k e, by have := HB.out k e; omega⟩) (by omega) (HOK.out.2.1.inL HBr.out.2.1) HOK.out.2.2.1 HOK.out.2.2.2.1 HOK.out.2.2.2.2.1 HOK.out.2.2.2.2.2, ⟨a8, c8, (HO.out _ hS4).1.2, (HO.out _ hS4).2, HOWN.out, hN9⟩, (HO.out _ hS4).1.1, hSB4.le (by omega), hG4⟩
                    · go_simp
                      have hh := (G.refl w1_r none).alloc (.cells #[.string ⟨#[]⟩, .string ⟨#[]⟩, .int .i64 0, .int .i64 0, .slice none 0 0] 33)
                      have hz : w5.heap.size ≤ w1_r.heap.size := hS1.size
                      have hZZ := Bk.new w1_r 33 #[.string ⟨#[]⟩, .string ⟨#[]⟩, .int .i64 0, .int .i64 0, .slice none 0 0]
                      have hSB2 := hSB1.quiet hh
                      have hG2 := hG1.trans0 hh
                      have hS2 := hS1.trans (GS.of_G hh)
                      clear hh hSB1 hG1 hS1
                      have hZ2 := hZZ
                      generalize w1_r.alloc (.cells #[.string ⟨#[]⟩, .string ⟨#[]⟩, .int .i64 0, .int .i64 0, .slice none 0 0] 33) = w2_x at hSB2 hG2 hS2 hZ2 ⊢
                      refine hK.out _ _ ?_ (fun hHeld => ?_)
                      · exact ⟨(HO.out _ hS2).1.2.cell 0, (HO.out _ hS2).1.2.cell 1, (HO.out _ hS2).1.2.cell 2, (HO.out _ hS2).1.2.cell 3, (HO.out _ hS2).1.2.cell 4⟩
                      clear hK K
                      try simp only [Act.put, List.setIfInBounds_toArray, List.set_cons_zero, List.set_cons_succ]
                      refine wpAnyH_ready (rs := [4]) (by kernel_rfl) (by simp) ?_
                      refine (AllReadyH.cons (o := ⟨_, _, _, _, _, _⟩) rfl (fun K hK => ?_) AllReadyH.nil)
                      go_simp
                      refine (closeOf_c H (.slice a8 l.length c8) l r _ (HO.out _ hS2).2 HOK.out.2.1 HOK.out.2.2.1 HOK.out.2.2.2.1 HOK.out.2.2.2.2.1 HOK.out.2.2.2.2.2 (by have := HOK.out.len; omega) HBr.out.2.1).mono ?_
                      rintro e w3_m ⟨H', a', n', c', rfl, hHH, hbb, hR3, hh⟩
                      have HHH := Lib.hid hHH
                      have HB := Lib.hid (fun k e => Nat.le_trans hS2.size (hbb k e))
                      have hne3 : ∀ k, (Value.slice a' n' c').ownBlock = some k → k ≠ w1_r.heap.size := fun k e => by have := hbb k e; have := hZ2.lt; omega
                      clear hHH hbb
                      have hSB3 := hSB2.quiet hh
                      have hG3 := hG2.trans0 hh
                      have hS3 := hS2.trans (GS.of_G hh)
                      have hZ3 := hZ2.quiet hh
                      clear hh hSB2 hG2 hS2 hZ2
                      refine hK.out _ _ ?_ (fun hHeld => ?_)
                      · exact ⟨(HO.out _ hS3).1.2.cell 0, (HO.out _ hS3).1.2.cell 1, (HO.out _ hS3).1.2.cell 2, (HO.out _ hS3).1.2.cell 3, (HO.out _ hS3).1.2.cell 4⟩
                      clear hK K
                      try simp only [Act.put, List.setIfInBounds_toArray, List.set_cons_zero, List.set_cons_succ]
                      refine wpAnyH_take (i := 5) (oi := ⟨_, _, _, _, _, _⟩) (v := ?_) rfl (by kernel_rfl) (by kernel_rfl) (by kernel_rfl) (fun _ _ _ h => h) (Or.inl ⟨by rfl, ?_⟩) (by assumption) ?_
                      rotate_left
                      · (intro w hSw; obtain ⟨s0, s1, s2, s3, s4⟩ := hSw; (go_simp <;> with_reducible rfl))
                      try simp only [Act.put, List.setIfInBounds_toArray, List.set_cons_zero, List.set_cons_succ]
                      refine wpAnyH_take (i := 6) (oi := ⟨_, _, _, _, _, _⟩) (v := ?_) rfl (by kernel_rfl) (by kernel_rfl) (by kernel_rfl) (fun _ _ _ h => h) (Or.inl ⟨by rfl, ?_⟩) (by assumption) ?_
                      rotate_left
                      · (intro w hSw; obtain ⟨s0, s1, s2, s3, s4⟩ := hSw; (go_simp <;> with_reducible rfl))
                      try simp only [Act.put, List.setIfInBounds_toArray, List.set_cons_zero, List.set_cons_succ]
                      refine wpAnyH_take (i := 7) (oi := ⟨_, _, _, _, _, _⟩) (v := ?_) rfl (by kernel_rfl) (by kernel_rfl) (by kernel_rfl) (fun _ _ _ h => h) (Or.inl ⟨by rfl, ?_⟩) (by assumption) ?_
                      rotate_left
                      · (intro w hSw; obtain ⟨s0, s1, s2, s3, s4⟩ := hSw; (go_simp <;> with_reducible rfl))
                      try simp only [Act.put, List.setIfInBounds_toArray, List.set_cons_zero, List.set_cons_succ]
                      refine wpAnyH_ready (rs := [9]) (by kernel_rfl) (by simp) ?_
                      refine (AllReadyH.cons (o := ⟨_, _, _, _, _, _⟩) rfl (fun K hK => ?_) AllReadyH.nil)
                      refine st_wp rfl (wp_store_row 33 _ _ rfl (w1_r.heap.size) #[.string H'.1, .string H'.2.1, .int .i64 H'.2.2.1, .int .i64 H'.2.2.2, .slice a' n' c'] rfl rfl 33 _ hZ3 (hi_info H' _) rfl (hi_one H' a' n' c') ?_)
                      have hSB4 := hSB3.setRow (r := w1_r.heap.size) (by omega) #[.string H'.1, .string H'.2.1, .int .i64 H'.2.2.1, .int .i64 H'.2.2.2, .slice a' n' c']
                      have hG4 := hG3.setRow (g := w1_r.heap.size) (.inl (by omega)) #[.string H'.1, .string H'.2.1, .int .i64 H'.2.2.1, .int .i64 H'.2.2.2, .slice a' n' c']
                      have hS4 := hS3.trans (GS.row (g := w1_r.heap.size) hz #[.string H'.1, .string H'.2.1, .int .i64 H'.2.2.1, .int .i64 H'.2.2.2, .slice a' n' c'])
                      have hR4 := Rd.grown hR3 ((G.refl _ (some (w1_r.heap.size))).setRow (.inr rfl) #[.string H'.1, .string H'.2.1, .int .i64 H'.2.2.1, .int .i64 H'.2.2.2, .slice a' n' c']) (fun k e hk => by cases e; exact hne3 _ hk rfl)
                      have hZ4 := hZ3.setRow #[.string H'.1, .string H'.2.1, .int .i64 H'.2.2.1, .int .i64 H'.2.2.2, .slice a' n' c']
                      have hne4 := hne3
                      clear hSB3 hG3
                      refine hK.out _ _ ?_ (fun hHeld => ?_)
                      · exact ⟨(HO.out _ hS4).1.2.cell 0, (HO.out _ hS4).1.2.cell 1, (HO.out _ hS4).1.2.cell 2, (HO.out _ hS4).1.2.cell 3, (HO.out _ hS4).1.2.cell 4⟩
                      clear hK K
                      try simp only [Act.put, List.setIfInBounds_toArray, List.set_cons_zero, List.set_cons_succ]
                      refine wpAnyH_take (i := 10) (oi := ⟨_, _, _, _, _, _⟩) (v := ?_) rfl (by kernel_rfl) (by kernel_rfl) (by kernel_rfl) (fun _ _ _ h => h) (Or.inl ⟨by rfl, ?_⟩) (by assumption) ?_
                      rotate_left
                      · (intro w hSw; obtain ⟨s0, s1, s2, s3, s4⟩ := hSw; (go_simp <;> with_reducible rfl))
                      try simp only [Act.put, List.setIfInBounds_toArray, List.set_cons_zero, List.set_cons_succ]
                      refine wpAnyH_done (by kernel_rfl) ?_ _
                      go_wp2_with fail
                      go_meet
                      case rel => exact ⟨_, H, inL l r, _, rfl, rfl, hv_leaf chR_ok HHH.out hR4 hZ4 (fun k e => ⟨by have := HB.out k e; omega, hne4 k e, by have := HB.out k e; omega⟩) (by omega) (HOK.out.2.1.inL HBr.out.2.1) HOK.out.2.2.1 HOK.out.2.2.2.1 HOK.out.2.2.2.2.1 HOK.out.2.2.2.2.2, ⟨a8, c8, (HO.out _ hS4).1.2, (HO.out _ hS4).2, HOWN.out, hN9⟩, (HO.out _ hS4).1.1, hSB4.le (by omega), hG4⟩
                  · go_simp
                    have hh := (G.refl wd none).alloc (.cells #[.string ⟨#[]⟩, .string ⟨#[]⟩, .int .i64 0, .int .i64 0, .slice none 0 0] 33)
                    have hz : w5.heap.size ≤ wd.heap.size := hS0.size
                    have hZZ := Bk.new wd 33 #[.string ⟨#[]⟩, .string ⟨#[]⟩, .int .i64 0, .int .i64 0, .slice none 0 0]
                    have hSB1 := hSB0.quiet hh
                    have hG1 := hG0.trans0 hh
                    have hS1 := hS0.trans (GS.of_G hh)
                    clear hh hSB0 hG0 hS0
                    have hZ1 := hZZ
                    generalize wd.alloc (.cells #[.string ⟨#[]⟩, .string ⟨#[]⟩, .int .i64 0, .int .i64 0, .slice none 0 0] 33) = w1_x at hSB1 hG1 hS1 hZ1 ⊢
                    refine hK.out _ _ ?_ (fun hHeld => ?_)
                    · exact ⟨(HO.out _ hS1).1.2.cell 0, (HO.out _ hS1).1.2.cell 1, (HO.out _ hS1).1.2.cell 2, (HO.out _ hS1).1.2.cell 3, (HO.out _ hS1).1.2.cell 4⟩
                    clear hK K
                    try simp only [Act.put, List.setIfInBounds_toArray, List.set_cons_zero, List.set_cons_succ]
                    refine wpAnyH_ready (rs := [3]) (by kernel_rfl) (by simp) ?_
                    refine (AllReadyH.cons (o := ⟨_, _, _, _, _, _⟩) rfl (fun K hK => ?_) AllReadyH.nil)
                    go_simp
                    refine (reading_c (t + d) _ s _ (by unfold bnd; omega) hSB1 (by omega)).mono ?_
                    rintro e w2_r ⟨r, rfl, hr, hSB2, hh⟩
                    have HBr := Lib.hid hr
                    clear hr
                    have hG2 := hG1.trans hh
                    have hS2 := hS1.trans (GS.stream hh)
                    have hZ2 := hZ1.grown hh (fun e => by have := Option.some.inj e; omega)
                    clear hh hSB1 hG1 hS1 hZ1
                    refine hK.out _ _ ?_ (fun hHeld => ?_)
                    · exact ⟨(HO.out _ hS2).1.2.cell 0, (HO.out _ hS2).1.2.cell 1, (HO.out _ hS2).1.2.cell 2, (HO.out _ hS2).1.2.cell 3, (HO.out _ hS2).1.2.cell 4⟩
                    clear hK K
                    try simp only [Act.put, List.setIfInBounds_toArray, List.set_cons_zero, List.set_cons_succ]
                    refine wpAnyH_ready (rs := [4]) (by kernel_rfl) (by simp) ?_
                    refine (AllReadyH.cons (o := ⟨_, _, _, _, _, _⟩) rfl (fun K hK => ?_) AllReadyH.nil)
                    go_simp
                    refine (closeOf_c H (.slice a8 l.length c8) l r _ (HO.out _ hS2).2 HOK.out.2.1 HOK.out.2.2.1 HOK.out.2.2.2.1 HOK.out.2.2.2.2.1 HOK.out.2.2.2.2.2 (by have := HOK.out.len; omega) HBr.out.2.1).mono ?_
                    rintro e w3_m ⟨H', a', n', c', rfl, hHH, hbb, hR3, hh⟩
                    have HHH := Lib.hid hHH
                    have HB := Lib.hid (fun k e => Nat.le_trans hS2.size (hbb k e))
                    have hne3 : ∀ k, (Value.slice a' n' c').ownBlock = some k → k ≠ wd.heap.size := fun k e => by have := hbb k e; have := hZ2.lt; omega
                    clear hHH hbb
                    have hSB3 := hSB2.quiet hh
                    have hG3 := hG2.trans0 hh
                    have hS3 := hS2.trans (GS.of_G hh)
                    have hZ3 := hZ2.quiet hh
                    clear hh hSB2 hG2 hS2 hZ2
                    refine hK.out _ _ ?_ (fun hHeld => ?_)
                    · exact ⟨(HO.out _ hS3).1.2.cell 0, (HO.out _ hS3).1.2.cell 1, (HO.out _ hS3).1.2.cell 2, (HO.out _ hS3).1.2.cell 3, (HO.out _ hS3).1.2.cell 4⟩
                    clear hK K
                    try simp only [Act.put, List.setIfInBounds_toArray, List.set_cons_zero, List.set_cons_succ]
                    refine wpAnyH_take (i := 5) (oi := ⟨_, _, _, _, _, _⟩) (v := ?_) rfl (by kernel_rfl) (by kernel_rfl) (by kernel_rfl) (fun _ _ _ h => h) (Or.inl ⟨by rfl, ?_⟩) (by assumption) ?_
                    rotate_left
                    · (intro w hSw; obtain ⟨s0, s1, s2, s3, s4⟩ := hSw; (go_simp <;> with_reducible rfl))
                    try simp only [Act.put, List.setIfInBounds_toArray, List.set_cons_zero, List.set_cons_succ]
                    refine wpAnyH_take (i := 6) (oi := ⟨_, _, _, _, _, _⟩) (v := ?_) rfl (by kernel_rfl) (by kernel_rfl) (by kernel_rfl) (fun _ _ _ h => h) (Or.inl ⟨by rfl, ?_⟩) (by assumption) ?_
                    rotate_left
                    · (intro w hSw; obtain ⟨s0, s1, s2, s3, s4⟩ := hSw; (go_simp <;> with_reducible rfl))
                    try simp only [Act.put, List.setIfInBounds_toArray, List.set_cons_zero, List.set_cons_succ]
                    refine wpAnyH_take (i := 7) (oi := ⟨_, _, _, _, _, _⟩) (v := ?_) rfl (by kernel_rfl) (by kernel_rfl) (by kernel_rfl) (fun _ _ _ h => h) (Or.inl ⟨by rfl, ?_⟩) (by assumption) ?_
                    rotate_left
                    · (intro w hSw; obtain ⟨s0, s1, s2, s3, s4⟩ := hSw; (go_simp <;> with_reducible rfl))
                    try simp only [Act.put, List.setIfInBounds_toArray, List.set_cons_zero, List.set_cons_succ]
                    refine wpAnyH_ready (rs := [9]) (by kernel_rfl) (by simp) ?_
                    refine (AllReadyH.cons (o := ⟨_, _, _, _, _, _⟩) rfl (fun K hK => ?_) AllReadyH.nil)
                    refine st_wp rfl (wp_store_row 33 _ _ rfl (wd.heap.size) #[.string H'.1, .string H'.2.1, .int .i64 H'.2.2.1, .int .i64 H'.2.2.2, .slice a' n' c'] rfl rfl 33 _ hZ3 (hi_info H' _) rfl (hi_one H' a' n' c') ?_)
                    have hSB4 := hSB3.setRow (r := wd.heap.size) (by omega) #[.string H'.1, .string H'.2.1, .int .i64 H'.2.2.1, .int .i64 H'.2.2.2, .slice a' n' c']
                    have hG4 := hG3.setRow (g := wd.heap.size) (.inl (by omega)) #[.string H'.1, .string H'.2.1, .int .i64 H'.2.2.1, .int .i64 H'.2.2.2, .slice a' n' c']
                    have hS4 := hS3.trans (GS.row (g := wd.heap.size) hz #[.string H'.1, .string H'.2.1, .int .i64 H'.2.2.1, .int .i64 H'.2.2.2, .slice a' n' c'])
                    have hR4 := Rd.grown hR3 ((G.refl _ (some (wd.heap.size))).setRow (.inr rfl) #[.string H'.1, .string H'.2.1, .int .i64 H'.2.2.1, .int .i64 H'.2.2.2, .slice a' n' c']) (fun k e hk => by cases e; exact hne3 _ hk rfl)
                    have hZ4 := hZ3.setRow #[.string H'.1, .string H'.2.1, .int .i64 H'.2.2.1, .int .i64 H'.2.2.2, .slice a' n' c']
                    have hne4 := hne3
                    clear hSB3 hG3
                    refine hK.out _ _ ?_ (fun hHeld => ?_)
                    · exact ⟨(HO.out _ hS4).1.2.cell 0, (HO.out _ hS4).1.2.cell 1, (HO.out _ hS4).1.2.cell 2, (HO.out _ hS4).1.2.cell 3, (HO.out _ hS4).1.2.cell 4⟩
                    clear hK K
                    try simp only [Act.put, List.setIfInBounds_toArray, List.set_cons_zero, List.set_cons_succ]
                    refine wpAnyH_take (i := 10) (oi := ⟨_, _, _, _, _, _⟩) (v := ?_) rfl (by kernel_rfl) (by kernel_rfl) (by kernel_rfl) (fun _ _ _ h => h) (Or.inl ⟨by rfl, ?_⟩) (by assumption) ?_
                    rotate_left
                    · (intro w hSw; obtain ⟨s0, s1, s2, s3, s4⟩ := hSw; (go_simp <;> with_reducible rfl))
                    try simp only [Act.put, List.setIfInBounds_toArray, List.set_cons_zero, List.set_cons_succ]
                    refine wpAnyH_done (by kernel_rfl) ?_ _
                    go_wp2_with fail
                    go_meet
                    case rel => exact ⟨_, H, inL l r, _, rfl, rfl, hv_leaf chR_ok HHH.out hR4 hZ4 (fun k e => ⟨by have := HB.out k e; omega, hne4 k e, by have := HB.out k e; omega⟩) (by omega) (HOK.out.2.1.inL HBr.out.2.1) HOK.out.2.2.1 HOK.out.2.2.2.1 HOK.out.2.2.2.2.1 HOK.out.2.2.2.2.2, ⟨a8, c8, (HO.out _ hS4).1.2, (HO.out _ hS4).2, HOWN.out, hN9⟩, (HO.out _ hS4).1.1, hSB4.le (by omega), hG4⟩
                case rest =>
                  obtain ⟨g15, H2, l2, E, rfl, rfl, hE, hv, hB, hSB, hG⟩ := hcut
                  clear HO HOWN hn9 hg89 hN9
                  by_cases k1 : E = 0
                  · obtain ⟨hok2, a9, c9, q1, q2, q3, q4⟩ := hE k1
                    obtain ⟨a8, c8, p1, p2, p3, p4⟩ := hv
                    have HOK2 := Lib.hid hok2
                    subst k1
                    clear hE hok2
                    simp only [hiC] at q1 p1
                    have hp1 := p1.setRow #[.string H2.1, .string H2.2.1, .int .i64 H2.2.2.1, .int .i64 H2.2.2.2, .slice a9 l2.length c9]
                    have hBf := hB.farRow (show w.heap.size ≠ g8 by omega) #[.string H2.1, .string H2.2.1, .int .i64 H2.2.2.1, .int .i64 H2.2.2.2, .slice a9 l2.length c9]
                    go_upto_region 22 with (first | (refine wpList_load_row rfl 33 _ rfl (g15) rfl 33 #[.string H2.1, .string H2.2.1, .int .i64 H2.2.2.1, .int .i64 H2.2.2.2, .slice a9 l2.length c9] (0, 0) _ q1 Tryd.underlying33 rfl (hi_info H2 _) ?_) | (refine wpList_store_row rfl 33 _ _ rfl (g8) #[.string H2.1, .string H2.2.1, .int .i64 H2.2.2.1, .int .i64 H2.2.2.2, .slice a9 l2.length c9] rfl rfl 33 _ p1 (hi_info H2 _) rfl (hi_one H2 _ _ _) ?_))
                    have hSBf := hSB.setRow (r := g8) (by omega) #[.string H2.1, .string H2.2.1, .int .i64 H2.2.2.1, .int .i64 H2.2.2.2, .slice a9 l2.length c9]
                    have hGf := hG.setRow (g := g8) (.inl (by omega)) #[.string H2.1, .string H2.2.1, .int .i64 H2.2.2.1, .int .i64 H2.2.2.2, .slice a9 l2.length c9]
                    have hRf := Rd.grown q2 ((G.refl wc (some g8)).setRow (.inr rfl) #[.string H2.1, .string H2.2.1, .int .i64 H2.2.2.1, .int .i64 H2.2.2.2, .slice a9 l2.length c9]) (fun k e hk => by cases e; have := q3 _ hk; omega)
                    generalize wc.setRow g8 #[.string H2.1, .string H2.2.1, .int .i64 H2.2.2.1, .int .i64 H2.2.2.2, .slice a9 l2.length c9] = wd at hp1 hBf hSBf hGf hRf ⊢
                    clear p1 hB hSB hG p2 q1 q2
                    go_wp2_with (first | (refine wpList_load_row rfl 33 _ rfl (g8) rfl 33 #[.string H2.1, .string H2.2.1, .int .i64 H2.2.2.1, .int .i64 H2.2.2.2, .slice a9 l2.length c9] (0, 0) _ hp1 Tryd.underlying33 rfl (hi_info H2 _) ?_) | (refine wpList_store_row rfl 33 _ _ rfl (w.heap.size) #[.string H2.1, .string H2.2.1, .int .i64 H2.2.2.1, .int .i64 H2.2.2.2, .slice a9 l2.length c9] rfl rfl 33 _ hBf (hi_info H2 _) rfl (hi_one H2 _ _ _) ?_))
                    refine bodyPost_ret (results_cell_row rfl _ _ w.heap.size 33 #[.string H2.1, .string H2.2.1, .int .i64 H2.2.2.1, .int .i64 H2.2.2.2, .slice a9 l2.length c9] (0, 0) _ rfl (hBf.setRow _) Tryd.underlying33 rfl (hi_info H2 _)) rfl ?_
                    exact rh_fin (H := H2) HOK2.out hRf (fun k e => (q3 k e).1) hSBf (by have := HK.out; omega) hGf hslt
                  · have k1' : (E == 0) = false := by simpa using k1
                    clear k1 hE
                    obtain ⟨a8, c8, p1, p2, p3, p4⟩ := hv
                    simp only [hiC] at p1
                    go_wp2_with (first | (refine wpList_load_row rfl 33 _ rfl (g8) rfl 33 #[.string H.1, .string H.2.1, .int .i64 H.2.2.1, .int .i64 H.2.2.2, .slice a8 l.length c8] (0, 0) _ p1 Tryd.underlying33 rfl (hi_info H _) ?_) | (refine wpList_store_row rfl 33 _ _ rfl (w.heap.size) #[.string H.1, .string H.2.1, .int .i64 H.2.2.1, .int .i64 H.2.2.2, .slice a8 l.length c8] rfl rfl 33 _ hB (hi_info H _) rfl (hi_one H _ _ _) ?_))
                    refine bodyPost_ret (results_cell_row rfl _ _ w.heap.size 33 #[.string H.1, .string H.2.1, .int .i64 H.2.2.1, .int .i64 H.2.2.2, .slice a8 l.length c8] (0, 0) _ rfl (hB.setRow _) Tryd.underlying33 rfl (hi_info H _)) rfl ?_
                    exact rh_fin (H := H) HOK.out p2 (fun k e => (p3 k e).1) hSB (by have := HK.out; omega) hG hslt
        · have k1' : (E != 0) = true := by simpa using k1
          clear k1 hE
          go_wp2_with fail
          go_roundg (6 - (k + 1))
          case rel => exact ⟨k + 1, by have := HK.out; omega, rfl, by go_num, hB, hSB.le (by omega), hG⟩
          case measure => have := HK.out; omega
    · obtain rfl : k = 6 := by omega
      have hw : IntKind.i64.wrap (f + 60) = f + 60 := by rw [IntKind.wrap_i64]; omega
      go_wp2_with fail
      refine (startOf_c (key, ⟨#[97, 110, 110]⟩, f, f + 60) ⟨#[118, 49]⟩ (f, ⟨#[115, 49]⟩, 0, 0) _ sm_v1 sm_s1 HKS.out sm_ann (by unfold bnd; dsimp only; omega) (by unfold bnd; dsimp only; omega)).mono ?_
      rintro e w2 ⟨H, a8, n, c8, rfl, hHH, hbb, hR, hh⟩
      rw [fall_ok HKEY.out hf0 hf1] at hHH hR
      obtain rfl : H = (key, ⟨#[97, 110, 110]⟩, f, f + 60) := hHH
      have hR : RdR w2 9 lgC (.slice a8 n c8) [(⟨#[118, 49]⟩, (f, ⟨#[115, 49]⟩, 0, 0), noIn)] := hR
      obtain ⟨a', c', hv', -, -⟩ := RdR.form hR
      cases hv'
      have hB2 := hB.quiet hh
      have hSB2 := hSB.quiet hh
      have hG2 := hG.trans0 hh
      have hbl := hB.lt
      have hHOK : Hid (HOk (key, ⟨#[97, 110, 110]⟩, f, f + 60) [(⟨#[118, 49]⟩, (f, ⟨#[115, 49]⟩, 0, 0), noIn)]) := Lib.hid ⟨fall_ok HKEY.out hf0 hf1, fun x hx => by obtain rfl := List.mem_singleton.1 hx; exact ⟨sm_v1, sm_s1, small_nil⟩, HKS.out, sm_ann, by unfold bnd; dsimp only; omega, by unfold bnd; dsimp only; omega⟩
      clear hB hSB hG hh
      go_wp2_with (refine wpList_store_row rfl 33 _ _ rfl (w.heap.size) #[.string key, .string ⟨#[97, 110, 110]⟩, .int .i64 f, .int .i64 (f + 60), .slice a8 1 c8] rfl rfl 33 _ (hB2.alloc (.cells #[.string key, .string ⟨#[97, 110, 110]⟩, .int .i64 f, .int .i64 (f + 60), .slice a8 1 c8] 33)) (hi_info (key, ⟨#[97, 110, 110]⟩, f, f + 60) _) rfl (hi_one (key, ⟨#[97, 110, 110]⟩, f, f + 60) _ _ _) ?_)
      refine bodyPost_ret (results_cell_row rfl _ _ w.heap.size 33 #[.string key, .string ⟨#[97, 110, 110]⟩, .int .i64 f, .int .i64 (f + 60), .slice a8 1 c8] (0, 0) _ rfl ((hB2.alloc (.cells #[.string key, .string ⟨#[97, 110, 110]⟩, .int .i64 f, .int .i64 (f + 60), .slice a8 1 c8] 33)).setRow _) Tryd.underlying33 rfl (hi_info (key, ⟨#[97, 110, 110]⟩, f, f + 60) _)) rfl ?_
      exact rh_fin (H := (key, ⟨#[97, 110, 110]⟩, f, f + 60)) (l := [(⟨#[118, 49]⟩, (f, ⟨#[115, 49]⟩, 0, 0), noIn)]) hHOK.out (hR.quiet ((G.refl w2 none).alloc (.cells #[.string key, .string ⟨#[97, 110, 110]⟩, .int .i64 f, .int .i64 (f + 60), .slice a8 1 c8] 33))) (fun k e => by have := hbb k e; omega) (hSB2.alloc (.cells #[.string key, .string ⟨#[97, 110, 110]⟩, .int .i64 f, .int .i64 (f + 60), .slice a8 1 c8] 33)) (by omega) (hG2.alloc (.cells #[.string key, .string ⟨#[97, 110, 110]⟩, .int .i64 f, .int .i64 (f + 60), .slice a8 1 c8] 33)) hslt
end Go.Proofs.YtdcofbciebkfkaaDoor
