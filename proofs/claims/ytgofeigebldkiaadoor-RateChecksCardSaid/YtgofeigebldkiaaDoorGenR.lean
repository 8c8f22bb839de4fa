/- Generator: right rates. -/
import Derived.Test.YtgofeigebldkiaaDoorRae
import Derived.Test.YtgofeigebldkiaaDoorGenE
import Derived.Deep.RegionHeld3
namespace Go.Proofs.YtgofeigebldkiaaDoor
open Go.RowKit

/-- A row of rates that the call owns. -/
abbrev OwnRa (w : World) (base : Nat) (v : Value) (l : List Ra) : Prop := w.ownsRow base 37 7 v l.length (rowL raC l)
theorem ra_row : (Tryd.prog.info? 37).map (fun i => (i.zero, i.size, i.bytes)) = some (some (.agg (raC raZ)), 7, 64) := by kernel_rfl
theorem wp_append_ra {w : World} {o : Oper} {a : Act} {K : Act → World → Prop} {Q : Exit → Act → World → Prop} (s x : Operand)
    (ho : o.op = .call { callee := .builtin .append, args := #[s, x], argTypes := #[26, 26] }) (base : Nat) (v : Value) (l : List Ra) (hs : a.eval s = v) (hown : OwnRa w base v l)
    (g : Nat) (r : Ra) (hx : a.eval x = .slice (some ⟨g, 0, none⟩) 1 1) (hb : Bk w g 37 (raC r)) (hl : l.length ≤ 1000) (hbase : base ≤ w.heap.size)
    (hK : ∀ v' w', OwnRa w' base v' (l ++ [r]) → w.grownBy w' v.ownBlock → K (a.put o.dst v') w') : o.wp Tryd.prog a w K Q := by
  obtain ⟨i0, hi, hz0, hz1, hz2⟩ := info_parts ra_row
  refine wp_append_own w s x 26 ho base 37 i0 _ 7 64 Tryd.underlying26 hi hz0 hz1 hz2 rfl (by decide) v l.length (rowL raC l) hs hown ⟨g, 0, none⟩ 1 1 (raC r).toList hx rfl hb.at_ (raC_one r) (by unfold maxLen; omega) (by omega) hbase ?_
  intro v' w' h1 h2 _
  refine hK v' w' ?_ h2
  unfold OwnRa
  rw [List.length_append, rowL_snoc]
  exact h1
theorem OwnRa.alloc {w : World} {base : Nat} {v : Value} {l : List Ra} (h : OwnRa w base v l) (o : Obj) : OwnRa (w.alloc o) base v l := World.ownsRow.alloc h o
theorem OwnRa.kept {w w' : World} {base : Nat} {v : Value} {l : List Ra} {s : Nat} (h : OwnRa w base v l) (hg : G w w' (some s)) (hs : s < base) : OwnRa w' base v l := by
  refine World.ownsRow.kept h hg (.inr fun e => ?_)
  have := (World.ownsRow.lt h s e).1
  omega
theorem RaOk.snoc {l : List Ra} {r : Ra} (h : RaOk l) (hr : raB r) : RaOk (l ++ [r]) := fun p hp => by
  rcases List.mem_append.1 hp with hp | hp
  · exact h p hp
  · obtain rfl := List.mem_singleton.1 hp
    exact hr
theorem min2r (x y : Int) (w : World) : (Builtin.min_ #[3, 3] 3 #[.int .i64 x, .int .i64 y]).run Tryd.prog w = .ok (.int .i64 (min x y)) w := by
  have e : (if y < x then y else x) = min x y := by
    rw [Int.min_def]
    split <;> split <;> omega
  simp [Builtin.min_, Builtin.min2, e]
theorem OwnRa.grown {w w' : World} {base : Nat} {v : Value} {l : List Ra} {o : Option Nat} (h : OwnRa w base v l) (hg : G w w' o) (ho : v.ownBlock = none ∨ v.ownBlock ≠ o) : OwnRa w' base v l := World.ownsRow.kept h hg ho
theorem OwnRa.ne {w : World} {base : Nat} {v : Value} {l : List Ra} (h : OwnRa w base v l) {r : Nat} (hr : r < base ∨ w.heap.size ≤ r) : some r ≠ v.ownBlock := fun e => by
  have := World.ownsRow.lt h r e.symm
  omega
def clsC : Array Value := #[.string ⟨#[109, 97, 120, 105]⟩, .string ⟨#[109, 105, 100, 105]⟩, .string ⟨#[109, 105, 110, 105]⟩]
theorem cls_at (k : Nat) (hk : k < 3) : ∃ a : ByteArray, Small a ∧ clsC[k]? = some (.string a) := by
  match k, hk with
  | 0, _ => exact ⟨_, small_of (s := ⟨#[109, 97, 120, 105]⟩) (by decide), rfl⟩
  | 1, _ => exact ⟨_, small_of (s := ⟨#[109, 105, 100, 105]⟩) (by decide), rfl⟩
  | 2, _ => exact ⟨_, small_of (s := ⟨#[109, 105, 110, 105]⟩) (by decide), rfl⟩
def RrPost (s K : Nat) (w : World) (e : Ending) (w' : World) : Prop :=
  ∃ (v : Value) (l : List Ra), e = .returned v ∧ OwnRa w' (w.heap.size + 1) v l ∧ RaOk l ∧ l.length ≤ 9 ∧ SB w' s (K + 60) ∧ G w w' (some s)
def RrRel (w : World) (s K : Nat) (s3 s10 : Value) (wr : World) : Prop :=
  ∃ (k : Nat) (l : List Ra), k ≤ 3 ∧ l.length ≤ 3 * k ∧ s10 = .int .i64 k ∧ OwnRa wr (w.heap.size + 1) s3 l ∧ RaOk l ∧ SB wr s (K + 20 * k) ∧ G w wr (some s) ∧ Bk wr w.heap.size 9 clsC
def RiRel (w : World) (s K k c : Nat) (s3 s6 s20 : Value) (wr : World) : Prop :=
  ∃ (j : Nat) (f : Int) (l : List Ra), j ≤ c ∧ l.length ≤ 3 * k + j ∧ s20 = .int .i64 j ∧ s6 = .int .i64 f ∧ 0 ≤ f ∧ f ≤ 4003 ∧ OwnRa wr (w.heap.size + 1) s3 l ∧ RaOk l ∧ SB wr s (K + 20 * k + 2 + 6 * j) ∧ G w wr (some s) ∧ Bk wr w.heap.size 9 clsC
set_option maxRecDepth 100000 in
set_option maxHeartbeats 8000000 in
theorem rightRates_c (w : World) (s : Nat) (K : Nat) (hs : SB w s K) (hk : K ≤ 900000000000) :
    Calls Tryd.prog 53 #[.pointer (some ⟨s, 0, none⟩)] w (RrPost s K w) := by
  have hslt := hs.lt
  have hsw := hs.lt
  go_enter Tryd.func53, Tryd.ntmps53
  go_wp2_with fail
  go_loopw [3, 10] (RrRel w s K) (fun _ i _ => 3 - (intOf i).toNat)
  case atStart =>
    exact ⟨0, [], by omega, by simp, rfl, World.ownsRow_nil _ _ _ _, fun p hp => (by cases hp), hs.alloc _, (G.refl _ _).alloc _, Bk.new w _ _⟩
  case round =>
    obtain ⟨k, l, hk3, hlk, rfl, hown, hl, hSB, hG, hB⟩ := hrel
    have hsz := hG.size
    have hBl := hB.lt
    have HL := Lib.hid hl
    clear hl
    by_cases hk2 : k < 3
    · obtain ⟨cls, hcls, hpa⟩ := cls_at k hk2
      have hrow : wr.cell? ⟨w.heap.size, k, none⟩ = some (.string cls) := by rw [hB.cell]; exact hpa
      clear hpa
      go_wp2_with fail
      refine (pick_c _ _ _ [0, 0, 0, 3] _ _ _ (hSB.alloc _) (by omega) (by decide) (by decide) (Rd.newAt _ rfl rfl (by decide)) (hSB.newAt _ _ _ (Nat.le_refl _))).mono ?_; rintro e w3 ⟨f, rfl, hf, hSB3, hG3⟩
      have hf0 : 0 ≤ f ∧ f ≤ 3 := by simp only [List.mem_cons, List.mem_nil_iff, or_false] at hf; omega
      obtain ⟨f0, f1⟩ := hf0
      have hB3 := (hB.alloc (.cells _ 3)).grown hG3 (fun e => by have := Option.some.inj e; omega)
      have hown3 := (OwnRa.alloc hown (.cells _ 3)).kept hG3 (by omega)
      have hG03 := (hG.alloc (.cells _ 3)).trans hG3
      clear hB hG hG3 hSB hown hf hrow
      go_wp2_with fail
      refine (pick_c _ _ _ [0, 1, 1, 2, 3] _ _ _ (hSB3.alloc _) (by omega) (by decide) (by decide) (Rd.newAt _ rfl rfl (by decide)) (hSB3.newAt _ _ _ (Nat.le_refl _))).mono ?_; rintro e w4 ⟨c, rfl, hc, hSB4, hG4⟩
      have hc0 : 0 ≤ c ∧ c ≤ 3 := by simp only [List.mem_cons, List.mem_nil_iff, or_false] at hc; omega
      obtain ⟨c0, c1⟩ := hc0
      obtain ⟨c, rfl⟩ := Int.eq_ofNat_of_zero_le c0
      have hB4 := (hB3.alloc (.cells _ 3)).grown hG4 (fun e => by have := Option.some.inj e; omega)
      have hown4 := (OwnRa.alloc hown3 (.cells _ 3)).kept hG4 (by omega)
      have hG04 := (hG03.alloc (.cells _ 3)).trans hG4
      clear hB3 hG03 hG4 hSB3 hown3 hc
      go_wp2_with fail
      go_loopw [3, 6, 20] (RiRel w s K k c) (fun _ _ i _ => c - (intOf i).toNat)
      case atStart => exact ⟨0, f, l, by omega, by omega, rfl, rfl, by omega, by omega, hown4, HL.out, hSB4.le (by omega), hG04, hB4⟩
      case round =>
        clear hsz hBl hslt hlk HL hown4 hSB4 hG04 hB4 f0 f1
        obtain ⟨j, f, l, hjc, hlk, rfl, rfl, f0, f1, hown, hl, hSB, hG, hB⟩ := hrel
        have hsz := hG.size
        have hBl := hB.lt
        have hslt := hSB.lt
        have HL := Lib.hid hl
        clear hl
        by_cases hjc2 : j < c
        · have hsb : s < w.heap.size + 1 := Nat.lt_succ_of_lt hsw
          go_wp2_with fail
          refine (pick_c _ _ _ [1, 5, 20, 4000] _ _ _ (hSB.alloc _) (by omega) (by decide) (by decide) (Rd.newAt _ rfl rfl (by decide)) (hSB.newAt _ _ _ (Nat.le_refl _))).mono ?_; rintro e w5 ⟨t, rfl, hp, hSBw5, hg⟩
          have ht0 : 1 ≤ t ∧ t ≤ 4000 := by simp only [List.mem_cons, List.mem_nil_iff, or_false] at hp; omega
          obtain ⟨t0, t1⟩ := ht0
          have hBw5 := (hB.alloc (.cells _ 3)).grown hg (fun e => by have := Option.some.inj e; omega)
          have hownw5 := (OwnRa.alloc hown (.cells _ 3)).kept hg hsb
          have hGw5 := (hG.alloc (.cells _ 3)).trans hg
          clear hB hown hG hSB hg hp
          go_wp2_with fail
          refine (pick_c _ _ _ [-1, 5, 10, 10, 0] _ _ _ (hSBw5.alloc _) (by omega) (by decide) (by decide) (Rd.newAt _ rfl rfl (by decide)) (hSBw5.newAt _ _ _ (Nat.le_refl _))).mono ?_; rintro e w6 ⟨h, rfl, hp, hSBw6, hg⟩
          have bh := Lib.hid (bnd_pick hp (by decide))
          have hBw6 := (hBw5.alloc (.cells _ 3)).grown hg (fun e => by have := Option.some.inj e; omega)
          have hownw6 := (OwnRa.alloc hownw5 (.cells _ 3)).kept hg hsb
          have hGw6 := (hGw5.alloc (.cells _ 3)).trans hg
          clear hBw5 hownw5 hGw5 hSBw5 hg hp
          go_wp2_with fail
          refine (pick_c _ _ _ [-1, 50, 50, 70, 40] _ _ _ (hSBw6.alloc _) (by omega) (by decide) (by decide) (Rd.newAt _ rfl rfl (by decide)) (hSBw6.newAt _ _ _ (Nat.le_refl _))).mono ?_; rintro e w7 ⟨d, rfl, hp, hSBw7, hg⟩
          have bd := Lib.hid (bnd_pick hp (by decide))
          have hBw7 := (hBw6.alloc (.cells _ 3)).grown hg (fun e => by have := Option.some.inj e; omega)
          have hownw7 := (OwnRa.alloc hownw6 (.cells _ 3)).kept hg hsb
          have hGw7 := (hGw6.alloc (.cells _ 3)).trans hg
          clear hBw6 hownw6 hGw6 hSBw6 hg hp
          go_wp2_with fail
          refine (pick_c _ _ _ [-1, 70, 90, 100] _ _ _ (hSBw7.alloc _) (by omega) (by decide) (by decide) (Rd.newAt _ rfl rfl (by decide)) (hSBw7.newAt _ _ _ (Nat.le_refl _))).mono ?_; rintro e w8 ⟨e4, rfl, hp, hSBw8, hg⟩
          have be4 := Lib.hid (bnd_pick hp (by decide))
          have hBw8 := (hBw7.alloc (.cells _ 3)).grown hg (fun e => by have := Option.some.inj e; omega)
          have hownw8 := (OwnRa.alloc hownw7 (.cells _ 3)).kept hg hsb
          have hGw8 := (hGw7.alloc (.cells _ 3)).trans hg
          clear hBw7 hownw7 hGw7 hSBw7 hg hp
          go_wp2_with fail
          refine (pick_c _ _ _ [-1, 200, 250, 300] _ _ _ (hSBw8.alloc _) (by omega) (by decide) (by decide) (Rd.newAt _ rfl rfl (by decide)) (hSBw8.newAt _ _ _ (Nat.le_refl _))).mono ?_; rintro e w9 ⟨v0, rfl, hp, hSBw9, hg⟩
          have bv0 := Lib.hid (bnd_pick hp (by decide))
          have hBw9 := (hBw8.alloc (.cells _ 3)).grown hg (fun e => by have := Option.some.inj e; omega)
          have hownw9 := (OwnRa.alloc hownw8 (.cells _ 3)).kept hg hsb
          have hGw9 := (hGw8.alloc (.cells _ 3)).trans hg
          clear hBw8 hownw8 hGw8 hSBw8 hg hp
          obtain ⟨M, hM⟩ : ∃ M, min (f + t) 4001 = M := ⟨_, rfl⟩
          have hmin : ∀ w : World, (Builtin.min_ #[3, 3] 3 #[.int .i64 (f + t), .int .i64 4001]).run Tryd.prog w = .ok (.int .i64 M) w := fun w => by rw [min2r, hM]
          obtain ⟨M0, M1⟩ : 0 ≤ M ∧ M ≤ 4001 := by omega
          clear hM
          have hgw : w.heap.size + 1 ≤ w9.heap.size := by have := hGw9.size; have := hBw9.lt; omega
          have hsg : s < w9.heap.size := by omega
          have hne := OwnRa.ne hownw9 (r := w9.heap.size) (.inr (Nat.le_refl _))
          have hR6 : Bk (w9.alloc (.cells #[.string cls, .int .i64 f, .int .i64 M, .int .i64 h, .int .i64 d, .int .i64 e4, .int .i64 v0] 37)) w9.heap.size 37 (raC (cls, f, M, h, d, e4, v0)) := Bk.new w9 37 (raC (cls, f, M, h, d, e4, v0))
          have hown6 : OwnRa (w9.alloc (.cells #[.string cls, .int .i64 f, .int .i64 M, .int .i64 h, .int .i64 d, .int .i64 e4, .int .i64 v0] 37)) (w.heap.size + 1) _ l := OwnRa.alloc hownw9 (.cells #[.string cls, .int .i64 f, .int .i64 M, .int .i64 h, .int .i64 d, .int .i64 e4, .int .i64 v0] 37)
          have hSB6 := hSBw9.alloc (.cells #[.string cls, .int .i64 f, .int .i64 M, .int .i64 h, .int .i64 d, .int .i64 e4, .int .i64 v0] 37)
          have hB6 := hBw9.alloc (.cells #[.string cls, .int .i64 f, .int .i64 M, .int .i64 h, .int .i64 d, .int .i64 e4, .int .i64 v0] 37)
          have hG6 := hGw9.alloc (.cells #[.string cls, .int .i64 f, .int .i64 M, .int .i64 h, .int .i64 d, .int .i64 e4, .int .i64 v0] 37)
          have hz6 : (w9.alloc (.cells #[.string cls, .int .i64 f, .int .i64 M, .int .i64 h, .int .i64 d, .int .i64 e4, .int .i64 v0] 37)).heap.size = w9.heap.size + 1 := by simp
          clear hownw9 hSBw9 hBw9 hGw9
          rcases (show M ≤ f ∨ f < M by omega) with hfm | hfm
          · go_wp2_with fail
            go_roundw
            case rel => exact ⟨k + 1, l, by omega, by omega, by go_num, hown6, HL.out, hSB6.le (by omega), hG6, hB6⟩
            case measure => simp [intOf]; omega
          · have hnm : ¬ M ≤ f := by omega
            have hRB : raB (cls, f, M, h, d, e4, v0) := ⟨hcls, (by show bnd f; unfold bnd; omega), (by show bnd M; unfold bnd; omega), bh.out, bd.out, be4.out, bv0.out⟩
            have HRB := Lib.hid hRB
            clear hRB
            go_wp2_with (first | (refine wpList_load_row rfl 37 _ rfl w9.heap.size rfl 37 #[.string cls, .int .i64 f, .int .i64 M, .int .i64 h, .int .i64 d, .int .i64 e4, .int .i64 v0] (0, 0) _ hR6 Tryd.underlying37 rfl (ra_info (cls, f, M, h, d, e4, v0)) ?_) | (at_builtin; refine wpList_plain rfl fun K' hK' => wp_append_ra _ _ rfl (w.heap.size + 1) u3 l rfl (OwnRa.alloc hown6 _) (w9.heap.size + 1) (cls, f, M, h, d, e4, v0) rfl (Bk.newAt hz6 _ _) (by omega) (by simp; omega) ?_; intro v7 w7 hown7 hgrow; refine hK' _ _ ?_))
            have hob := fun r e => (World.ownsRow.lt hown6 r e).1
            have hR7 := (hR6.alloc _).grown hgrow hne
            have hB7 := (hB6.alloc _).grown hgrow (OwnRa.ne hown6 (.inl (Nat.lt_succ_self _)))
            have hSB7 := (hSB6.alloc _).own hgrow (fun r e => Nat.lt_of_lt_of_le hsb (hob r e))
            have hG7 := (hG6.alloc _).other hgrow (fun r e => .inl (Nat.le_of_succ_le (hob r e)))
            clear hR6 hB6 hSB6 hG6 hown6 hob hne hgrow hz6 hmin
            generalize w9.heap.size = g at hR7 hgw hsg ⊢
            have c2 : w7.cell? ⟨g, 2, none⟩ = some (.int .i64 M) := hR7.cell 2
            have hSBd := hSB7.quiet ((G.refl w7 none).drew)
            have HOD := Lib.hid (World.ownsRow.drew hown7)
            have HRD := Lib.hid (hR7.quiet ((G.refl w7 none).drew))
            have HBD := Lib.hid (hB7.quiet ((G.refl w7 none).drew))
            have hGd := hG7.drew
            clear hR7 hB7 hSB7 hG7 hown7
            go_region_held3 (fun w' => w'.cell? ⟨g, 2, none⟩ = some (.int .i64 M)) (first | exact c2 | exact c28 | go_keep) (first | (go_at_call 10; refine (pick_c _ _ _ [0, 0, 0, 2] _ _ _ (hSBd.alloc _) (by omega) (by decide) (by decide) (Rd.newAt _ rfl rfl (by decide)) (hSBd.newAt _ _ _ (Nat.le_refl _))).mono ?_; rintro e w8 ⟨r, rfl, hr, hSB8, hG8⟩; have hr0 : 0 ≤ r ∧ r ≤ 2 := (by simp only [List.mem_cons, List.mem_nil_iff, or_false] at hr; omega); obtain ⟨r0, r1⟩ := hr0; have hR8 := (HRD.out.alloc _).grown hG8 (fun e => by have := Option.some.inj e; omega); have c28 : w8.cell? ⟨g, 2, none⟩ = some (.int .i64 M) := hR8.cell 2; have hown8 := OwnRa.kept (OwnRa.alloc HOD.out _) hG8 hsb; have hB8 := (HBD.out.alloc _).grown hG8 (fun e => by have := Option.some.inj e; omega); have hG08 := (hGd.alloc _).trans hG8; have hwr : IntKind.i64.wrap (M + r) = M + r := (by rw [IntKind.wrap_i64]; omega); clear hr hG8))
            go_wp2_with fail
            go_roundw
            case rel => exact ⟨j + 1, M + r, l ++ [(cls, f, M, h, d, e4, v0)], by omega, by simp; omega, by go_num, rfl, by omega, by omega, hown8, HL.out.snoc HRB.out, hSB8.le (by omega), hG08, hB8⟩
            case measure => simp [intOf]; omega
        · obtain rfl : j = c := by omega
          go_wp2_with fail
          go_roundw
          case rel => exact ⟨k + 1, l, by omega, by omega, by go_num, hown, HL.out, hSB.le (by omega), hG, hB⟩
          case measure => simp [intOf]; omega
    · obtain rfl : k = 3 := by omega
      go_wp2_with fail
      go_ret
      exact ⟨_, l, rfl, hown, HL.out, by omega, hSB, hG⟩
end Go.Proofs.YtgofeigebldkiaaDoor
