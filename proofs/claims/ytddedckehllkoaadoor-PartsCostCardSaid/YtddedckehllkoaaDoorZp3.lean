/- GenF, Pcl, Lay. -/
import Derived.Test.YtddedckehllkoaaDoorZp2
import Derived.Deep.RegionHeld3
import Derived.Test.YtddedckehllkoaaDoorZp1
import Derived.Test.YtddedckehllkoaaDoorRows
import Derived.Test.YtddedckehllkoaaDoorTie
import Derived.Test.YtddedckehllkoaaDoorCards
import Derived.LaidMore
import Derived.ChangeSame
import Derived.ProofKit
import Derived.OpenShut
import Derived.PinnedBridge
import Derived.Deep.DeepHandedRow
import Derived.Deep.DeepWitnessRowRef
/- Generator: Fees. -/
namespace Go.Proofs.YtddedckehllkoaaDoor
open Go.RowKit

/-- A row of fees that the call owns. -/
abbrev OwnFe (w : World) (base : Nat) (v : Value) (l : List Fe) : Prop := w.ownsRow base 134 3 v l.length (rowL feC l)
theorem fe_row : (Tryd.prog.info? 134).map (fun i => (i.zero, i.size, i.bytes)) = some (some (.agg (feC (⟨#[]⟩, ⟨#[]⟩, 0))), 3, 40) := by kernel_rfl
theorem feC_one (r : Fe) : ∀ u ∈ (feC r).toList, u.oneCell' = true := by
  intro u hu
  simp [feC] at hu
  rcases hu with rfl | rfl | rfl <;> rfl
theorem wp_append_fe {w : World} {o : Oper} {a : Act} {K : Act → World → Prop} {Q : Exit → Act → World → Prop} (s x : Operand)
    (ho : o.op = .call { callee := .builtin .append, args := #[s, x], argTypes := #[66, 66] }) (base : Nat) (v : Value) (l : List Fe) (hs : a.eval s = v) (hown : OwnFe w base v l)
    (g : Nat) (r : Fe) (hx : a.eval x = .slice (some ⟨g, 0, none⟩) 1 1) (hb : Bk w g 134 (feC r)) (hl : l.length ≤ 1000) (hbase : base ≤ w.heap.size)
    (hK : ∀ v' w', OwnFe w' base v' (l ++ [r]) → w.grownBy w' v.ownBlock → K (a.put o.dst v') w') : o.wp Tryd.prog a w K Q := by
  obtain ⟨i0, hi, hz0, hz1, hz2⟩ := info_parts fe_row
  refine wp_append_own w s x 66 ho base 134 i0 _ 3 40 Tryd.underlying66 hi hz0 hz1 hz2 rfl (by decide) v l.length (rowL feC l) hs hown ⟨g, 0, none⟩ 1 1 (feC r).toList hx rfl hb.at_ (feC_one r) (by unfold maxLen; omega) (by omega) hbase ?_
  intro v' w' h1 h2 _
  refine hK v' w' ?_ h2
  unfold OwnFe
  rw [List.length_append, rowL_snoc]
  exact h1
theorem OwnFe.alloc {w : World} {base : Nat} {v : Value} {l : List Fe} (h : OwnFe w base v l) (o : Obj) : OwnFe (w.alloc o) base v l := World.ownsRow.alloc h o
theorem OwnFe.kept {w w' : World} {base : Nat} {v : Value} {l : List Fe} {s : Nat} (h : OwnFe w base v l) (hg : G w w' (some s)) (hs : s < base) : OwnFe w' base v l := by
  refine World.ownsRow.kept h hg (.inr fun e => ?_)
  have := (World.ownsRow.lt h s e).1
  omega
def pC : Array Value := #[.string ⟨#[115, 49]⟩, .string ⟨#[115, 50]⟩, .string ⟨#[115, 49]⟩, .string ⟨#[115, 51]⟩, .string ⟨#[115, 50]⟩, .string ⟨#[115, 49]⟩, .string ⟨#[115, 51]⟩, .string ⟨#[115, 50]⟩]
theorem pC_at (k : Nat) (hk : k < 4) : ∃ a b : ByteArray, Small a ∧ Small b ∧ pC[k * 2]? = some (.string a) ∧ pC[k * 2 + 1]? = some (.string b) := by
  match k, hk with
  | 0, _ => exact ⟨_, _, small_of (s := ⟨#[115, 49]⟩) (by decide), small_of (s := ⟨#[115, 50]⟩) (by decide), rfl, rfl⟩
  | 1, _ => exact ⟨_, _, small_of (s := ⟨#[115, 49]⟩) (by decide), small_of (s := ⟨#[115, 51]⟩) (by decide), rfl, rfl⟩
  | 2, _ => exact ⟨_, _, small_of (s := ⟨#[115, 50]⟩) (by decide), small_of (s := ⟨#[115, 49]⟩) (by decide), rfl, rfl⟩
  | 3, _ => exact ⟨_, _, small_of (s := ⟨#[115, 51]⟩) (by decide), small_of (s := ⟨#[115, 50]⟩) (by decide), rfl, rfl⟩
def FeesPost (s K : Nat) (w : World) (e : Ending) (w' : World) : Prop :=
  ∃ (v : Value) (l : List Fe), e = .returned v ∧ RdR w' 3 feC v l ∧ FeOk l ∧ l.length ≤ 5 ∧ (∀ r, v.ownBlock = some r → w.heap.size ≤ r) ∧ SB w' s (K + 14) ∧ G w w' (some s)
theorem fees_fin {w w' : World} {s K : Nat} {v : Value} {l : List Fe} (hown : OwnFe w' (w.heap.size + 1) v l) (hl : FeOk l) (hn : l.length ≤ 5) (hSB : SB w' s (K + 14)) (hG : G w w' (some s)) : FeesPost s K w (.returned v) w' :=
  ⟨v, l, rfl, Rd.of_owns hown, hl, hn, fun r e => by have := (World.ownsRow.lt hown r e).1; omega, hSB, hG⟩
def FesRel (w : World) (s K : Nat) (s3 s12 : Value) (wr : World) : Prop :=
  ∃ (k : Nat) (l : List Fe), k ≤ 4 ∧ l.length ≤ k ∧ s12 = .int .i64 k ∧ OwnFe wr (w.heap.size + 1) s3 l ∧ FeOk l ∧ SB wr s (K + 2 * k) ∧ G w wr (some s) ∧ Bk wr w.heap.size 131 pC
theorem FeOk.snoc {l : List Fe} {r : Fe} (h : FeOk l) (hr : Small r.1 ∧ Small r.2.1 ∧ bnd r.2.2) : FeOk (l ++ [r]) := fun p hp => by
  rcases List.mem_append.1 hp with hp | hp
  · exact h p hp
  · obtain rfl := List.mem_singleton.1 hp
    exact hr
set_option maxRecDepth 100000 in
set_option maxHeartbeats 8000000 in
theorem fees_c (w : World) (s : Nat) (K : Nat) (hs : SB w s K) (hk : K ≤ 900000000000) :
    Calls Tryd.prog 36 #[.pointer (some ⟨s, 0, none⟩)] w (FeesPost s K w) := by
  have hslt := hs.lt
  go_enter Tryd.func36, Tryd.ntmps36
  go_wp2_with fail
  go_loopw [3, 12] (FesRel w s K) (fun _ i _ => 4 - (intOf i).toNat)
  case atStart =>
    exact ⟨0, [], by omega, by simp, rfl, World.ownsRow_nil _ _ _ _, fun p hp => (by cases hp), hs.alloc _, (G.refl _ _).alloc _, Bk.new w _ _⟩
  case round =>
    obtain ⟨k, l, hk4, hlk, rfl, hown, hl, hSB, hG, hB⟩ := hrel
    have hsz := hG.size
    have hBl := hB.lt
    have HL := Lib.hid hl
    clear hl
    by_cases hk3 : k < 4
    · obtain ⟨a, b, ha, hb, hpa, hpb⟩ := pC_at k hk3
      have hrow : ∀ j v, (#[Value.string a, .string b] : Array Value).toList[j]? = some v → wr.cell? ((⟨w.heap.size, k * 2, none⟩ : Addr).add j) = some v := by
        intro j v hv
        rw [add_at, hB.cell]
        match j, hv with
        | 0, hv => obtain rfl := Option.some.inj hv; exact hpa
        | 1, hv => obtain rfl := Option.some.inj hv; exact hpb
        | j + 2, hv => simp at hv
      have HR := Lib.hid hrow
      clear hrow hpa hpb
      go_wp2_with (refine wpList_load_at rfl 131 _ rfl ⟨w.heap.size, k * 2, none⟩ rfl #[.string a, .string b] _ HR.out Tryd.underlying131 rfl (by kernel_rfl) ?_)
      refine (flip_c _ _ _ _ (hSB.alloc _) (by omega) (by omega)).mono ?_; rintro e w3 ⟨q, rfl, hSB3, hG3⟩
      have hB3 := (hB.alloc (.cells #[.string a, .string b] 131)).grown hG3 (fun e => by have := Option.some.inj e; omega)
      have hown3 := (OwnFe.alloc hown (.cells #[.string a, .string b] 131)).kept hG3 (by omega)
      have hG03 := (hG.alloc (.cells #[.string a, .string b] 131)).trans hG3
      have hob2 := fun r e => (World.ownsRow.lt hown r e).2
      have hP3 := (Bk.new wr 131 #[.string a, .string b]).grown hG3 (fun e => by have := Option.some.inj e; omega)
      clear hB hG hG3 hSB hown HR
      cases q with
      | true =>
        go_wp2_with fail
        go_roundw
        case rel => exact ⟨k + 1, l, by omega, by omega, by go_num, hown3, HL.out, hSB3.le (by omega), hG03, hB3⟩
        case measure => simp [intOf]; omega
      | false =>
        go_wp2_with fail
        have hgl := hP3.lt
        have c0 : w3.cell? ⟨wr.heap.size, 0, none⟩ = some (.string a) := hP3.cell 0
        have c1 : w3.cell? ⟨wr.heap.size, 1, none⟩ = some (.string b) := hP3.cell 1
        generalize wr.heap.size = g at hP3 hgl c0 c1 hBl hsz hob2 ⊢
        go_region_held3 (fun w' => w'.cell? ⟨g, 0, none⟩ = some (.string a) ∧ w'.cell? ⟨g, 1, none⟩ = some (.string b)) (first | exact ⟨c0, c1⟩ | exact hS6 | exact hS7 | go_keep) (first | (go_at_call 10; refine (pick_c _ _ _ [0, 40, 700] _ _ _ ((hSB3.alloc _).quiet ((G.refl _ none).drew)) (by omega) (by decide) (by decide) ((Rd.newAt _ rfl rfl (by decide)).quiet ((G.refl _ none).drew)) (hSB3.newAt _ _ _ (Nat.le_refl _))).mono ?_; rintro e w6 ⟨r, rfl, hr, hSB6, hG6⟩; have hP6 := ((hP3.alloc _).quiet ((G.refl _ none).drew)).grown hG6 (fun e => by have := Option.some.inj e; omega); have hS6 : w6.cell? ⟨g, 0, none⟩ = some (.string a) ∧ w6.cell? ⟨g, 1, none⟩ = some (.string b) := ⟨hP6.cell 0, hP6.cell 1⟩; have hown6 := OwnFe.kept (World.ownsRow.drew (OwnFe.alloc hown3 _)) hG6 (by omega); have hG06 := (hG03.alloc _).drew.trans hG6; have hB6 := ((hB3.alloc _).quiet ((G.refl _ none).drew)).grown hG6 (fun e => by have := Option.some.inj e; omega); have hz6 := hG06.size) | (refine st_wp rfl (wp_append_fe _ _ rfl (w.heap.size + 1) u3 l rfl (OwnFe.alloc hown6 _) w6.heap.size (a, b, r) rfl (Bk.newAt rfl _ _) (by omega) (by simp; omega) ?_); intro v' w7 hown7 hgrow; have hP7 := (hP6.alloc _).grown hgrow (fun e => by have := hob2 _ e.symm; omega); have hS7 : w7.cell? ⟨g, 0, none⟩ = some (.string a) ∧ w7.cell? ⟨g, 1, none⟩ = some (.string b) := ⟨hP7.cell 0, hP7.cell 1⟩))
        have hob := fun r e => (World.ownsRow.lt hown6 r e).1
        go_wp2_with fail
        go_roundw
        case rel => exact ⟨k + 1, l ++ [(a, b, r)], by omega, by simp; omega, by go_num, hown7, HL.out.snoc ⟨ha, hb, bnd_pick hr (by decide)⟩, ((hSB6.alloc _).own hgrow fun r e => by have := hob r e; omega).le (by omega), (hG06.alloc _).other hgrow fun j e => .inl (by have := hob j e; omega), (hB6.alloc _).grown hgrow fun e => by have := hob _ e.symm; omega⟩
        case measure => simp [intOf]; omega
    · obtain rfl : k = 4 := by omega
      go_wp2_with fail
      refine (flip_c _ _ _ _ hSB (by omega) (by omega)).mono ?_; rintro e w3 ⟨q, rfl, hSB3, hG3⟩
      have hown3 := OwnFe.kept hown hG3 (by omega)
      have hG03 := hG.trans hG3
      clear hB hG hG3 hSB hown
      cases q with
      | false =>
        go_wp2_with fail
        go_ret
        exact fees_fin hown3 HL.out (by omega) (hSB3.le (by omega)) hG03
      | true =>
        go_wp2_with fail
        refine (some_c _ _ _ [⟨#[115, 51]⟩, ⟨#[65]⟩, ⟨#[115, 49]⟩] _ _ _ (hSB3.alloc _) (by omega) (by decide) (by decide) (Rd.newAt _ rfl rfl (by decide)) (hSB3.newAt _ _ _ (Nat.le_refl _))).mono ?_; rintro e w4 ⟨x, rfl, hx, hSB4, hG4⟩
        have hown4 := (OwnFe.alloc hown3 _).kept hG4 (by omega)
        have hG04 := (hG03.alloc _).trans hG4
        have hx' := small_pick hx (by decide)
        clear hown3 hG03 hG4 hSB3 hx
        go_wp2_with fail
        refine (some_c _ _ _ [⟨#[115, 51]⟩, ⟨#[115, 57]⟩, ⟨#[]⟩] _ _ _ (hSB4.alloc _) (by omega) (by decide) (by decide) (Rd.newAt _ rfl rfl (by decide)) (hSB4.newAt _ _ _ (Nat.le_refl _))).mono ?_; rintro e w5 ⟨y, rfl, hy, hSB5, hG5⟩
        have hown5 := (OwnFe.alloc hown4 _).kept hG5 (by omega)
        have hG05 := (hG04.alloc _).trans hG5
        have hy' := small_pick hy (by decide)
        clear hown4 hG04 hG5 hSB4 hy
        go_wp2_with fail
        refine (odd_c _ _ _ _ _ hSB5 (by omega) (by omega) (by omega) (by omega) (by omega)).mono ?_; rintro e w6 ⟨z, rfl, z0, z1, hSB6, hG6⟩
        have hown6 := OwnFe.kept hown5 hG6 (by omega)
        have hG06 := hG05.trans hG6
        clear hown5 hG05 hG6 hSB5
        have hsz6 := hG06.size
        have hob := fun r e => (World.ownsRow.lt hown6 r e).1
        go_wp2_with (at_builtin; refine wpList_plain rfl fun K' hK' => wp_append_fe _ _ rfl (w.heap.size + 1) u3 l rfl (OwnFe.alloc hown6 _) w6.heap.size (x, y, z) rfl (Bk.newAt rfl _ _) (by omega) (by simp; omega) ?_; intro v' w' hown' hgrow; refine hK' _ _ ?_)
        go_ret
        exact fees_fin hown' (HL.out.snoc ⟨hx', hy', z0, z1⟩) (by simp; omega) (((hSB6.alloc _).own hgrow fun r e => by have := hob r e; omega).le (by omega)) ((hG06.alloc _).other hgrow fun j e => .inl (by have := hob j e; omega))
end Go.Proofs.YtddedckehllkoaaDoor

/- The law PartsCost. -/
namespace Go.Proofs.YtddedckehllkoaaDoor
open Go.RowKit

theorem when_ite (b : Bool) (n : Int) : (if b = true then n else 0) = 0 ↔ b = false ∨ n = 0 := by cases b <;> simp
theorem parts_one (l : List Ext) (k : ByteArray) (d : Int) (n : Nat) (q2 : Int) (h0 : exE l = 0) (hq : q2 = if inB d 1 120 = true then 0 else 1) : errsOf [if (!(eoF l k n).2) = true then 8 else 0, q2] = ecE l k d := by
  subst hq
  unfold ecE eoF
  rw [if_pos h0]
  cases hf : l.find? (exF k) with
  | none => rfl
  | some x =>
    cases hi : inB d 1 120 with
    | true => rfl
    | false => rfl
theorem parts_n (l : List Ext) (k : ByteArray) (d : Int) (m : Nat) (h0 : exE l = 0) (hm : min (max d 0) 120 = (m : Int)) (hE : ecE l k d = 0) : (eoF l k m).1 = ecN l k d := by
  have hE2 := hE
  unfold ecE at hE
  rw [if_pos h0] at hE
  split at hE
  · rename_i hs
    split at hE
    · rename_i hi
      obtain ⟨x, hx⟩ := Option.isSome_iff_exists.1 hs
      unfold inB at hi
      simp only [Bool.and_eq_true, decide_eq_true_eq] at hi
      have hmd : d.toNat = m := by omega
      rw [ecN, if_pos hE2, hx, ← hmd]
      exact eo_cost h0 hx hi.1
    · omega
  · omega
theorem parts_two (l : List Fe) (a b : ByteArray) (h0 : errsOf [feE l, keyE a, keyE b] ≠ 0) : foE l a b = errsOf [feE l, keyE a, keyE b] ∧ foN l a b = 0 := by
  have he : foE l a b = errsOf [feE l, keyE a, keyE b] := by
    show _ = (if feE l = 0 then (if keyE a = 0 then (if keyE b = 0 then 0 else keyE b) else keyE a) else feE l)
    have h1 : ¬ ((if feE l = 0 then (if keyE a = 0 then (if keyE b = 0 then 0 else keyE b) else keyE a) else feE l) = 0) := h0
    unfold foE
    by_cases hf : feE l = 0
    · rw [if_pos hf] at h1 ⊢
      rw [if_pos hf]
      cases ha : keyB a with
      | false => simp [keyE, ha]
      | true =>
        cases hb : keyB b with
        | false => simp [keyE, ha, hb]
        | true => simp [keyE, ha, hb] at h1
    · rw [if_neg hf, if_neg hf]
  exact ⟨he, by rw [foN, if_neg (by rw [he]; exact h0)]⟩
theorem parts_two0 (l : List Fe) (a b : ByteArray) (h0 : errsOf [feE l, keyE a, keyE b] = 0) : feE l = 0 ∧ (if (!(ffF l a b).2) = true then (8 : Int) else 0) = foE l a b ∧ (ffF l a b).1 = foN l a b := by
  have h1 : (if feE l = 0 then (if keyE a = 0 then (if keyE b = 0 then 0 else keyE b) else keyE a) else feE l) = 0 := h0
  by_cases hf : feE l = 0
  · rw [if_pos hf] at h1
    have ha : keyB a = true := by
      cases ha : keyB a with
      | true => rfl
      | false => simp [keyE, ha] at h1
    have hb : keyB b = true := by
      cases hb : keyB b with
      | true => rfl
      | false => simp [keyE, ha, hb] at h1
    refine ⟨hf, ?_⟩
    have he : foE l a b = if eqB a b = true then 0 else if (l.find? (feF a b)).isSome = true then 0 else 8 := by simp [foE, hf, ha, hb]
    cases hq : eqB a b with
    | true =>
      have hn := fe_loop hf hq
      have he0 : foE l a b = 0 := by rw [he, if_pos hq]
      constructor
      · rw [he0, ffF, hn]; simp [hq]
      · rw [foN, if_pos he0, ffF, hn]
    | false =>
      cases hff : l.find? (feF a b) with
      | none =>
        have he0 : foE l a b = 8 := by rw [he, hq, hff]; rfl
        constructor
        · rw [he0, ffF, hff]; simp [hq]
        · rw [foN, if_neg (by rw [he0]; decide), ffF, hff]
      | some x =>
        have he0 : foE l a b = 0 := by rw [he, hq, hff]; rfl
        constructor
        · rw [he0, ffF, hff]; rfl
        · rw [foN, if_pos he0, ffF, hff]
  · rw [if_neg hf] at h1
    exact absurd h1 hf
/-- What stands throughout: the two lists. -/
def LInv (W : World) (v : Value) (l : List Ext) (v2 : Value) (l2 : List Fe) (w : World) : Prop := RdR w 4 exC v l ∧ RdR w 3 feC v2 l2 ∧ G W w none
theorem LInv.quiet {W w w' : World} {v : Value} {l : List Ext} {v2 : Value} {l2 : List Fe} (h : LInv W v l v2 l2 w) (hG : G w w' none) : LInv W v l v2 l2 w' := ⟨h.1.quiet hG, h.2.1.quiet hG, h.2.2.trans hG⟩
set_option maxRecDepth 100000 in
set_option maxHeartbeats 16000000 in
theorem partsCost_c (a : Option Addr) (n c : Nat) (zs : List Int) (W : World) (hr : Rd W 1 (.slice a n c) n (zs.map (Value.int .i64))) (hz : ∀ z ∈ zs, -9223372036854775808 ≤ z ∧ z ≤ 9223372036854775807) :
    Calls Tryd.prog 5 #[.slice a n c] W fun e W' => e = .returned (.bool true) ∧ G W W' none := by
  have hSB : SB (W.alloc (.cells #[.slice a n c, .int .i64 0] 25)) W.heap.size 0 := by
    have hB := Bk.new W 25 #[.slice a n c, .int .i64 0]
    refine ⟨0, a, n, c, zs, Nat.le_refl _, hr.quiet ((G.refl _ _).alloc _), fun b e => ?_, hz, hB.cell 0, hB.cell 1, hB.free 1, hB.lt⟩
    obtain ⟨a', c', e', r1, r2, r3, r4, r5⟩ := hr
    cases e'
    exact (r5 b e).2.1
  have hG0 : G W (W.alloc (.cells #[.slice a n c, .int .i64 0] 25)) (some W.heap.size) := (G.refl _ _).alloc _
  clear hr hz
  go_enter Tryd.func5, Tryd.ntmps5
  go_wp2_with fail
  refine (extras_c _ W.heap.size 0 hSB (by omega)).mono ?_; rintro e w1 ⟨v, l, rfl, hrd, hlok, hln, hvb, hSB1, hG1⟩
  have hvs : v.ownBlock ≠ some W.heap.size := fun e => by have := hvb _ e; simp at this; omega
  have hG01 := hG0.trans hG1
  clear hSB hG0 hG1 hvb
  go_wp2_with fail
  refine (some_c _ _ _ [⟨#[109, 97, 112]⟩, ⟨#[115, 101, 97, 116]⟩, ⟨#[115, 101, 97, 116]⟩, ⟨#[110, 111, 110, 101]⟩] _ _ _ (hSB1.alloc _) (by omega) (by decide) (by decide) (Rd.newAt _ rfl rfl (by decide)) (hSB1.newAt _ _ _ (Nat.le_refl _))).mono ?_; rintro e w2 ⟨k, rfl, hk, hSB2, hG2⟩
  have hrd2 := (hrd.quiet ((G.refl w1 none).alloc _)).grown hG2 (fun q e => by cases e; exact hvs)
  have hG02 := (hG01.alloc _).trans hG2
  clear hSB1 hG01 hG2 hrd hk
  go_wp2_with fail
  refine (pick_c _ _ _ [1, 2, 7, 120, 0, 121] _ _ _ (hSB2.alloc _) (by omega) (by decide) (by decide) (Rd.newAt _ rfl rfl (by decide)) (hSB2.newAt _ _ _ (Nat.le_refl _))).mono ?_; rintro e w3 ⟨d, rfl, hd, hSB3, hG3⟩
  have hd0 : 0 ≤ d ∧ d ≤ 121 := by simp only [List.mem_cons, List.mem_nil_iff, or_false] at hd; omega
  obtain ⟨d0, d1⟩ := hd0
  have hrd3 := (hrd2.quiet ((G.refl w2 none).alloc _)).grown hG3 (fun q e => by cases e; exact hvs)
  have hG03 := (hG02.alloc _).trans hG3
  clear hSB2 hG02 hG3 hrd2 hd
  go_wp2_with fail
  refine (fees_c _ W.heap.size _ hSB3 (by omega)).mono ?_; rintro e w4 ⟨v2, l2, rfl, hrdf, hfok, hfn, hv2b, hSB4, hG4⟩
  have hWz := hG03.size
  have hv2s : v2.ownBlock ≠ some W.heap.size := fun e => by have := hv2b _ e; have := hSB3.lt; omega
  have hrd4 := hrd3.grown hG4 (fun q e => by cases e; exact hvs)
  have hG04 := hG03.trans hG4
  clear hSB3 hG03 hG4 hrd3 hv2b
  go_wp2_with fail
  refine (some_c _ _ _ [⟨#[115, 49]⟩, ⟨#[115, 49]⟩, ⟨#[115, 50]⟩, ⟨#[115, 51]⟩, ⟨#[]⟩] _ _ _ (hSB4.alloc _) (by omega) (by decide) (by decide) (Rd.newAt _ rfl rfl (by decide)) (hSB4.newAt _ _ _ (Nat.le_refl _))).mono ?_; rintro e w5 ⟨x, rfl, hx, hSB5, hG5⟩
  have hxs := small_pick hx (by decide)
  have hrd5 := (hrd4.quiet ((G.refl w4 none).alloc _)).grown hG5 (fun q e => by cases e; exact hvs)
  have hrf5 := (hrdf.quiet ((G.refl w4 none).alloc _)).grown hG5 (fun q e => by cases e; exact hv2s)
  have hG05 := (hG04.alloc _).trans hG5
  clear hSB4 hG04 hG5 hrd4 hrdf hx
  go_wp2_with fail
  refine (some_c _ _ _ [⟨#[115, 49]⟩, ⟨#[115, 50]⟩, ⟨#[115, 51]⟩, ⟨#[65]⟩] _ _ _ (hSB5.alloc _) (by omega) (by decide) (by decide) (Rd.newAt _ rfl rfl (by decide)) (hSB5.newAt _ _ _ (Nat.le_refl _))).mono ?_; rintro e w6 ⟨y, rfl, hy, hSB6, hG6⟩
  have hys := small_pick hy (by decide)
  have hI : LInv W v l v2 l2 w6 := ⟨(hrd5.quiet ((G.refl w5 none).alloc _)).grown hG6 (fun q e => by cases e; exact hvs), (hrf5.quiet ((G.refl w5 none).alloc _)).grown hG6 (fun q e => by cases e; exact hv2s), G.own ((hG05.alloc _).trans hG6) (Nat.le_refl _)⟩
  clear hSB5 hG05 hG6 hrd5 hrf5 hy hSB6 hvs hv2s hWz
  go_wp2_with fail
  refine (extraCost_c v l k d _ hI.1 hlok (by omega)).mono ?_; rintro e w7 ⟨rfl, hG7⟩
  have hI := hI.quiet hG7
  clear hG7
  go_wp2_with fail
  refine (feeOf_c v2 l2 x y _ hI.2.1 hfok (by omega) hxs hys).mono ?_; rintro e w8 ⟨rfl, hG8⟩
  have hI := hI.quiet hG8
  clear hG8
  go_wp2_with fail
  refine (extrasFault_c v l _ hI.1 hlok (by omega)).mono ?_; rintro e w9 ⟨rfl, hG9⟩
  have hI := hI.quiet hG9
  clear hG9
  go_wp2_with fail
  refine (feesFault_c v2 l2 _ hI.2.1 hfok (by omega)).mono ?_; rintro e w10 ⟨rfl, hG10⟩
  have hI := hI.quiet hG10
  clear hG10
  go_wp2_with fail
  refine (checkExtras_c v l _ hI.1 hlok (by omega)).mono ?_; rintro e w11 ⟨rfl, hG11⟩
  have hI := hI.quiet hG11
  clear hG11
  go_wp2_with fail
  refine (checkFees_c v2 l2 _ hI.2.1 hfok (by omega)).mono ?_; rintro e w12 ⟨rfl, hG12⟩
  have hI := hI.quiet hG12
  clear hG12
  by_cases h0 : exE l = 0
  · obtain ⟨m, hm⟩ := Int.eq_ofNat_of_zero_le (show 0 ≤ min (max d 0) 120 by omega)
    have hm120 : m ≤ 120 := by omega
    rw [h0]
    rcases (show d < 1 ∨ 1 ≤ d by omega) with hd1 | hd1
    · have hone := parts_one l k d m 1 h0 (by rw [inB, decide_eq_false (show ¬ 1 ≤ d by omega)]; rfl)
      have hN0 := parts_n l k d m h0 hm
      have hN1 : ecE l k d ≠ 0 → ecN l k d = 0 := fun h => by rw [ecN, if_neg h]
      go_wp2_with fail
      refine (extraOf_c v l k m _ hI.1 h0 hm120).mono ?_; rintro e w13 ⟨rfl, hG13⟩
      have hI := hI.quiet hG13
      clear hG13
      generalize eoF l k m = eo at hone hN0 ⊢
      obtain ⟨n1, ok1⟩ := eo
      dsimp only at hone hN0 ⊢
      go_wp2_with fail
      refine (when_c _ _ _).mono ?_; rintro e w' ⟨rfl, rfl⟩
      generalize (if (!ok1) = true then (8 : Int) else 0) = q1 at hone ⊢
      go_wp2_with fail
      refine (when_t _ _).mono ?_; rintro e w' ⟨rfl, rfl⟩
      go_wp2_with fail
      refine (errs_c [q1, 1] _ _ (Rd.new #[.int .i64 q1, .int .i64 1] rfl (by show 2 ≤ maxLen; decide)) (by simp)).mono ?_; rintro e w' ⟨rfl, rfl⟩
      rw [hone]
      have hI := hI.quiet ((G.refl w13 none).alloc (.cells #[.int .i64 q1, .int .i64 1] 36))
      generalize w13.alloc (.cells #[.int .i64 q1, .int .i64 1] 36) = w14 at hI ⊢
      clear hone
      by_cases hE : ecE l k d = 0
      · have e1 := hN0 hE
        rw [hE, ← e1]
        clear hN0 hN1 e1 hE h0 hm hm120
        go_wp2_with fail
        refine (keyFault_c x _ hxs).mono ?_; rintro e u1 ⟨rfl, hH1⟩
        have hI := hI.quiet hH1
        clear hH1
        go_wp2_with fail
        refine (keyFault_c y _ hys).mono ?_; rintro e u2 ⟨rfl, hH2⟩
        have hI := hI.quiet hH2
        clear hH2
        go_wp2_with fail
        refine (errs_c [feE l2, keyE x, keyE y] _ _ (Rd.new #[.int .i64 (feE l2), .int .i64 (keyE x), .int .i64 (keyE y)] rfl (by show 3 ≤ maxLen; decide)) (by simp)).mono ?_; rintro e w' ⟨rfl, rfl⟩
        have hI := hI.quiet ((G.refl u2 none).alloc (.cells #[.int .i64 (feE l2), .int .i64 (keyE x), .int .i64 (keyE y)] 36))
        generalize u2.alloc (.cells #[.int .i64 (feE l2), .int .i64 (keyE x), .int .i64 (keyE y)] 36) = u3 at hI ⊢
        by_cases hX : errsOf [feE l2, keyE x, keyE y] = 0
        · obtain ⟨_, t2, t3⟩ := parts_two0 l2 x y hX
          rw [hX]
          go_wp2_with fail
          refine (feeFrom_c v2 l2 x y _ hI.2.1 (by omega)).mono ?_; rintro e u4 ⟨rfl, hH4⟩
          have hI := hI.quiet hH4
          clear hH4
          rw [t3]
          generalize (ffF l2 x y).2 = ok2 at t2 ⊢
          go_wp2_with fail
          refine (when_c _ _ _).mono ?_; rintro e w' ⟨rfl, rfl⟩
          rw [t2]
          clear t2 t3 hX
          generalize foE l2 x y = E2
          generalize foN l2 x y = N2
          go_wp2_with fail
          refine (priced_c _).mono ?_; rintro e u5 ⟨rfl, hH5⟩
          go_wp2_with fail
          go_ret
          exact ⟨rfl, hI.2.2.trans hH5⟩
        · obtain ⟨t2, t3⟩ := parts_two l2 x y hX
          have hX' : (errsOf [feE l2, keyE x, keyE y] == 0) = false := by simpa using hX
          rw [t2, t3]
          clear t2 t3 hX
          generalize errsOf [feE l2, keyE x, keyE y] = E2 at hX' ⊢
          go_wp2_with fail
          refine (priced_c _).mono ?_; rintro e u5 ⟨rfl, hH5⟩
          go_wp2_with fail
          go_ret
          exact ⟨rfl, hI.2.2.trans hH5⟩
      · have e1 := hN1 hE
        have hE' : (ecE l k d == 0) = false := by simpa using hE
        rw [e1]
        clear hN0 hN1 e1 hE h0 hm hm120
        generalize ecE l k d = E1 at hE' ⊢
        go_wp2_with fail
        refine (keyFault_c x _ hxs).mono ?_; rintro e u1 ⟨rfl, hH1⟩
        have hI := hI.quiet hH1
        clear hH1
        go_wp2_with fail
        refine (keyFault_c y _ hys).mono ?_; rintro e u2 ⟨rfl, hH2⟩
        have hI := hI.quiet hH2
        clear hH2
        go_wp2_with fail
        refine (errs_c [feE l2, keyE x, keyE y] _ _ (Rd.new #[.int .i64 (feE l2), .int .i64 (keyE x), .int .i64 (keyE y)] rfl (by show 3 ≤ maxLen; decide)) (by simp)).mono ?_; rintro e w' ⟨rfl, rfl⟩
        have hI := hI.quiet ((G.refl u2 none).alloc (.cells #[.int .i64 (feE l2), .int .i64 (keyE x), .int .i64 (keyE y)] 36))
        generalize u2.alloc (.cells #[.int .i64 (feE l2), .int .i64 (keyE x), .int .i64 (keyE y)] 36) = u3 at hI ⊢
        by_cases hX : errsOf [feE l2, keyE x, keyE y] = 0
        · obtain ⟨_, t2, t3⟩ := parts_two0 l2 x y hX
          rw [hX]
          go_wp2_with fail
          refine (feeFrom_c v2 l2 x y _ hI.2.1 (by omega)).mono ?_; rintro e u4 ⟨rfl, hH4⟩
          have hI := hI.quiet hH4
          clear hH4
          rw [t3]
          generalize (ffF l2 x y).2 = ok2 at t2 ⊢
          go_wp2_with fail
          refine (when_c _ _ _).mono ?_; rintro e w' ⟨rfl, rfl⟩
          rw [t2]
          clear t2 t3 hX
          generalize foE l2 x y = E2
          generalize foN l2 x y = N2
          go_wp2_with fail
          refine (priced_c _).mono ?_; rintro e u5 ⟨rfl, hH5⟩
          go_wp2_with fail
          go_ret
          exact ⟨rfl, hI.2.2.trans hH5⟩
        · obtain ⟨t2, t3⟩ := parts_two l2 x y hX
          have hX' : (errsOf [feE l2, keyE x, keyE y] == 0) = false := by simpa using hX
          rw [t2, t3]
          clear t2 t3 hX
          generalize errsOf [feE l2, keyE x, keyE y] = E2 at hX' ⊢
          go_wp2_with fail
          refine (priced_c _).mono ?_; rintro e u5 ⟨rfl, hH5⟩
          go_wp2_with fail
          go_ret
          exact ⟨rfl, hI.2.2.trans hH5⟩
    · rcases (show 120 < d ∨ d ≤ 120 by omega) with hd2 | hd2
      · have hone := parts_one l k d m 1 h0 (by rw [inB, decide_eq_false (show ¬ d ≤ 120 by omega), Bool.and_false]; rfl)
        have hN0 := parts_n l k d m h0 hm
        have hN1 : ecE l k d ≠ 0 → ecN l k d = 0 := fun h => by rw [ecN, if_neg h]
        go_wp2_with fail
        refine (extraOf_c v l k m _ hI.1 h0 hm120).mono ?_; rintro e w13 ⟨rfl, hG13⟩
        have hI := hI.quiet hG13
        clear hG13
        generalize eoF l k m = eo at hone hN0 ⊢
        obtain ⟨n1, ok1⟩ := eo
        dsimp only at hone hN0 ⊢
        go_wp2_with fail
        refine (when_c _ _ _).mono ?_; rintro e w' ⟨rfl, rfl⟩
        generalize (if (!ok1) = true then (8 : Int) else 0) = q1 at hone ⊢
        go_wp2_with fail
        refine (when_t _ _).mono ?_; rintro e w' ⟨rfl, rfl⟩
        go_wp2_with fail
        refine (errs_c [q1, 1] _ _ (Rd.new #[.int .i64 q1, .int .i64 1] rfl (by show 2 ≤ maxLen; decide)) (by simp)).mono ?_; rintro e w' ⟨rfl, rfl⟩
        rw [hone]
        have hI := hI.quiet ((G.refl w13 none).alloc (.cells #[.int .i64 q1, .int .i64 1] 36))
        generalize w13.alloc (.cells #[.int .i64 q1, .int .i64 1] 36) = w14 at hI ⊢
        clear hone
        by_cases hE : ecE l k d = 0
        · have e1 := hN0 hE
          rw [hE, ← e1]
          clear hN0 hN1 e1 hE h0 hm hm120
          go_wp2_with fail
          refine (keyFault_c x _ hxs).mono ?_; rintro e u1 ⟨rfl, hH1⟩
          have hI := hI.quiet hH1
          clear hH1
          go_wp2_with fail
          refine (keyFault_c y _ hys).mono ?_; rintro e u2 ⟨rfl, hH2⟩
          have hI := hI.quiet hH2
          clear hH2
          go_wp2_with fail
          refine (errs_c [feE l2, keyE x, keyE y] _ _ (Rd.new #[.int .i64 (feE l2), .int .i64 (keyE x), .int .i64 (keyE y)] rfl (by show 3 ≤ maxLen; decide)) (by simp)).mono ?_; rintro e w' ⟨rfl, rfl⟩
          have hI := hI.quiet ((G.refl u2 none).alloc (.cells #[.int .i64 (feE l2), .int .i64 (keyE x), .int .i64 (keyE y)] 36))
          generalize u2.alloc (.cells #[.int .i64 (feE l2), .int .i64 (keyE x), .int .i64 (keyE y)] 36) = u3 at hI ⊢
          by_cases hX : errsOf [feE l2, keyE x, keyE y] = 0
          · obtain ⟨_, t2, t3⟩ := parts_two0 l2 x y hX
            rw [hX]
            go_wp2_with fail
            refine (feeFrom_c v2 l2 x y _ hI.2.1 (by omega)).mono ?_; rintro e u4 ⟨rfl, hH4⟩
            have hI := hI.quiet hH4
            clear hH4
            rw [t3]
            generalize (ffF l2 x y).2 = ok2 at t2 ⊢
            go_wp2_with fail
            refine (when_c _ _ _).mono ?_; rintro e w' ⟨rfl, rfl⟩
            rw [t2]
            clear t2 t3 hX
            generalize foE l2 x y = E2
            generalize foN l2 x y = N2
            go_wp2_with fail
            refine (priced_c _).mono ?_; rintro e u5 ⟨rfl, hH5⟩
            go_wp2_with fail
            go_ret
            exact ⟨rfl, hI.2.2.trans hH5⟩
          · obtain ⟨t2, t3⟩ := parts_two l2 x y hX
            have hX' : (errsOf [feE l2, keyE x, keyE y] == 0) = false := by simpa using hX
            rw [t2, t3]
            clear t2 t3 hX
            generalize errsOf [feE l2, keyE x, keyE y] = E2 at hX' ⊢
            go_wp2_with fail
            refine (priced_c _).mono ?_; rintro e u5 ⟨rfl, hH5⟩
            go_wp2_with fail
            go_ret
            exact ⟨rfl, hI.2.2.trans hH5⟩
        · have e1 := hN1 hE
          have hE' : (ecE l k d == 0) = false := by simpa using hE
          rw [e1]
          clear hN0 hN1 e1 hE h0 hm hm120
          generalize ecE l k d = E1 at hE' ⊢
          go_wp2_with fail
          refine (keyFault_c x _ hxs).mono ?_; rintro e u1 ⟨rfl, hH1⟩
          have hI := hI.quiet hH1
          clear hH1
          go_wp2_with fail
          refine (keyFault_c y _ hys).mono ?_; rintro e u2 ⟨rfl, hH2⟩
          have hI := hI.quiet hH2
          clear hH2
          go_wp2_with fail
          refine (errs_c [feE l2, keyE x, keyE y] _ _ (Rd.new #[.int .i64 (feE l2), .int .i64 (keyE x), .int .i64 (keyE y)] rfl (by show 3 ≤ maxLen; decide)) (by simp)).mono ?_; rintro e w' ⟨rfl, rfl⟩
          have hI := hI.quiet ((G.refl u2 none).alloc (.cells #[.int .i64 (feE l2), .int .i64 (keyE x), .int .i64 (keyE y)] 36))
          generalize u2.alloc (.cells #[.int .i64 (feE l2), .int .i64 (keyE x), .int .i64 (keyE y)] 36) = u3 at hI ⊢
          by_cases hX : errsOf [feE l2, keyE x, keyE y] = 0
          · obtain ⟨_, t2, t3⟩ := parts_two0 l2 x y hX
            rw [hX]
            go_wp2_with fail
            refine (feeFrom_c v2 l2 x y _ hI.2.1 (by omega)).mono ?_; rintro e u4 ⟨rfl, hH4⟩
            have hI := hI.quiet hH4
            clear hH4
            rw [t3]
            generalize (ffF l2 x y).2 = ok2 at t2 ⊢
            go_wp2_with fail
            refine (when_c _ _ _).mono ?_; rintro e w' ⟨rfl, rfl⟩
            rw [t2]
            clear t2 t3 hX
            generalize foE l2 x y = E2
            generalize foN l2 x y = N2
            go_wp2_with fail
            refine (priced_c _).mono ?_; rintro e u5 ⟨rfl, hH5⟩
            go_wp2_with fail
            go_ret
            exact ⟨rfl, hI.2.2.trans hH5⟩
          · obtain ⟨t2, t3⟩ := parts_two l2 x y hX
            have hX' : (errsOf [feE l2, keyE x, keyE y] == 0) = false := by simpa using hX
            rw [t2, t3]
            clear t2 t3 hX
            generalize errsOf [feE l2, keyE x, keyE y] = E2 at hX' ⊢
            go_wp2_with fail
            refine (priced_c _).mono ?_; rintro e u5 ⟨rfl, hH5⟩
            go_wp2_with fail
            go_ret
            exact ⟨rfl, hI.2.2.trans hH5⟩
      · have hone := parts_one l k d m 0 h0 (by rw [inB, decide_eq_true (show 1 ≤ d by omega), decide_eq_true (show d ≤ 120 by omega)]; rfl)
        have hN0 := parts_n l k d m h0 hm
        have hN1 : ecE l k d ≠ 0 → ecN l k d = 0 := fun h => by rw [ecN, if_neg h]
        go_wp2_with fail
        refine (extraOf_c v l k m _ hI.1 h0 hm120).mono ?_; rintro e w13 ⟨rfl, hG13⟩
        have hI := hI.quiet hG13
        clear hG13
        generalize eoF l k m = eo at hone hN0 ⊢
        obtain ⟨n1, ok1⟩ := eo
        dsimp only at hone hN0 ⊢
        go_wp2_with fail
        refine (when_c _ _ _).mono ?_; rintro e w' ⟨rfl, rfl⟩
        generalize (if (!ok1) = true then (8 : Int) else 0) = q1 at hone ⊢
        go_wp2_with fail
        rw [show (decide (d < 1) || decide (120 < d)) = false by rw [decide_eq_false (show ¬ d < 1 by omega), decide_eq_false (show ¬ 120 < d by omega)]; rfl]
        refine (when_f _ _).mono ?_; rintro e w' ⟨rfl, rfl⟩
        go_wp2_with fail
        refine (errs_c [q1, 0] _ _ (Rd.new #[.int .i64 q1, .int .i64 0] rfl (by show 2 ≤ maxLen; decide)) (by simp)).mono ?_; rintro e w' ⟨rfl, rfl⟩
        rw [hone]
        have hI := hI.quiet ((G.refl w13 none).alloc (.cells #[.int .i64 q1, .int .i64 0] 36))
        generalize w13.alloc (.cells #[.int .i64 q1, .int .i64 0] 36) = w14 at hI ⊢
        clear hone
        by_cases hE : ecE l k d = 0
        · have e1 := hN0 hE
          rw [hE, ← e1]
          clear hN0 hN1 e1 hE h0 hm hm120
          go_wp2_with fail
          refine (keyFault_c x _ hxs).mono ?_; rintro e u1 ⟨rfl, hH1⟩
          have hI := hI.quiet hH1
          clear hH1
          go_wp2_with fail
          refine (keyFault_c y _ hys).mono ?_; rintro e u2 ⟨rfl, hH2⟩
          have hI := hI.quiet hH2
          clear hH2
          go_wp2_with fail
          refine (errs_c [feE l2, keyE x, keyE y] _ _ (Rd.new #[.int .i64 (feE l2), .int .i64 (keyE x), .int .i64 (keyE y)] rfl (by show 3 ≤ maxLen; decide)) (by simp)).mono ?_; rintro e w' ⟨rfl, rfl⟩
          have hI := hI.quiet ((G.refl u2 none).alloc (.cells #[.int .i64 (feE l2), .int .i64 (keyE x), .int .i64 (keyE y)] 36))
          generalize u2.alloc (.cells #[.int .i64 (feE l2), .int .i64 (keyE x), .int .i64 (keyE y)] 36) = u3 at hI ⊢
          by_cases hX : errsOf [feE l2, keyE x, keyE y] = 0
          · obtain ⟨_, t2, t3⟩ := parts_two0 l2 x y hX
            rw [hX]
            go_wp2_with fail
            refine (feeFrom_c v2 l2 x y _ hI.2.1 (by omega)).mono ?_; rintro e u4 ⟨rfl, hH4⟩
            have hI := hI.quiet hH4
            clear hH4
            rw [t3]
            generalize (ffF l2 x y).2 = ok2 at t2 ⊢
            go_wp2_with fail
            refine (when_c _ _ _).mono ?_; rintro e w' ⟨rfl, rfl⟩
            rw [t2]
            clear t2 t3 hX
            generalize foE l2 x y = E2
            generalize foN l2 x y = N2
            go_wp2_with fail
            refine (priced_c _).mono ?_; rintro e u5 ⟨rfl, hH5⟩
            go_wp2_with fail
            go_ret
            exact ⟨rfl, hI.2.2.trans hH5⟩
          · obtain ⟨t2, t3⟩ := parts_two l2 x y hX
            have hX' : (errsOf [feE l2, keyE x, keyE y] == 0) = false := by simpa using hX
            rw [t2, t3]
            clear t2 t3 hX
            generalize errsOf [feE l2, keyE x, keyE y] = E2 at hX' ⊢
            go_wp2_with fail
            refine (priced_c _).mono ?_; rintro e u5 ⟨rfl, hH5⟩
            go_wp2_with fail
            go_ret
            exact ⟨rfl, hI.2.2.trans hH5⟩
        · have e1 := hN1 hE
          have hE' : (ecE l k d == 0) = false := by simpa using hE
          rw [e1]
          clear hN0 hN1 e1 hE h0 hm hm120
          generalize ecE l k d = E1 at hE' ⊢
          go_wp2_with fail
          refine (keyFault_c x _ hxs).mono ?_; rintro e u1 ⟨rfl, hH1⟩
          have hI := hI.quiet hH1
          clear hH1
          go_wp2_with fail
          refine (keyFault_c y _ hys).mono ?_; rintro e u2 ⟨rfl, hH2⟩
          have hI := hI.quiet hH2
          clear hH2
          go_wp2_with fail
          refine (errs_c [feE l2, keyE x, keyE y] _ _ (Rd.new #[.int .i64 (feE l2), .int .i64 (keyE x), .int .i64 (keyE y)] rfl (by show 3 ≤ maxLen; decide)) (by simp)).mono ?_; rintro e w' ⟨rfl, rfl⟩
          have hI := hI.quiet ((G.refl u2 none).alloc (.cells #[.int .i64 (feE l2), .int .i64 (keyE x), .int .i64 (keyE y)] 36))
          generalize u2.alloc (.cells #[.int .i64 (feE l2), .int .i64 (keyE x), .int .i64 (keyE y)] 36) = u3 at hI ⊢
          by_cases hX : errsOf [feE l2, keyE x, keyE y] = 0
          · obtain ⟨_, t2, t3⟩ := parts_two0 l2 x y hX
            rw [hX]
            go_wp2_with fail
            refine (feeFrom_c v2 l2 x y _ hI.2.1 (by omega)).mono ?_; rintro e u4 ⟨rfl, hH4⟩
            have hI := hI.quiet hH4
            clear hH4
            rw [t3]
            generalize (ffF l2 x y).2 = ok2 at t2 ⊢
            go_wp2_with fail
            refine (when_c _ _ _).mono ?_; rintro e w' ⟨rfl, rfl⟩
            rw [t2]
            clear t2 t3 hX
            generalize foE l2 x y = E2
            generalize foN l2 x y = N2
            go_wp2_with fail
            refine (priced_c _).mono ?_; rintro e u5 ⟨rfl, hH5⟩
            go_wp2_with fail
            go_ret
            exact ⟨rfl, hI.2.2.trans hH5⟩
          · obtain ⟨t2, t3⟩ := parts_two l2 x y hX
            have hX' : (errsOf [feE l2, keyE x, keyE y] == 0) = false := by simpa using hX
            rw [t2, t3]
            clear t2 t3 hX
            generalize errsOf [feE l2, keyE x, keyE y] = E2 at hX' ⊢
            go_wp2_with fail
            refine (priced_c _).mono ?_; rintro e u5 ⟨rfl, hH5⟩
            go_wp2_with fail
            go_ret
            exact ⟨rfl, hI.2.2.trans hH5⟩
  · have hE1 : ecE l k d = exE l := by simp [ecE, h0]
    have hN1 : ecN l k d = 0 := by rw [ecN, if_neg (by rw [hE1]; exact h0)]
    have h0' : (exE l == 0) = false := by simpa using h0
    rw [hE1, hN1]
    clear hE1 hN1 h0
    generalize exE l = E1 at h0' ⊢
    go_wp2_with fail
    refine (keyFault_c x _ hxs).mono ?_; rintro e u1 ⟨rfl, hH1⟩
    have hI := hI.quiet hH1
    clear hH1
    go_wp2_with fail
    refine (keyFault_c y _ hys).mono ?_; rintro e u2 ⟨rfl, hH2⟩
    have hI := hI.quiet hH2
    clear hH2
    go_wp2_with fail
    refine (errs_c [feE l2, keyE x, keyE y] _ _ (Rd.new #[.int .i64 (feE l2), .int .i64 (keyE x), .int .i64 (keyE y)] rfl (by show 3 ≤ maxLen; decide)) (by simp)).mono ?_; rintro e w' ⟨rfl, rfl⟩
    have hI := hI.quiet ((G.refl u2 none).alloc (.cells #[.int .i64 (feE l2), .int .i64 (keyE x), .int .i64 (keyE y)] 36))
    generalize u2.alloc (.cells #[.int .i64 (feE l2), .int .i64 (keyE x), .int .i64 (keyE y)] 36) = u3 at hI ⊢
    by_cases hX : errsOf [feE l2, keyE x, keyE y] = 0
    · obtain ⟨_, t2, t3⟩ := parts_two0 l2 x y hX
      rw [hX]
      go_wp2_with fail
      refine (feeFrom_c v2 l2 x y _ hI.2.1 (by omega)).mono ?_; rintro e u4 ⟨rfl, hH4⟩
      have hI := hI.quiet hH4
      clear hH4
      rw [t3]
      generalize (ffF l2 x y).2 = ok2 at t2 ⊢
      go_wp2_with fail
      refine (when_c _ _ _).mono ?_; rintro e w' ⟨rfl, rfl⟩
      rw [t2]
      clear t2 t3 hX
      generalize foE l2 x y = E2
      generalize foN l2 x y = N2
      go_wp2_with fail
      refine (priced_c _).mono ?_; rintro e u5 ⟨rfl, hH5⟩
      go_wp2_with fail
      go_ret
      exact ⟨rfl, hI.2.2.trans hH5⟩
    · obtain ⟨t2, t3⟩ := parts_two l2 x y hX
      have hX' : (errsOf [feE l2, keyE x, keyE y] == 0) = false := by simpa using hX
      rw [t2, t3]
      clear t2 t3 hX
      generalize errsOf [feE l2, keyE x, keyE y] = E2 at hX' ⊢
      go_wp2_with fail
      refine (priced_c _).mono ?_; rintro e u5 ⟨rfl, hH5⟩
      go_wp2_with fail
      go_ret
      exact ⟨rfl, hI.2.2.trans hH5⟩
end Go.Proofs.YtddedckehllkoaaDoor

/- What the row's list of variables gives; a start that meets it. -/
namespace Go.Proofs.YtddedckehllkoaaDoor
open Go.ChangeShapes Go.WideShapes Go.ChangeAt Go.RowKit

theorem own : ownKnob Tryd.prog.godebug = none := by kernel_rfl
theorem c1 : Tryd.prog.cellsOf 3 = 1 := by kernel_rfl
def laidL : List (String × DataW Unit) := [("unicode/utf8.acceptRanges", Rows.laid_unicode_utf8_acceptRanges), ("unicode/utf8.first", Rows.laid_unicode_utf8_first)]
/-- A start that meets the list: what the door's run leaves, Go's own table laid by hand. -/
noncomputable def laidWorld (os : Os) : World :=
  { World.doorLaid Tryd.prog 200 os with heap := (World.doorLaid Tryd.prog 200 os).heap.modify 1 fun
      | .cells _ t fr => .cells (Lib.firstTab.map (Value.int .u8)).toArray t fr
      | o => o }
set_option maxRecDepth 100000 in
theorem laid_met (os : Os) : laidMetH Tryd.prog laidL ((laidWorld os).forCall (fun _ _ => 0) ⟨#[], #[.slice none 0 0], []⟩).memory :=
  laidMetH_of_parts3 (fuel := 8) (laidMet_of_run' 8 (by kernel_rfl) (by kernel_rfl)) (by kernel_rfl) (by kernel_rfl)

/-! ### The row's last step -/
section
variable {H : Type} {enc : TypeId × Value → H} {P : Program}
theorem post_quiet {f : Func} {s : ChangeSpec} {apart fresh handsOn again : Bool} {W W' : World} {args : Array Value} {v : Value} {ds gs : List (DataW H)} {before pa pv : List MemPlace}
    (hW : DataW.Whole enc P f.params.toList s.vars apart W args.toList ds gs before) (hg : G W W' none)
    (hres : ∀ (b : Nat) (sp : Nat → Bool) (hd : Bool), DataW.TrodAll enc P W' b sp hd f.resultTypes.toList (v.resultList f.resultTypes.size) (s.fn H (ds ++ gs)).results [])
    (hargs : ∀ sp : Nat → Bool, (∀ p ∈ before, sp p.block = true) → DataW.TrodAll enc P W' 0 sp true f.params.toList args.toList (s.fn H (ds ++ gs)).args pa)
    (hvars : ∀ sp : Nat → Bool, (∀ p ∈ before, sp p.block = true) → DataW.TrodVars enc P W' sp s.vars (s.fn H (ds ++ gs)).vars pv)
    (hps : before = pa ++ pv)
    (hok : ∀ (j : Nat) (t : TypeId) (r : Value), f.resultTypes[j]? = some t → (v.resultList f.resultTypes.size)[j]? = some r → Value.okWide P W' .any 0 t r) :
    s.post enc P f apart fresh handsOn again W args v W' := by
  have hb := hg.below
  have lt : ∀ p ∈ before, p.block < W.heap.size := fun p hp => hW.lt p hp
  have old : ∀ p ∈ before, (fun b => decide (b < W.heap.size)) p.block = true := fun p hp => decide_eq_true (lt p hp)
  have sub : ∀ p, p ∈ ([] ++ pa) ++ pv → p ∈ before := fun p hp => by rw [hps]; simpa using hp
  refine ⟨ds, gs, before, [], pa, pv, hW, hres _ _ _, hargs _ old, hvars _ old, World.keptBut_mono (fun p hp => ⟨hp, .inr (by rw [← List.mem_append, ← hps]; exact hp)⟩) (hb.frame (· ∈ before)), fun _ => ⟨hok, ?_⟩⟩
  obtain ⟨_, _, _, _, _, hz, hn⟩ := hW
  refine ⟨_, _, ([] ++ pa) ++ pv, ⟨[] ++ pa, pv, trodAll_append (hargs _ fun _ _ => rfl) (hres _ _ _), hvars _ fun _ _ => rfl, rfl, fun b off hp => ?_, fun ha => ?_⟩, fun p hp _ => sub p hp⟩
  · rw [hb.frozen (lt _ (sub _ hp))]
    exact hz b off (sub _ hp)
  · have h := hn ha
    rw [hps] at h
    simpa using h
end
theorem laidOut : laidOutB Tryd.prog = true := by kernel_rfl
theorem wf64 {n : Int} (h : (Lit.int .i64 n).wf = true) : -9223372036854775808 ≤ n ∧ n ≤ 9223372036854775807 := by
  have h1 : IntKind.i64.min = -9223372036854775808 := rfl
  have h2 : IntKind.i64.max = 9223372036854775807 := rfl
  simp only [Lit.wf, Bool.and_eq_true, decide_eq_true_eq] at h
  omega
set_option maxRecDepth 100000 in
theorem has_of_ok {W : World} {base : Nat} {a : Addr} {n c : Nat} (hok : Value.okWide Tryd.prog W .any base 22 (.slice (some a) n c)) : a.spot = none ∧ a.block < W.heap.size := by
  simp only [Value.okWide, Tryd.underlying22, Cell.okWide, Cell.ok] at hok
  obtain ⟨_, _, _, h2, row, cells, h3, _⟩ := hok
  refine ⟨h2, ?_⟩
  unfold World.shape? at h3
  cases hh : W.heap[a.block]? with
  | none => simp [hh] at h3
  | some o => exact (Array.getElem?_eq_some_iff.1 hh).1
set_option maxRecDepth 100000 in
/-- The list of numbers that came in, as the walk wants it. -/
theorem rd_of_trod {H : Type} {enc : TypeId × Value → H} {W : World} {base : Nat} {v : Value} {d : DataW H} {p : List MemPlace} (hok : Value.okWide Tryd.prog W .any base 22 v) (h : DataW.Trod enc Tryd.prog W 0 (fun _ => true) true 22 v d p) :
    ∃ (a : Option Addr) (n c : Nat) (zs : List Int), v = .slice a n c ∧ Rd W 1 (.slice a n c) n (zs.map (Value.int .i64)) ∧ ∀ z ∈ zs, -9223372036854775808 ≤ z ∧ z ≤ 9223372036854775807 := by
  obtain ⟨a0, len, cap, rfl⟩ := okWide_slice Tryd.underlying22 hok
  obtain ⟨fuel, hf⟩ := h
  rcases open_ints Tryd.underlying22 Tryd.underlying3 c1 hf with ⟨hcs, _⟩ | ⟨a, len', cap', zs, hcs, _, hl, hm, hz, _, hcell, hw⟩
  · have hcs' : [Value.slice a0 len cap] = [Value.slice none 0 0] := hcs
    injection hcs' with e _
    injection e with e1 e2 e3
    subst e1; subst e2; subst e3
    exact ⟨none, 0, 0, [], rfl, ⟨none, 0, rfl, Nat.le_refl _, Nat.zero_le _, rfl, fun _ => ⟨rfl, rfl⟩, fun b hb => by cases hb⟩, fun z hz => by cases hz⟩
  · have hcs' : [Value.slice a0 len cap] = [Value.slice (some a) len' cap'] := hcs
    injection hcs' with e _
    injection e with e1 e2 e3
    subst e1; subst e2; subst e3
    simp only [if_true] at hz
    obtain ⟨s1, s2⟩ := has_of_ok hok
    refine ⟨some a, len, cap, zs.take len, rfl, ⟨some a, cap, rfl, hl, hm, by simp; omega, (fun e => by cases e), fun b hb => ?_⟩, fun z hz' => wf64 (hw z (List.mem_of_mem_take hz'))⟩
    obtain rfl := Option.some.inj hb
    refine ⟨s1, s2, fun j u hj => ?_⟩
    rw [List.getElem?_map] at hj
    obtain ⟨z, hz1, rfl⟩ := Option.map_eq_some_iff.1 hj
    have hjl := (List.getElem?_eq_some_iff.1 hz1).1
    simp at hjl
    have hc := hcell j (by omega)
    have hz2 : zs[j]? = some z := by rw [← hz1, List.getElem?_take, if_pos (by omega)]
    rw [List.getD, hz2] at hc
    have ha : a.add j = ⟨a.block, a.off + j, none⟩ := by
      obtain ⟨ab, ao, asp⟩ := a
      dsimp only at s1
      subst s1
      exact add_at ab ao j
    rw [ha] at hc
    exact hc
end Go.Proofs.YtddedckehllkoaaDoor
