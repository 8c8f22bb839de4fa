/- Generator: Fees. -/
import Derived.Test.YtgofeigebldkiaaDoorGenE
import Derived.Deep.RegionHeld3
namespace Go.Proofs.YtgofeigebldkiaaDoor
open Go.RowKit

/-- A row of fees that the call owns. -/
abbrev OwnFe (w : World) (base : Nat) (v : Value) (l : List Fe) : Prop := w.ownsRow base 110 3 v l.length (rowL feC l)
theorem fe_row : (Tryd.prog.info? 110).map (fun i => (i.zero, i.size, i.bytes)) = some (some (.agg (feC (⟨#[]⟩, ⟨#[]⟩, 0))), 3, 40) := by kernel_rfl
theorem feC_one (r : Fe) : ∀ u ∈ (feC r).toList, u.oneCell' = true := by
  intro u hu
  simp [feC] at hu
  rcases hu with rfl | rfl | rfl <;> rfl
theorem wp_append_fe {w : World} {o : Oper} {a : Act} {K : Act → World → Prop} {Q : Exit → Act → World → Prop} (s x : Operand)
    (ho : o.op = .call { callee := .builtin .append, args := #[s, x], argTypes := #[53, 53] }) (base : Nat) (v : Value) (l : List Fe) (hs : a.eval s = v) (hown : OwnFe w base v l)
    (g : Nat) (r : Fe) (hx : a.eval x = .slice (some ⟨g, 0, none⟩) 1 1) (hb : Bk w g 110 (feC r)) (hl : l.length ≤ 1000) (hbase : base ≤ w.heap.size)
    (hK : ∀ v' w', OwnFe w' base v' (l ++ [r]) → w.grownBy w' v.ownBlock → K (a.put o.dst v') w') : o.wp Tryd.prog a w K Q := by
  obtain ⟨i0, hi, hz0, hz1, hz2⟩ := info_parts fe_row
  refine wp_append_own w s x 53 ho base 110 i0 _ 3 40 Tryd.underlying53 hi hz0 hz1 hz2 rfl (by decide) v l.length (rowL feC l) hs hown ⟨g, 0, none⟩ 1 1 (feC r).toList hx rfl hb.at_ (feC_one r) (by unfold maxLen; omega) (by omega) hbase ?_
  intro v' w' h1 h2 _
  refine hK v' w' ?_ h2
  unfold OwnFe
  rw [List.length_append, rowL_snoc]
  exact h1
theorem OwnFe.alloc {w : World} {base : Nat} {v : Value} {l : List Fe} (h : OwnFe w base v l) (o : Obj) : OwnFe (w.alloc o) base v l := World.ownsRow.alloc h o
theorem OwnFe.kept {w w' : World} {base : Nat} {v : Value} {l : List Fe} {s : Nat} (h : OwnFe w base v l) (hg : G w w' (some s)) (hs : s < base) : OwnFe w' base v l := by
  refine World.ownsRow.kept h hg (.inr fun e => ?_)
  have := (World.ownsRow.lt h s e).1
  omega
def pC : Array Value := #[.string ⟨#[115, 49]⟩, .string ⟨#[115, 50]⟩, .string ⟨#[115, 49]⟩, .string ⟨#[115, 51]⟩, .string ⟨#[115, 50]⟩, .string ⟨#[115, 49]⟩, .string ⟨#[115, 51]⟩, .string ⟨#[115, 50]⟩]
theorem pC_at (k : Nat) (hk : k < 4) : ∃ a b : ByteArray, Small a ∧ Small b ∧ pC[k * 2]? = some (.string a) ∧ pC[k * 2 + 1]? = some (.string b) := by
  match k, hk with
  | 0, _ => exact ⟨_, _, small_of (s := ⟨#[115, 49]⟩) (by decide), small_of (s := ⟨#[115, 50]⟩) (by decide), rfl, rfl⟩
  | 1, _ => exact ⟨_, _, small_of (s := ⟨#[115, 49]⟩) (by decide), small_of (s := ⟨#[115, 51]⟩) (by decide), rfl, rfl⟩
  | 2, _ => exact ⟨_, _, small_of (s := ⟨#[115, 50]⟩) (by decide), small_of (s := ⟨#[115, 49]⟩) (by decide), rfl, rfl⟩
  | 3, _ => exact ⟨_, _, small_of (s := ⟨#[115, 51]⟩) (by decide), small_of (s := ⟨#[115, 50]⟩) (by decide), rfl, rfl⟩
def FeesPost (s K : Nat) (w : World) (e : Ending) (w' : World) : Prop :=
  ∃ (v : Value) (l : List Fe), e = .returned v ∧ RdR w' 3 feC v l ∧ FeOk l ∧ l.length ≤ 5 ∧ (∀ r, v.ownBlock = some r → w.heap.size ≤ r) ∧ SB w' s (K + 14) ∧ G w w' (some s)
theorem fees_fin {w w' : World} {s K : Nat} {v : Value} {l : List Fe} (hown : OwnFe w' (w.heap.size + 1) v l) (hl : FeOk l) (hn : l.length ≤ 5) (hSB : SB w' s (K + 14)) (hG : G w w' (some s)) : FeesPost s K w (.returned v) w' :=
  ⟨v, l, rfl, Rd.of_owns hown, hl, hn, fun r e => by have := (World.ownsRow.lt hown r e).1; omega, hSB, hG⟩
def FesRel (w : World) (s K : Nat) (s3 s12 : Value) (wr : World) : Prop :=
  ∃ (k : Nat) (l : List Fe), k ≤ 4 ∧ l.length ≤ k ∧ s12 = .int .i64 k ∧ OwnFe wr (w.heap.size + 1) s3 l ∧ FeOk l ∧ SB wr s (K + 2 * k) ∧ G w wr (some s) ∧ Bk wr w.heap.size 107 pC
theorem FeOk.snoc {l : List Fe} {r : Fe} (h : FeOk l) (hr : Small r.1 ∧ Small r.2.1 ∧ bnd r.2.2) : FeOk (l ++ [r]) := fun p hp => by
  rcases List.mem_append.1 hp with hp | hp
  · exact h p hp
  · obtain rfl := List.mem_singleton.1 hp
    exact hr
set_option maxRecDepth 100000 in
set_option maxHeartbeats 8000000 in
theorem fees_c (w : World) (s : Nat) (K : Nat) (hs : SB w s K) (hk : K ≤ 900000000000) :
    Calls Tryd.prog 24 #[.pointer (some ⟨s, 0, none⟩)] w (FeesPost s K w) := by
  have hslt := hs.lt
  go_enter Tryd.func24, Tryd.ntmps24
  go_wp2_with fail
  go_loopw [3, 12] (FesRel w s K) (fun _ i _ => 4 - (intOf i).toNat)
  case atStart =>
    exact ⟨0, [], by omega, by simp, rfl, World.ownsRow_nil _ _ _ _, fun p hp => (by cases hp), hs.alloc _, (G.refl _ _).alloc _, Bk.new w _ _⟩
  case round =>
    obtain ⟨k, l, hk4, hlk, rfl, hown, hl, hSB, hG, hB⟩ := hrel
    have hsz := hG.size
    have hBl := hB.lt
    have HL := Lib.hid hl
    clear hl
    by_cases hk3 : k < 4
    · obtain ⟨a, b, ha, hb, hpa, hpb⟩ := pC_at k hk3
      have hrow : ∀ j v, (#[Value.string a, .string b] : Array Value).toList[j]? = some v → wr.cell? ((⟨w.heap.size, k * 2, none⟩ : Addr).add j) = some v := by
        intro j v hv
        rw [add_at, hB.cell]
        match j, hv with
        | 0, hv => obtain rfl := Option.some.inj hv; exact hpa
        | 1, hv => obtain rfl := Option.some.inj hv; exact hpb
        | j + 2, hv => simp at hv
      have HR := Lib.hid hrow
      clear hrow hpa hpb
      go_wp2_with (refine wpList_load_at rfl 107 _ rfl ⟨w.heap.size, k * 2, none⟩ rfl #[.string a, .string b] _ HR.out Tryd.underlying107 rfl (by kernel_rfl) ?_)
      refine (flip_c _ _ _ _ (hSB.alloc _) (by omega) (by omega)).mono ?_; rintro e w3 ⟨q, rfl, hSB3, hG3⟩
      have hB3 := (hB.alloc (.cells #[.string a, .string b] 107)).grown hG3 (fun e => by have := Option.some.inj e; omega)
      have hown3 := (OwnFe.alloc hown (.cells #[.string a, .string b] 107)).kept hG3 (by omega)
      have hG03 := (hG.alloc (.cells #[.string a, .string b] 107)).trans hG3
      have hob2 := fun r e => (World.ownsRow.lt hown r e).2
      have hP3 := (Bk.new wr 107 #[.string a, .string b]).grown hG3 (fun e => by have := Option.some.inj e; omega)
      clear hB hG hG3 hSB hown HR
      cases q with
      | true =>
        go_wp2_with fail
        go_roundw
        case rel => exact ⟨k + 1, l, by omega, by omega, by go_num, hown3, HL.out, hSB3.le (by omega), hG03, hB3⟩
        case measure => simp [intOf]; omega
      | false =>
        go_wp2_with fail
        have hgl := hP3.lt
        have c0 : w3.cell? ⟨wr.heap.size, 0, none⟩ = some (.string a) := hP3.cell 0
        have c1 : w3.cell? ⟨wr.heap.size, 1, none⟩ = some (.string b) := hP3.cell 1
        generalize wr.heap.size = g at hP3 hgl c0 c1 hBl hsz hob2 ⊢
        go_region_held3 (fun w' => w'.cell? ⟨g, 0, none⟩ = some (.string a) ∧ w'.cell? ⟨g, 1, none⟩ = some (.string b)) (first | exact ⟨c0, c1⟩ | exact hS6 | exact hS7 | go_keep) (first | (go_at_call 10; refine (pick_c _ _ _ [0, 40, 700] _ _ _ ((hSB3.alloc _).quiet ((G.refl _ none).drew)) (by omega) (by decide) (by decide) ((Rd.newAt _ rfl rfl (by decide)).quiet ((G.refl _ none).drew)) (hSB3.newAt _ _ _ (Nat.le_refl _))).mono ?_; rintro e w6 ⟨r, rfl, hr, hSB6, hG6⟩; have hP6 := ((hP3.alloc _).quiet ((G.refl _ none).drew)).grown hG6 (fun e => by have := Option.some.inj e; omega); have hS6 : w6.cell? ⟨g, 0, none⟩ = some (.string a) ∧ w6.cell? ⟨g, 1, none⟩ = some (.string b) := ⟨hP6.cell 0, hP6.cell 1⟩; have hown6 := OwnFe.kept (World.ownsRow.drew (OwnFe.alloc hown3 _)) hG6 (by omega); have hG06 := (hG03.alloc _).drew.trans hG6; have hB6 := ((hB3.alloc _).quiet ((G.refl _ none).drew)).grown hG6 (fun e => by have := Option.some.inj e; omega); have hz6 := hG06.size) | (refine st_wp rfl (wp_append_fe _ _ rfl (w.heap.size + 1) u3 l rfl (OwnFe.alloc hown6 _) w6.heap.size (a, b, r) rfl (Bk.newAt rfl _ _) (by omega) (by simp; omega) ?_); intro v' w7 hown7 hgrow; have hP7 := (hP6.alloc _).grown hgrow (fun e => by have := hob2 _ e.symm; omega); have hS7 : w7.cell? ⟨g, 0, none⟩ = some (.string a) ∧ w7.cell? ⟨g, 1, none⟩ = some (.string b) := ⟨hP7.cell 0, hP7.cell 1⟩))
        have hob := fun r e => (World.ownsRow.lt hown6 r e).1
        go_wp2_with fail
        go_roundw
        case rel => exact ⟨k + 1, l ++ [(a, b, r)], by omega, by simp; omega, by go_num, hown7, HL.out.snoc ⟨ha, hb, bnd_pick hr (by decide)⟩, ((hSB6.alloc _).own hgrow fun r e => by have := hob r e; omega).le (by omega), (hG06.alloc _).other hgrow fun j e => .inl (by have := hob j e; omega), (hB6.alloc _).grown hgrow fun e => by have := hob _ e.symm; omega⟩
        case measure => simp [intOf]; omega
    · obtain rfl : k = 4 := by omega
      go_wp2_with fail
      refine (flip_c _ _ _ _ hSB (by omega) (by omega)).mono ?_; rintro e w3 ⟨q, rfl, hSB3, hG3⟩
      have hown3 := OwnFe.kept hown hG3 (by omega)
      have hG03 := hG.trans hG3
      clear hB hG hG3 hSB hown
      cases q with
      | false =>
        go_wp2_with fail
        go_ret
        exact fees_fin hown3 HL.out (by omega) (hSB3.le (by omega)) hG03
      | true =>
        go_wp2_with fail
        refine (some_c _ _ _ [⟨#[115, 51]⟩, ⟨#[65]⟩, ⟨#[115, 49]⟩] _ _ _ (hSB3.alloc _) (by omega) (by decide) (by decide) (Rd.newAt _ rfl rfl (by decide)) (hSB3.newAt _ _ _ (Nat.le_refl _))).mono ?_; rintro e w4 ⟨x, rfl, hx, hSB4, hG4⟩
        have hown4 := (OwnFe.alloc hown3 _).kept hG4 (by omega)
        have hG04 := (hG03.alloc _).trans hG4
        have hx' := small_pick hx (by decide)
        clear hown3 hG03 hG4 hSB3 hx
        go_wp2_with fail
        refine (some_c _ _ _ [⟨#[115, 51]⟩, ⟨#[115, 57]⟩, ⟨#[]⟩] _ _ _ (hSB4.alloc _) (by omega) (by decide) (by decide) (Rd.newAt _ rfl rfl (by decide)) (hSB4.newAt _ _ _ (Nat.le_refl _))).mono ?_; rintro e w5 ⟨y, rfl, hy, hSB5, hG5⟩
        have hown5 := (OwnFe.alloc hown4 _).kept hG5 (by omega)
        have hG05 := (hG04.alloc _).trans hG5
        have hy' := small_pick hy (by decide)
        clear hown4 hG04 hG5 hSB4 hy
        go_wp2_with fail
        refine (odd_c _ _ _ _ _ hSB5 (by omega) (by omega) (by omega) (by omega) (by omega)).mono ?_; rintro e w6 ⟨z, rfl, z0, z1, hSB6, hG6⟩
        have hown6 := OwnFe.kept hown5 hG6 (by omega)
        have hG06 := hG05.trans hG6
        clear hown5 hG05 hG6 hSB5
        have hsz6 := hG06.size
        have hob := fun r e => (World.ownsRow.lt hown6 r e).1
        go_wp2_with (at_builtin; refine wpList_plain rfl fun K' hK' => wp_append_fe _ _ rfl (w.heap.size + 1) u3 l rfl (OwnFe.alloc hown6 _) w6.heap.size (x, y, z) rfl (Bk.newAt rfl _ _) (by omega) (by simp; omega) ?_; intro v' w' hown' hgrow; refine hK' _ _ ?_)
        go_ret
        exact fees_fin hown' (HL.out.snoc ⟨hx', hy', z0, z1⟩) (by simp; omega) (((hSB6.alloc _).own hgrow fun r e => by have := hob r e; omega).le (by omega)) ((hG06.alloc _).other hgrow fun j e => .inl (by have := hob j e; omega))
end Go.Proofs.YtgofeigebldkiaaDoor
