/- Rek, PrB, PrC, PrD, PrE, PrF, Fee, Rat, Rac, Rae, Feg, Feb, Feo, Exq, Exr, Pck, GenE, GenR, Gck, GenQ, GenW. -/
import Derived.Test.YtndeidcddlmhbaaDoorZr1
import Derived.OrdersHeld
import Derived.Laws.AppendOwn
import Derived.Laws.ResultCell
import Derived.LaidEqlPtr
import Derived.Deep.MidRow
import Derived.Deep.RegionHeld3
import Derived.IntWalk
import Derived.Outline
/- A region that draws its order, whose loads are taken first: what they read holds until one store comes up, and that store waits for each of them. No program. -/
namespace Go.Proofs.YtndeidcddlmhbaaDoor
open Go.RowKit
section
variable {P : Program} {ops : Array Oper} {Q : Exit → Act → World → Prop} {md : Region.Mode} {S : World → Prop} {k : Nat}
/-- Whatever order is picked from here on; 'S' holds behind every operation, until number 'k' has come up. -/
def wpAnyK (P : Program) (md : Region.Mode) (ops : Array Oper) (Q : Exit → Act → World → Prop) (S : World → Prop) (k : Nat) : Nat → Array Bool → Act → World → Prop
  | 0, listed, a, w => Region.ready md ops listed = [] ∧ Q .normal a w
  | fuel + 1, listed, a, w =>
    (Region.ready md ops listed = [] → Q .normal a w) ∧
    ∀ i ∈ Region.ready md ops listed, wpOp P ops Q i (fun a' w' => (i ≠ k → listed.getD k true = false → S w') ∧ wpAnyK P md ops Q S k fuel (listed.setIfInBounds i true) a' w') a w
theorem wpAny_of_K : ∀ (fuel : Nat) (listed : Array Bool) (a : Act) (w : World), wpAnyK P md ops Q S k fuel listed a w → wpAny P md ops Q fuel listed a w
  | 0, _, _, _, h => h
  | fuel + 1, _, _, _, h => ⟨h.1, fun i hi => wpOp_mono (fun a' w' h' => wpAny_of_K fuel _ a' w' h'.2) (h.2 i hi)⟩
/-- Once 'k' has come up nothing more is asked. -/
theorem wpAnyK_of_any : ∀ (fuel : Nat) (listed : Array Bool) (a : Act) (w : World), listed.getD k true = true → wpAny P md ops Q fuel listed a w → wpAnyK P md ops Q S k fuel listed a w
  | 0, _, _, _, _, h => h
  | fuel + 1, listed, a, w, hk, h => by
    refine ⟨h.1, fun i hi => ?_⟩
    have hk' : (listed.setIfInBounds i true).getD k true = true := by
      by_cases e : i = k
      · subst e
        by_cases hlt : i < listed.size
        · simp [hlt]
        · simp [hlt]
      · rw [getD_set_ne true e]; exact hk
    refine wpOp_mono (K := wpAny P md ops Q fuel (listed.setIfInBounds i true)) (fun a' w' h' => ?_) (h.2 i hi)
    refine ⟨fun _ h0 => ?_, wpAnyK_of_any fuel _ a' w' hk' h'⟩
    rw [hk] at h0
    cases h0
theorem wpAnyK_first {i : Nat} {oi : Oper} {v : Value} {S' : World → Prop} (hi : ops[i]? = some oi) (hsel : ∀ (j : Nat) (o : Oper) cs b, ops[j]? = some o → o.op ≠ .select cs b) (hik : i ≠ k)
    (hQ : ∀ c a w, Q (.panic c) (a.put oi.dst v) w → Q (.panic c) a w) (hw : (∀ w, S' w) ∨ (S' = S ∧ ∃ ok, ops[k]? = some ok ∧ ∃ e ∈ ok.after, Region.binds md e = true ∧ e.on = i)) :
    ∀ (fuel : Nat) (listed : Array Bool) (a : Act) (w : World),
      (∀ j oj, ops[j]? = some oj → j ≠ i → listed.getD j true = false → (∀ e ∈ oj.after, Region.binds md e = true → e.on ≠ i) → oi.apart ops oj = true) →
      i ∈ Region.ready md ops listed → listed.getD k true = false ∨ (∀ w, S' w) → YieldsIf P ops S' oi v a → (listed.getD k true = false → S w) → S' w →
      wpAnyK P md ops Q S k fuel (listed.setIfInBounds i true) (a.put oi.dst v) w → wpAnyK P md ops Q S k (fuel + 1) listed a w := by
  intro fuel
  induction fuel with
  | zero =>
    intro listed a w _ hr _ hy hS hS' H
    refine ⟨fun h => (by rw [h] at hr; cases hr), fun j hj => ?_⟩
    by_cases hji : j = i
    · subst hji; exact hy.wpOp hi hS' ⟨fun _ h0 => hS h0, H⟩
    · have := ready_mono hj hji
      rw [H.1] at this
      cases this
  | succ fuel ih =>
    intro listed a w hfree hr hun0 hy hS hS' H
    refine ⟨fun h => (by rw [h] at hr; cases hr), fun j hj => ?_⟩
    by_cases hji : j = i
    · subst hji; exact hy.wpOp hi hS' ⟨fun _ h0 => hS h0, H⟩
    · have h1 := H.2 j (ready_mono hj hji)
      obtain ⟨hjun, oj, hoj, hall⟩ := mem_ready.1 hj
      have hnot : ∀ e ∈ oj.after, Region.binds md e = true → e.on ≠ i := fun e he hb heq => by
        have h1 := hall e he hb
        have h0 := (mem_ready.1 hr).1
        rw [heq] at h1
        rcases Nat.lt_or_ge i listed.size with h' | h'
        · simp [h'] at h0 h1; rw [h0] at h1; cases h1
        · simp [Array.getElem?_eq_none h'] at h1
      have h2 := wpOp_putIf hoj (hfree j oj hoj hji hjun hnot) (fun cs b => hsel i oi cs b hi) (fun cs b => hsel j oj cs b hoj) hQ hy h1
      have hfree' : ∀ k ok, ops[k]? = some ok → k ≠ i → (listed.setIfInBounds j true).getD k true = false →
          (∀ e ∈ ok.after, Region.binds md e = true → e.on ≠ i) → oi.apart ops ok = true := fun k ok hk hki hun hno => by
        refine hfree k ok hk hki ?_ hno
        by_cases hjk : j = k
        · subst hjk; exact hjun
        · rw [getD_set_ne true hjk] at hun; exact hun
      refine wpOp_mono (fun a' w' h3 => ?_) h2
      obtain ⟨hy', hT, hrest⟩ := h3
      have hTj : j ≠ k → listed.getD k true = false → S w' := fun hjk h0 => hT hjk (by rw [getD_set_ne true hik]; exact h0)
      refine ⟨hTj, ?_⟩
      have hrest' : wpAnyK P md ops Q S k fuel ((listed.setIfInBounds j true).setIfInBounds i true) (a'.put oi.dst v) w' := by
        rw [Array.setIfInBounds_comm _ _ hji]
        exact hrest
      rcases hw with hw | ⟨rfl, ok, hok, e, he, hb, hei⟩
      · refine ih (listed.setIfInBounds j true) a' w' hfree' (ready_mono hr (Ne.symm hji)) (.inr hw) hy' (fun h0 => ?_) (hw w') hrest'
        by_cases hjk : j = k
        · subst hjk
          exfalso
          have hjs : j < listed.size := by
            rcases Nat.lt_or_ge j listed.size with h' | h'
            · exact h'
            · have := (mem_ready.1 hj).1
              simp [Array.getElem?_eq_none h'] at this
          simp [hjs] at h0
        · exact hTj hjk (by rw [getD_set_ne true hjk] at h0; exact h0)
      · have hjk : j ≠ k := by
          rintro rfl
          rw [hoj] at hok
          obtain rfl := Option.some.inj hok
          exact hnot e he hb hei
        rcases hun0 with h0 | hall'
        · have hs' := hTj hjk h0
          exact ih (listed.setIfInBounds j true) a' w' hfree' (ready_mono hr (Ne.symm hji)) (.inl (by rw [getD_set_ne true hjk]; exact h0)) hy' (fun _ => hs') hs' hrest'
        · exact ih (listed.setIfInBounds j true) a' w' hfree' (ready_mono hr (Ne.symm hji)) (.inr hall') hy' (fun _ => hall' w') (hall' w') hrest'
/-- Take first what yields in whatever world. -/
theorem wpAnyK_take {i : Nat} {oi : Oper} {v : Value} {fuel : Nat} {listed : Array Bool} {a : Act} {w : World} (hi : ops[i]? = some oi) (hik : i ≠ k)
    (hs : Region.noSelect ops = true) (hf : Region.free md ops listed i = true) (hr : (Region.ready md ops listed).contains i = true)
    (hQ : ∀ c a w, Q (.panic c) (a.put oi.dst v) w → Q (.panic c) a w) (hy : YieldsIf P ops (fun _ => True) oi v a) (hS : S w)
    (h : wpAnyK P md ops Q S k fuel (listed.setIfInBounds i true) (a.put oi.dst v) w) : wpAnyK P md ops Q S k (fuel + 1) listed a w :=
  wpAnyK_first (S' := fun _ => True) hi (Region.noSelect_spec hs) hik hQ (.inl fun _ => trivial) fuel listed a w (Region.free_spec hi hf) (by simpa using hr) (.inr fun _ => trivial) hy (fun _ => hS) trivial h
def waitsB (md : Region.Mode) (ops : Array Oper) (k i : Nat) : Bool := match ops[k]? with | some o => o.after.any fun e => Region.binds md e && e.on == i | none => false
/-- Take first what yields in every world that meets S; 'k' waits for it. -/
theorem wpAnyK_load {i : Nat} {oi : Oper} {v : Value} {fuel : Nat} {listed : Array Bool} {a : Act} {w : World} (hi : ops[i]? = some oi) (hik : i ≠ k)
    (hs : Region.noSelect ops = true) (hf : Region.free md ops listed i = true) (hr : (Region.ready md ops listed).contains i = true) (hwt : waitsB md ops k i = true) (hun : listed.getD k true = false)
    (hQ : ∀ c a w, Q (.panic c) (a.put oi.dst v) w → Q (.panic c) a w) (hy : YieldsIf P ops S oi v a) (hS : S w)
    (h : wpAnyK P md ops Q S k fuel (listed.setIfInBounds i true) (a.put oi.dst v) w) : wpAnyK P md ops Q S k (fuel + 1) listed a w := by
  refine wpAnyK_first hi (Region.noSelect_spec hs) hik hQ (.inr ⟨rfl, ?_⟩) fuel listed a w (Region.free_spec hi hf) (by simpa using hr) (.inl hun) hy (fun _ => hS) hS h
  unfold waitsB at hwt
  split at hwt
  · rename_i ok hok
    rw [Array.any_eq_true'] at hwt
    obtain ⟨e, he, h2⟩ := hwt
    rw [Bool.and_eq_true, beq_iff_eq] at h2
    exact ⟨ok, hok, e, he, h2.1, h2.2⟩
  · cases hwt
theorem wpAnyK_all {rs : List Nat} {fuel : Nat} {listed : Array Bool} {a : Act} {w : World} (hr : Region.ready md ops listed = rs) (hne : rs ≠ [])
    (h : ∀ i ∈ rs, wpOp P ops Q i (fun a' w' => (i ≠ k → listed.getD k true = false → S w') ∧ wpAnyK P md ops Q S k fuel (listed.setIfInBounds i true) a' w') a w) : wpAnyK P md ops Q S k (fuel + 1) listed a w :=
  ⟨fun h0 => absurd (hr ▸ h0) hne, hr ▸ h⟩
theorem k_one {fuel : Nat} {listed : Array Bool} {a : Act} {w : World} {i : Nat} {o : Oper} (hr : Region.ready md ops listed = [i]) (ho : ops[i]? = some o)
    (h : ∀ K' : Act → World → Prop, (∀ a w, (i ≠ k → S w) → wpAnyK P md ops Q S k fuel (listed.setIfInBounds i true) a w → K' a w) → if Region.wanted o (yielded ops a.tmps) = true then Oper.wp P o a w K' Q else K' (a.put o.dst undef) w) : wpAnyK P md ops Q S k (fuel + 1) listed a w :=
  wpAnyK_all hr (by simp) fun j hj => by
    obtain rfl := List.mem_singleton.1 hj
    exact wpOp_step ho (fun K' hK => h K' (fun a w hS hW => hK a w ⟨fun h1 _ => hS h1, hW⟩))
theorem k_two {fuel : Nat} {listed : Array Bool} {a : Act} {w : World} {i j : Nat} {o o2 : Oper} (hr : Region.ready md ops listed = [i, j]) (ho : ops[i]? = some o) (ho2 : ops[j]? = some o2)
    (h : ∀ K' : Act → World → Prop, (∀ a w, (i ≠ k → S w) → wpAnyK P md ops Q S k fuel (listed.setIfInBounds i true) a w → K' a w) → if Region.wanted o (yielded ops a.tmps) = true then Oper.wp P o a w K' Q else K' (a.put o.dst undef) w)
    (h2 : ∀ K' : Act → World → Prop, (∀ a w, (j ≠ k → S w) → wpAnyK P md ops Q S k fuel (listed.setIfInBounds j true) a w → K' a w) → if Region.wanted o2 (yielded ops a.tmps) = true then Oper.wp P o2 a w K' Q else K' (a.put o2.dst undef) w) : wpAnyK P md ops Q S k (fuel + 1) listed a w :=
  wpAnyK_all hr (by simp) fun x hx => by
    rcases List.mem_cons.1 hx with rfl | hx
    · exact wpOp_step ho (fun K' hK => h K' (fun a w hS hW => hK a w ⟨fun h1 _ => hS h1, hW⟩))
    · obtain rfl := List.mem_singleton.1 hx
      exact wpOp_step ho2 (fun K' hK => h2 K' (fun a w hS hW => hK a w ⟨fun h1 _ => hS h1, hW⟩))
end
end Go.Proofs.YtndeidcddlmhbaaDoor

/- The law's own 'priced': the stay of one rental day. -/
namespace Go.Proofs.YtndeidcddlmhbaaDoor
open Go.RowKit

/-- One season, at the rate's block. -/
def Se (w : World) (v : Value) (b : Nat) : Prop := ∃ g cap, v = .slice (some ⟨g, 0, none⟩) 1 cap ∧ 1 ≤ cap ∧ cap ≤ maxLen ∧ g < w.heap.size ∧ w.cell? ⟨g, 0, none⟩ = some (.pointer (some ⟨b, 0, none⟩))
theorem Se.quiet {w w' : World} {v : Value} {b : Nat} (h : Se w v b) (hG : G w w' none) : Se w' v b := by
  obtain ⟨g, cap, rfl, h1, h2, h3, h4⟩ := h
  exact ⟨g, cap, rfl, h1, h2, Nat.lt_of_lt_of_le h3 hG.size, ((gcell hG).1 g _ h3).trans h4⟩
theorem sp_row : (Tryd.prog.info? 145).map (fun i => (i.zero, i.size, i.bytes)) = some (some (.pointer none), 1, 8) := by kernel_rfl
/-- An address appended to nothing. -/
theorem wp_append_sp {w : World} {o : Oper} {a : Act} {K : Act → World → Prop} {Q : Exit → Act → World → Prop} (s x : Operand)
    (ho : o.op = .call { callee := .builtin .append, args := #[s, x], argTypes := #[216, 216] }) (hs : a.eval s = .slice none 0 0)
    (g b : Nat) (hx : a.eval x = .slice (some ⟨g, 0, none⟩) 1 1) (hb : Bk w g 145 #[.pointer (some ⟨b, 0, none⟩)])
    (hK : ∀ v' w', Se w' v' b → (∀ g, v'.ownBlock = some g → w.heap.size ≤ g) → G w w' none → K (a.put o.dst v') w') : o.wp Tryd.prog a w K Q := by
  obtain ⟨i0, hi, hz0, hz1, hz2⟩ := info_parts sp_row
  refine wp_append_own w s x 216 ho w.heap.size 145 i0 _ 1 8 Tryd.underlying216 hi hz0 hz1 hz2 rfl (by decide) (.slice none 0 0) 0 [] hs (World.ownsRow_nil _ _ _ _) ⟨g, 0, none⟩ 1 1 [.pointer (some ⟨b, 0, none⟩)] hx rfl hb.at_ (by simp [Value.oneCell']) (by unfold maxLen; omega) (by omega) (Nat.le_refl _) ?_
  intro v w7 hown hgrow _
  refine hK v w7 ?_ (fun g e => (World.ownsRow.lt hown g e).1) hgrow
  obtain ⟨o1, o2⟩ := hown
  rcases o2 with ⟨_, o3⟩ | ⟨g, cap, cur, rfl, k1, k2, k3, k4, k5, k6⟩
  · omega
  · refine ⟨g, cap, rfl, by omega, k4, (Array.getElem?_eq_some_iff.1 k2).1, ?_⟩
    rw [cell_of_row w7 g 0 cur _ _ k2]
    have := congrArg (fun l : List Value => l[0]?) k6
    simpa using this
abbrev syC (v : Value) : Array Value := #[.int .i64 0, .int .i64 60, v]
theorem sy_info (v : Value) : (Tryd.prog.info? 218).map (·.size) = some (syC v).size := (by kernel_rfl : (Tryd.prog.info? 218).map (·.size) = some 3)
set_option maxRecDepth 100000 in
set_option maxHeartbeats 4000000 in
theorem stayOf1_c (w : World) (b : Nat) (h : Rt w b) : Calls Tryd.prog 144 #[.slice (some ⟨b, 0, none⟩) 1 1, .string ⟨#[99]⟩, .agg #[.int .i64 0, .int .i64 60]] w fun e w' => ∃ v, e = .returned (.agg (syC v)) ∧ Se w' v b ∧ G w w' none := by
  go_enter Tryd.func144, Tryd.ntmps144
  go_wp2_with fail
  refine wp_loop_rounds 2 ?_
  rw [rounds_succ]
  go_wp2_with fail
  have hB0 : Bk (((w.alloc (.cells #[.int .i64 0, .int .i64 60] 29)).alloc (.cells #[.int .i64 0, .int .i64 0, .slice none 0 0] 218)).alloc (.cells #[.int .i64 0, .int .i64 60, .slice none 0 0] 218)) w.heap.size 29 #[.int .i64 0, .int .i64 60] := ((Bk.new w _ _).alloc _).alloc _
  have hB1 : Bk (((w.alloc (.cells #[.int .i64 0, .int .i64 60] 29)).alloc (.cells #[.int .i64 0, .int .i64 0, .slice none 0 0] 218)).alloc (.cells #[.int .i64 0, .int .i64 60, .slice none 0 0] 218)) (w.heap.size + 1) 218 #[.int .i64 0, .int .i64 0, .slice none 0 0] := (Bk.newAt (by simp) _ _).alloc _
  have hB2 : Bk (((w.alloc (.cells #[.int .i64 0, .int .i64 60] 29)).alloc (.cells #[.int .i64 0, .int .i64 0, .slice none 0 0] 218)).alloc (.cells #[.int .i64 0, .int .i64 60, .slice none 0 0] 218)) (w.heap.size + 1 + 1) 218 #[.int .i64 0, .int .i64 60, .slice none 0 0] := Bk.newAt (by simp) _ _
  have hR : Rt (((w.alloc (.cells #[.int .i64 0, .int .i64 60] 29)).alloc (.cells #[.int .i64 0, .int .i64 0, .slice none 0 0] 218)).alloc (.cells #[.int .i64 0, .int .i64 60, .slice none 0 0] 218)) b := ((h.alloc _).alloc _).alloc _
  have hG : G w (((w.alloc (.cells #[.int .i64 0, .int .i64 60] 29)).alloc (.cells #[.int .i64 0, .int .i64 0, .slice none 0 0] 218)).alloc (.cells #[.int .i64 0, .int .i64 60, .slice none 0 0] 218)) none := (((G.refl w none).alloc _).alloc _).alloc _
  generalize (((w.alloc (.cells #[.int .i64 0, .int .i64 60] 29)).alloc (.cells #[.int .i64 0, .int .i64 0, .slice none 0 0] 218)).alloc (.cells #[.int .i64 0, .int .i64 60, .slice none 0 0] 218)) = w3 at hB0 hB1 hB2 hR hG ⊢
  obtain ⟨g0, hg0⟩ : ∃ g, w.heap.size = g := ⟨_, rfl⟩
  have hg1 : w.heap.size + 1 = g0 + 1 := by omega
  have hg2 : w.heap.size + 1 + 1 = g0 + 1 + 1 := by omega
  rw [hg0] at hB0 hB1 hB2 ⊢
  obtain ⟨g1, h1⟩ : ∃ g, g0 + 1 = g := ⟨_, rfl⟩
  rw [h1] at hB1 hB2 ⊢
  obtain ⟨g2, h2⟩ : ∃ g, g1 + 1 = g := ⟨_, rfl⟩
  rw [h2] at hB2 ⊢
  refine wp_region_any (by kernel_rfl) ?_
  change wpAny _ _ _ _ _ _ _ (World.drew _)
  have hB0 := hB0.quiet ((G.refl w3 none).drew)
  have hB1 := hB1.quiet ((G.refl w3 none).drew)
  have hB2 := hB2.quiet ((G.refl w3 none).drew)
  have hR := hR.quiet ((G.refl w3 none).drew)
  have hG := hG.drew
  generalize w3.drew = w4 at hB0 hB1 hB2 hR hG ⊢
  have hc2 : w4.cell? ⟨g2, 2, none⟩ = some (.slice none 0 0) := hB2.cell 2
  have hw0 : IntKind.i64.wrap 0 = 0 := by rw [IntKind.wrap_i64]; omega
  refine wpAny_of_K (S := fun w' => w'.cell? ⟨g2, 2, none⟩ = some (.slice none 0 0)) (k := 10) _ _ _ _ ?_
  refine wpAnyK_take (i := 0) (v := .pointer (some ⟨g2, 2, none⟩)) rfl (by decide) (by kernel_rfl) (by kernel_rfl) (by kernel_rfl) (fun _ _ _ h => h) (Or.inl ⟨by rfl, fun w _ => by go_simp⟩) hc2 ?_
  refine wpAnyK_load (i := 1) (v := .slice none 0 0) rfl (by decide) (by kernel_rfl) (by kernel_rfl) (by kernel_rfl) (by kernel_rfl) (by kernel_rfl) (fun _ _ _ h => h) (Or.inl ⟨by rfl, fun w hw => by have hw := hw; go_simp⟩) hc2 ?_
  refine wpAnyK_take (i := 2) (v := .slice (some ⟨b, 0, none⟩) 1 1) rfl (by decide) (by kernel_rfl) (by kernel_rfl) (by kernel_rfl) (fun _ _ _ h => h) (Or.inl ⟨by rfl, fun w _ => by go_simp⟩) hc2 ?_
  refine wpAnyK_take (i := 3) (v := .string ⟨#[99]⟩) rfl (by decide) (by kernel_rfl) (by kernel_rfl) (by kernel_rfl) (fun _ _ _ h => h) (Or.inl ⟨by rfl, fun w _ => by go_simp⟩) hc2 ?_
  refine wpAnyK_take (i := 4) (v := .int .i64 0) rfl (by decide) (by kernel_rfl) (by kernel_rfl) (by kernel_rfl) (fun _ _ _ h => h) (Or.inl ⟨by rfl, fun w _ => by go_simp⟩) hc2 ?_
  refine wpAnyK_take (i := 5) (v := .int .i64 0) rfl (by decide) (by kernel_rfl) (by kernel_rfl) (by kernel_rfl) (fun _ _ _ h => h) (Or.inl ⟨by rfl, fun w _ => by go_simp⟩) hc2 ?_
  refine k_one (i := 6) (by kernel_rfl) rfl fun K' hK => ?_
  refine st_call rfl (f := 101) (args := #[.slice (some ⟨b, 0, none⟩) 1 1, .string ⟨#[99]⟩, .int .i64 0]) (w1 := w4) (by go_simp) ?_
  refine (seasonOn1_c w4 b hR).mono ?_; rintro e w5 ⟨rfl, hG5⟩
  have hc5 : w5.cell? ⟨g2, 2, none⟩ = some (.slice none 0 0) := (hB2.quiet hG5).cell 2
  refine ⟨_, rfl, hK _ _ (fun _ => hc5) ?_⟩
  clear hK K'
  have hB0 := hB0.quiet hG5
  have hB1 := hB1.quiet hG5
  have hB2 := hB2.quiet hG5
  have hG := hG.trans hG5
  clear hG5 hR hc2
  refine k_one (i := 7) (by kernel_rfl) rfl fun K' hK => ?_
  refine st_val rfl (v := .slice (some ⟨w5.heap.size, 0, none⟩) 1 1) (w' := w5.alloc (.cells #[.pointer (some ⟨b, 0, none⟩)] 145)) (by go_simp) ?_
  refine hK _ _ (fun _ => (hB2.alloc _).cell 2) ?_
  clear hK K'
  have hP := Bk.new w5 145 #[.pointer (some ⟨b, 0, none⟩)]
  have hB0 := hB0.alloc (.cells #[.pointer (some ⟨b, 0, none⟩)] 145)
  have hB1 := hB1.alloc (.cells #[.pointer (some ⟨b, 0, none⟩)] 145)
  have hB2 := hB2.alloc (.cells #[.pointer (some ⟨b, 0, none⟩)] 145)
  have hG := hG.alloc (.cells #[.pointer (some ⟨b, 0, none⟩)] 145)
  clear hc5
  obtain ⟨g5, hg5⟩ : ∃ g, w5.heap.size = g := ⟨_, rfl⟩
  rw [hg5] at hP ⊢
  generalize w5.alloc (.cells #[.pointer (some ⟨b, 0, none⟩)] 145) = w6 at hP hB0 hB1 hB2 hG ⊢
  clear hg5
  have hl2 := hB2.lt
  refine k_one (i := 8) (by kernel_rfl) rfl fun K' hK => ?_
  refine st_wp rfl (wp_append_sp (.tmp 20) (.tmp 26) rfl (by go_simp) g5 b (by go_simp) hP fun v w7 hSe hvne hG7 => ?_)
  refine hK _ _ (fun _ => (hB2.quiet hG7).cell 2) ?_
  clear hK K'
  have hB0 := hB0.quiet hG7
  have hB1 := hB1.quiet hG7
  have hB2 := hB2.quiet hG7
  have hG := hG.trans hG7
  clear hP hG7
  refine wpAnyK_take (i := 9) (v := .pointer (some ⟨g2, 2, none⟩)) rfl (by decide) (by kernel_rfl) (by kernel_rfl) (by kernel_rfl) (fun _ _ _ h => h) (Or.inl ⟨by rfl, fun w _ => by go_simp⟩) (hB2.cell 2) ?_
  obtain ⟨gs, cap, rfl, q1, q2, q3, q4⟩ := hSe
  have hc1 := hB2.cell 2
  rw [show (#[Value.int .i64 0, .int .i64 60, .slice none 0 0] : Array Value)[2]? = some (.slice none 0 0) from rfl] at hc1
  have hf1 := hB2.free 2
  refine k_one (i := 10) (by kernel_rfl) rfl fun K' hK => ?_
  rw [if_pos (by rfl)]
  go_simp
  refine hK _ _ (fun h => absurd rfl h) ?_
  clear hK K' hc1 hf1
  refine wpAnyK_of_any _ _ _ _ (by kernel_rfl) ?_
  refine wpAny_done (by kernel_rfl) ?_ _
  have hne1 : gs ≠ g1 := by have := hvne gs rfl; omega
  have hne : ∀ g, (Value.slice (some ⟨gs, 0, none⟩) 1 cap).ownBlock = some g → g ≠ g2 := fun g e => by have := hvne g e; omega
  have hSe8 : Se (w7.setCell ⟨g2, 2, none⟩ (.slice (some ⟨gs, 0, none⟩) 1 cap)) (.slice (some ⟨gs, 0, none⟩) 1 cap) b := by
    refine ⟨gs, cap, rfl, q1, q2, by simpa [World.setCell] using q3, ?_⟩
    rw [← q4]
    exact World.cell?_of_block (w := w7) (Below.heap_setCell _ _ _ _ (hne gs rfl))
  have hB0 := hB0.far (p := ⟨g2, 2, none⟩) (by show g0 ≠ g2; omega) (.slice (some ⟨gs, 0, none⟩) 1 cap)
  have hB1 := hB1.far (p := ⟨g2, 2, none⟩) (by show g1 ≠ g2; omega) (.slice (some ⟨gs, 0, none⟩) 1 cap)
  have hB2 : Bk (w7.setCell ⟨g2, 2, none⟩ (.slice (some ⟨gs, 0, none⟩) 1 cap)) g2 218 #[.int .i64 0, .int .i64 60, .slice (some ⟨gs, 0, none⟩) 1 cap] := hB2.set 2 (.slice (some ⟨gs, 0, none⟩) 1 cap)
  have hG := hG.setCell (p := ⟨g2, 2, none⟩) (.inl (by show w.heap.size ≤ g2; omega)) (.slice (some ⟨gs, 0, none⟩) 1 cap)
  clear q3 q4 hvne hl2
  generalize w7.setCell ⟨g2, 2, none⟩ (.slice (some ⟨gs, 0, none⟩) 1 cap) = w8 at hSe8 hB0 hB1 hB2 hG ⊢
  have c1 := hB0.cell 1
  rw [show (#[Value.int .i64 0, .int .i64 60] : Array Value)[1]? = some (.int .i64 60) from rfl] at c1
  go_wp2_with fail
  rw [rounds_succ]
  go_wp2_with (first | (refine wpList_load_row rfl 218 _ rfl g2 rfl 218 #[.int .i64 0, .int .i64 60, .slice (some ⟨gs, 0, none⟩) 1 cap] (0, 0) _ hB2 Tryd.underlying218 rfl (sy_info _) ?_) | (refine wpList_store_row rfl 218 _ _ rfl g1 #[.int .i64 0, .int .i64 60, .slice (some ⟨gs, 0, none⟩) 1 cap] rfl rfl 218 _ hB1 (sy_info _) rfl (by simp [Value.oneCell']) ?_))
  refine bodyPost_ret (results_cell_row rfl _ _ g1 218 (syC (.slice (some ⟨gs, 0, none⟩) 1 cap)) (0, 0) _ rfl (hB1.setRow _) Tryd.underlying218 rfl (sy_info _)) rfl ?_
  refine ⟨_, rfl, ?_, hG.setRow (.inl (by omega)) _⟩
  obtain ⟨g', cap', e', q1', q2', q3', q4'⟩ := hSe8
  obtain ⟨rfl, rfl⟩ : gs = g' ∧ cap = cap' := by cases e'; exact ⟨rfl, rfl⟩
  refine ⟨gs, cap, rfl, q1', q2', by simpa using q3', ?_⟩
  rw [← q4']
  exact World.cell?_of_block (w := w8) (setRow_other w8 g1 gs _ hne1)
end Go.Proofs.YtndeidcddlmhbaaDoor

/- The law's own 'priced': what a stay of one rental day tells. -/
namespace Go.Proofs.YtndeidcddlmhbaaDoor
open Go.RowKit

theorem run_neq_ptr_same {P : Program} (w : World) {tp te : TypeId} {j : TypeInfo} (a : Addr) (hp : P.underlying tp = some (.pointer te)) (hte : P.info? te = some j) :
    (binOp .neq tp (.pointer (some a)) (.pointer (some a))).run P w = .ok (.bool false) w := by
  have h : ∀ d : Nat, (Op.equalIn (d + 1) tp (.pointer (some a)) (.pointer (some a))).run P w = .ok true w := fun d => by
    simp [Op.equalIn, run_underlying hp, sizeOf, typeInfo, hte, run_sameAddr_same]
  simp only [binOp]
  simp [Op.equal, Op.maxDepth, h 9999]
set_option maxRecDepth 100000 in
theorem stDays1_c (v : Value) (b : Nat) (w : World) (h : Se w v b) : Calls Tryd.prog 146 #[.agg (syC v)] w fun e w' => e = .returned (.int .i64 1) ∧ G w w' none := by
  obtain ⟨g, cap, rfl, q1, q2, q3, q4⟩ := h
  go_enter Tryd.func146, Tryd.ntmps146
  go_wp2_with fail
  go_ret
  exact ⟨rfl, (G.refl _ _).alloc _⟩
set_option maxRecDepth 100000 in
theorem begins0_c (v : Value) (w : World) : Calls Tryd.prog 193 #[.agg (syC v), .int .i64 0] w fun e w' => e = .returned (.int .i64 0) ∧ G w w' none := by
  go_enter Tryd.func193, Tryd.ntmps193
  go_wp2_with fail
  go_ret
  exact ⟨rfl, (G.refl _ _).alloc _⟩
set_option maxRecDepth 100000 in
theorem begins1_c (v : Value) (w : World) : Calls Tryd.prog 193 #[.agg (syC v), .int .i64 1] w fun e w' => e = .returned (.int .i64 1440) ∧ G w w' none := by
  go_enter Tryd.func193, Tryd.ntmps193
  go_wp2_with fail
  go_ret
  exact ⟨rfl, (G.refl _ _).alloc _⟩
set_option maxRecDepth 100000 in
set_option maxHeartbeats 1000000 in
theorem ends1_c (v : Value) (w : World) : Calls Tryd.prog 192 #[.agg (syC v), .int .i64 0] w fun e w' => e = .returned (.int .i64 60) ∧ G w w' none := by
  have hB := Bk.new w 218 (syC v)
  have hG := (G.refl w none).alloc (.cells (syC v) 218)
  have hw1 : IntKind.i64.wrap (0 + 1) = 1 := by rw [IntKind.wrap_i64]; omega
  have hw2 : IntKind.i64.wrap 1 = 1 := by rw [IntKind.wrap_i64]; omega
  go_enter Tryd.func192, Tryd.ntmps192
  go_wp2_with fail
  have hgl := hB.lt
  generalize w.alloc (.cells (syC v) 218) = w3 at hB hG hgl ⊢
  generalize w.heap.size = g at hB hgl ⊢
  have c0 : w3.cell? ⟨g, 0, none⟩ = some (.int .i64 0) := hB.cell 0
  have c1 : w3.cell? ⟨g, 1, none⟩ = some (.int .i64 60) := hB.cell 1
  have c2 : w3.cell? ⟨g, 2, none⟩ = some v := hB.cell 2
  go_region_held3 (fun w' => w'.cell? ⟨g, 0, none⟩ = some (.int .i64 0) ∧ w'.cell? ⟨g, 1, none⟩ = some (.int .i64 60) ∧ w'.cell? ⟨g, 2, none⟩ = some v) (first | exact ⟨c0, c1, c2⟩ | exact hS | go_keep) (first | (go_at_call 193; refine (begins1_c v _).mono ?_; rintro e w4 ⟨rfl, hG4⟩; have hG04 := hG.drew.trans hG4; have hB4 := (hB.quiet ((G.refl w3 none).drew)).quiet hG4; have hS : w4.cell? ⟨g, 0, none⟩ = some (.int .i64 0) ∧ w4.cell? ⟨g, 1, none⟩ = some (.int .i64 60) ∧ w4.cell? ⟨g, 2, none⟩ = some v := ⟨hB4.cell 0, hB4.cell 1, hB4.cell 2⟩))
  go_wp2_with fail
  go_ret
  exact ⟨rfl, hG04⟩
set_option maxRecDepth 100000 in
set_option maxHeartbeats 4000000 in
theorem weekendDays1_c (v : Value) (b : Nat) (w : World) (h : Se w v b) : Calls Tryd.prog 194 #[.agg (syC v), .int .i64 0] w fun e w' => e = .returned (.int .i64 1) ∧ G w w' none := by
  have h' := h
  obtain ⟨gs, cap, rfl, _, _, _, _⟩ := h'
  have hB := Bk.new w 218 (syC (.slice (some ⟨gs, 0, none⟩) 1 cap))
  have hG := (G.refl w none).alloc (.cells (syC (.slice (some ⟨gs, 0, none⟩) 1 cap)) 218)
  have hS := h.quiet hG
  go_enter Tryd.func194, Tryd.ntmps194
  go_wp2_with fail
  refine (begins0_c _ _).mono ?_; rintro e w1 ⟨rfl, hG1⟩
  have hB1 := hB.quiet hG1
  have hS1 := hS.quiet hG1
  have hG01 := hG.trans hG1
  clear hB hS hG hG1
  have d0 : w1.cell? ⟨w.heap.size, 0, none⟩ = some (.int .i64 0) := hB1.cell 0
  have d1 : w1.cell? ⟨w.heap.size, 1, none⟩ = some (.int .i64 60) := hB1.cell 1
  have d2 : w1.cell? ⟨w.heap.size, 2, none⟩ = some (.slice (some ⟨gs, 0, none⟩) 1 cap) := hB1.cell 2
  go_wp2_with fail
  refine (begins0_c _ _).mono ?_; rintro e w2 ⟨rfl, hG2⟩
  have hB2 := hB1.quiet hG2
  have hS2 := hS1.quiet hG2
  have hG02 := hG01.trans hG2
  clear hB1 hS1 hG01 hG2 d0 d1 d2
  have d0 : w2.cell? ⟨w.heap.size, 0, none⟩ = some (.int .i64 0) := hB2.cell 0
  have d1 : w2.cell? ⟨w.heap.size, 1, none⟩ = some (.int .i64 60) := hB2.cell 1
  have d2 : w2.cell? ⟨w.heap.size, 2, none⟩ = some (.slice (some ⟨gs, 0, none⟩) 1 cap) := hB2.cell 2
  go_wp2_with fail
  refine wp_loop_rounds 2 ?_
  rw [rounds_succ]
  go_wp2_with fail
  refine (stDays1_c _ b _ hS2).mono ?_; rintro e w3 ⟨rfl, hG3⟩
  have hB3 := hB2.quiet hG3
  have hS3 := hS2.quiet hG3
  have hG03 := hG02.trans hG3
  clear hB2 hS2 hG02 hG3 d0 d1 d2
  have d0 : w3.cell? ⟨w.heap.size, 0, none⟩ = some (.int .i64 0) := hB3.cell 0
  have d1 : w3.cell? ⟨w.heap.size, 1, none⟩ = some (.int .i64 60) := hB3.cell 1
  have d2 : w3.cell? ⟨w.heap.size, 2, none⟩ = some (.slice (some ⟨gs, 0, none⟩) 1 cap) := hB3.cell 2
  have hS3' := hS3
  obtain ⟨g', cap', e', q1, q2, q3, q4⟩ := hS3'
  obtain ⟨rfl, rfl⟩ : gs = g' ∧ cap = cap' := by cases e'; exact ⟨rfl, rfl⟩
  go_wp2_with fail
  refine (ends1_c _ _).mono ?_; rintro e w4 ⟨rfl, hG4⟩
  have hB4 := hB3.quiet hG4
  have hS4 := hS3.quiet hG4
  have hG04 := hG03.trans hG4
  clear hB3 hS3 hG03 hG4 d0 d1 d2 q3 q4
  have d0 : w4.cell? ⟨w.heap.size, 0, none⟩ = some (.int .i64 0) := hB4.cell 0
  have d1 : w4.cell? ⟨w.heap.size, 1, none⟩ = some (.int .i64 60) := hB4.cell 1
  have d2 : w4.cell? ⟨w.heap.size, 2, none⟩ = some (.slice (some ⟨gs, 0, none⟩) 1 cap) := hB4.cell 2
  go_wp2_with fail
  rw [rounds_succ]
  go_wp2_with fail
  refine (stDays1_c _ b _ hS4).mono ?_; rintro e w5 ⟨rfl, hG5⟩
  go_wp2_with fail
  go_ret
  exact ⟨rfl, hG04.trans hG5⟩
set_option maxRecDepth 100000 in
set_option maxHeartbeats 4000000 in
theorem sameSeason1_c (v : Value) (b : Nat) (w : World) (h : Se w v b) : Calls Tryd.prog 195 #[.agg (syC v), .int .i64 0, .int .i64 1] w fun e w' => e = .returned (.bool true) ∧ G w w' none := by
  obtain ⟨g, cap, rfl, q1, q2, q3, q4⟩ := h
  have hp : (w.alloc (.cells (syC (.slice (some ⟨g, 0, none⟩) 1 cap)) 218)).cell? ⟨g, 0, none⟩ = some (.pointer (some ⟨b, 0, none⟩)) := ((gcell ((G.refl w none).alloc _)).1 g _ q3).trans q4
  have hnp : ∀ w : World, (binOp .neq 145 (.pointer (some ⟨b, 0, none⟩)) (.pointer (some ⟨b, 0, none⟩))).run Tryd.prog w = .ok (.bool false) w := fun w => by
    obtain ⟨j, hj⟩ := Option.isSome_iff_exists.1 (show (Tryd.prog.info? 79).isSome = true by kernel_rfl)
    exact run_neq_ptr_same w _ Tryd.underlying145 hj
  go_enter Tryd.func195, Tryd.ntmps195
  go_wp2_with fail
  refine wp_loop_rounds 2 ?_
  rw [rounds_succ]
  go_wp2_with fail
  rw [rounds_succ]
  go_wp2_with fail
  go_ret
  exact ⟨rfl, (G.refl _ _).alloc _⟩
end Go.Proofs.YtndeidcddlmhbaaDoor

/- The law's own 'priced': the pieces of a rental day. -/
namespace Go.Proofs.YtndeidcddlmhbaaDoor
open Go.RowKit

/-- One piece, a day for 7. -/
def Pc (w : World) (v : Value) : Prop := ∃ g cap, v = .slice (some ⟨g, 0, none⟩) 1 cap ∧ 1 ≤ cap ∧ cap ≤ maxLen ∧ g < w.heap.size ∧ w.cell? ⟨g, 0, none⟩ = some (.int .i64 2) ∧ w.cell? ⟨g, 1, none⟩ = some (.int .i64 1) ∧ w.cell? ⟨g, 2, none⟩ = some (.int .i64 7)
theorem Pc.quiet {w w' : World} {v : Value} (h : Pc w v) (hG : G w w' none) : Pc w' v := by
  obtain ⟨g, cap, rfl, h1, h2, h3, h4, h5, h6⟩ := h
  exact ⟨g, cap, rfl, h1, h2, Nat.lt_of_lt_of_le h3 hG.size, ((gcell hG).1 g _ h3).trans h4, ((gcell hG).1 g _ h3).trans h5, ((gcell hG).1 g _ h3).trans h6⟩
abbrev pcC : Array Value := #[.int .i64 2, .int .i64 1, .int .i64 7]
theorem pc_row : (Tryd.prog.info? 155).map (fun i => (i.zero, i.size, i.bytes)) = some (some (.agg #[.int .i64 0, .int .i64 0, .int .i64 0]), 3, 24) := by kernel_rfl
theorem wp_append_pc {w : World} {o : Oper} {a : Act} {K : Act → World → Prop} {Q : Exit → Act → World → Prop} (s x : Operand)
    (ho : o.op = .call { callee := .builtin .append, args := #[s, x], argTypes := #[150, 150] }) (hs : a.eval s = .slice none 0 0)
    (g : Nat) (hx : a.eval x = .slice (some ⟨g, 0, none⟩) 1 1) (hb : Bk w g 155 pcC)
    (hK : ∀ v' w', Pc w' v' → (∀ g, v'.ownBlock = some g → w.heap.size ≤ g) → G w w' none → K (a.put o.dst v') w') : o.wp Tryd.prog a w K Q := by
  obtain ⟨i0, hi, hz0, hz1, hz2⟩ := info_parts pc_row
  refine wp_append_own w s x 150 ho w.heap.size 155 i0 _ 3 24 Tryd.underlying150 hi hz0 hz1 hz2 rfl (by decide) (.slice none 0 0) 0 [] hs (World.ownsRow_nil _ _ _ _) ⟨g, 0, none⟩ 1 1 pcC.toList hx rfl hb.at_ (by simp [Value.oneCell']) (by unfold maxLen; omega) (by omega) (Nat.le_refl _) ?_
  intro v w7 hown hgrow _
  refine hK v w7 ?_ (fun g e => (World.ownsRow.lt hown g e).1) hgrow
  obtain ⟨o1, o2⟩ := hown
  rcases o2 with ⟨_, o3⟩ | ⟨g, cap, cur, rfl, k1, k2, k3, k4, k5, k6⟩
  · omega
  · have hat : ∀ (i : Nat) (u : Value), (pcC.toList)[i]? = some u → w7.cell? ⟨g, i, none⟩ = some u := fun i u hu => by
      rw [cell_of_row w7 g i cur _ _ k2]
      have h1 := congrArg (fun l : List Value => l[i]?) k6
      simp only [List.nil_append] at h1
      rw [hu] at h1
      rw [List.getElem?_take] at h1
      split at h1
      · simpa using h1
      · cases h1
    exact ⟨g, cap, rfl, by omega, k4, (Array.getElem?_eq_some_iff.1 k2).1, hat 0 _ rfl, hat 1 _ rfl, hat 2 _ rfl⟩
set_option maxRecDepth 100000 in
theorem addNo_c (k d t : Int) (g : Nat) (w : World) : Calls Tryd.prog 191 #[.int .i64 k, .int .i64 d, .int .i64 (-1), .int .i64 t, .pointer (some ⟨g, 0, none⟩)] w fun e w' => e = .returned (.tuple #[]) ∧ w = w' := by
  go_enter Tryd.func191, Tryd.ntmps191
  go_wp2_with fail
  go_end0
  exact ⟨rfl, rfl⟩
set_option maxRecDepth 100000 in
set_option maxHeartbeats 2000000 in
theorem addDay_c (g : Nat) (w : World) (hB : Bk w g 150 #[.slice none 0 0]) : Calls Tryd.prog 191 #[.int .i64 2, .int .i64 1, .int .i64 7, .int .i64 1, .pointer (some ⟨g, 0, none⟩)] w fun e w' => ∃ v, e = .returned (.tuple #[]) ∧ Pc w' v ∧ Bk w' g 150 #[v] ∧ G w w' (some g) := by
  have c0 := hB.cell 0
  have f0 := hB.free 0
  have hgl := hB.lt
  rw [show (#[Value.slice none 0 0] : Array Value)[0]? = some (.slice none 0 0) from rfl] at c0
  go_enter Tryd.func191, Tryd.ntmps191
  go_wp2_with (at_builtin; refine wpList_plain rfl fun K' hK' => wp_append_pc _ _ rfl rfl w.heap.size rfl (Bk.newAt rfl _ _) fun v w7 hpc hvne hG7 => ?_; refine hK' _ _ ?_; clear hK'; obtain ⟨gs, cap, rfl, q1, q2, q3, q4, q5, q6⟩ := hpc; have hB7 := (hB.alloc (.cells #[.int .i64 2, .int .i64 1, .int .i64 7] 155)).quiet hG7; have c7 : w7.cell? ⟨g, 0, none⟩ = some (.slice none 0 0) := hB7.cell 0; have f7 := hB7.free 0)
  go_end0
  have hne : gs ≠ g := by have := hvne gs rfl; simp at this; omega
  have hcell : ∀ i, (w7.setCell ⟨g, 0, none⟩ (.slice (some ⟨gs, 0, none⟩) 1 cap)).cell? ⟨gs, i, none⟩ = w7.cell? ⟨gs, i, none⟩ := fun i => World.cell?_of_block (w := w7) (Below.heap_setCell _ _ _ _ hne)
  refine ⟨_, rfl, ⟨gs, cap, rfl, q1, q2, by simpa [World.setCell] using q3, (hcell 0).trans q4, (hcell 1).trans q5, (hcell 2).trans q6⟩, hB7.set 0 _, ?_⟩
  exact (((G.refl w (some g)).alloc _).trans (hG7.but (some g))).setCell (.inr rfl) _
/-- What stands while the pieces of the day are put together. -/
def PInv (w0 : World) (b g g6 : Nat) (v pv : Value) (w : World) : Prop := Bk w g 218 (syC v) ∧ Bk w g6 150 #[pv] ∧ Se w v b ∧ Rt w b ∧ G w0 w none
theorem PInv.quiet {w0 w w' : World} {b g g6 : Nat} {v pv : Value} (h : PInv w0 b g g6 v pv w) (hG : G w w' none) : PInv w0 b g g6 v pv w' :=
  ⟨h.1.quiet hG, h.2.1.quiet hG, h.2.2.1.quiet hG, h.2.2.2.1.quiet hG, h.2.2.2.2.trans hG⟩
set_option maxRecDepth 100000 in
set_option maxHeartbeats 8000000 in
theorem pieces1_c (v : Value) (b : Nat) (w : World) (h : Se w v b) (hR : Rt w b) : Calls Tryd.prog 171 #[.agg (syC v), .int .i64 0] w fun e w' => ∃ p, e = .returned p ∧ Pc w' p ∧ G w w' none := by
  have hmf : ∀ (fn : Go.Fn) (first cap : Array Value) (w : World), (Instr.makeFunc fn first cap).run Tryd.prog w = .ok (.func fn first cap) w := fun _ _ _ _ => rfl
  have h' := h
  obtain ⟨gs, cap, rfl, q1, q2, q3, q4⟩ := h'
  have hcs : (w.alloc (.cells (syC (.slice (some ⟨gs, 0, none⟩) 1 cap)) 218)).cell? ⟨gs, 0, none⟩ = some (.pointer (some ⟨b, 0, none⟩)) := ((gcell ((G.refl w none).alloc _)).1 gs _ q3).trans q4
  have hbl := hR.lt
  go_enter Tryd.func171, Tryd.ntmps171
  go_wp2_with fail
  clear hcs q4
  have hI : PInv w b w.heap.size (w.heap.size + 1) (.slice (some ⟨gs, 0, none⟩) 1 cap) (.slice none 0 0) ((w.alloc (.cells (syC (.slice (some ⟨gs, 0, none⟩) 1 cap)) 218)).alloc (.cells #[.slice none 0 0] 150)) := ⟨(Bk.new w _ _).alloc _, Bk.newAt (by simp) _ _, (h.quiet ((G.refl _ _).alloc _)).quiet ((G.refl _ _).alloc _), (hR.alloc _).alloc _, ((G.refl w none).alloc _).alloc _⟩
  have hg6 : w.heap.size ≤ w.heap.size + 1 := by omega
  have hgs6 : gs ≠ w.heap.size + 1 := by omega
  have hb6 : b ≠ w.heap.size + 1 := by omega
  have hgg6 : w.heap.size ≠ w.heap.size + 1 := by omega
  clear h hR q3 hbl
  generalize ((w.alloc (.cells (syC (.slice (some ⟨gs, 0, none⟩) 1 cap)) 218)).alloc (.cells #[.slice none 0 0] 150)) = w2 at hI ⊢
  generalize w.heap.size + 1 = g6 at hI hg6 hgs6 hb6 hgg6 ⊢
  obtain ⟨g, hg⟩ : ∃ g, w.heap.size = g := ⟨_, rfl⟩
  rw [hg] at hI hg6 hgg6 ⊢
  refine (stDays1_c _ b _ hI.2.2.1).mono ?_; rintro e w3 ⟨rfl, hG3⟩
  have hI := hI.quiet hG3
  have c0 : w3.cell? ⟨g, 0, none⟩ = some (.int .i64 0) := hI.1.cell 0
  have c1 : w3.cell? ⟨g, 1, none⟩ = some (.int .i64 60) := hI.1.cell 1
  have c2 : w3.cell? ⟨g, 2, none⟩ = some (.slice (some ⟨gs, 0, none⟩) 1 cap) := hI.1.cell 2
  have c6 : w3.cell? ⟨g6, 0, none⟩ = some (.slice none 0 0) := hI.2.1.cell 0
  have r3 : w3.cell? ⟨b, 3, none⟩ = some (.int .i64 (-1)) := (hI.2.2.2.1.cell 3).trans rt3
  have r4 : w3.cell? ⟨b, 4, none⟩ = some (.int .i64 7) := (hI.2.2.2.1.cell 4).trans rt4
  have r5 : w3.cell? ⟨b, 5, none⟩ = some (.int .i64 (-1)) := (hI.2.2.2.1.cell 5).trans rt5
  have r6 : w3.cell? ⟨b, 6, none⟩ = some (.int .i64 (-1)) := (hI.2.2.2.1.cell 6).trans rt6
  go_wp2_with fail
  go_region_held3 (fun w' => w'.cell? ⟨b, 3, none⟩ = some (.int .i64 (-1)) ∧ w'.cell? ⟨g, 0, none⟩ = some (.int .i64 0) ∧ w'.cell? ⟨g, 1, none⟩ = some (.int .i64 60) ∧ w'.cell? ⟨g, 2, none⟩ = some (.slice (some ⟨gs, 0, none⟩) 1 cap)) (first | exact ⟨r3, c0, c1, c2⟩ | exact hS5 | exact hS4 | go_keep) (first | (go_at_call 192; refine (ends1_c _ _).mono ?_; rintro e w4 ⟨rfl, hG4⟩; have hI4 := (hI.quiet ((G.refl w3 none).drew)).quiet hG4; have hS4 : w4.cell? ⟨b, 3, none⟩ = some (.int .i64 (-1)) ∧ w4.cell? ⟨g, 0, none⟩ = some (.int .i64 0) ∧ w4.cell? ⟨g, 1, none⟩ = some (.int .i64 60) ∧ w4.cell? ⟨g, 2, none⟩ = some (.slice (some ⟨gs, 0, none⟩) 1 cap) := ⟨(hI4.2.2.2.1.cell 3).trans rt3, hI4.1.cell 0, hI4.1.cell 1, hI4.1.cell 2⟩) | (go_at_call 193; refine (begins0_c _ _).mono ?_; rintro e w5 ⟨rfl, hG5⟩; have hI5 := hI4.quiet hG5; have hS5 : w5.cell? ⟨b, 3, none⟩ = some (.int .i64 (-1)) ∧ w5.cell? ⟨g, 0, none⟩ = some (.int .i64 0) ∧ w5.cell? ⟨g, 1, none⟩ = some (.int .i64 60) ∧ w5.cell? ⟨g, 2, none⟩ = some (.slice (some ⟨gs, 0, none⟩) 1 cap) := ⟨(hI5.2.2.2.1.cell 3).trans rt3, hI5.1.cell 0, hI5.1.cell 1, hI5.1.cell 2⟩) | (go_at_call 100; refine (begun1_c 60 60 _ (by omega) (by omega) (by omega) (by omega)).mono ?_; rintro e w' ⟨rfl, rfl⟩) | (go_at_call 191; refine (addNo_c _ _ _ _ _).mono ?_; rintro e w' ⟨rfl, rfl⟩))
  clear c0 c1 c2 c6 r3 r4 r5 r6
  have hI := hI5
  clear hI4 hI5 hS4 hS5
  have c0 : w5.cell? ⟨g, 0, none⟩ = some (.int .i64 0) := hI.1.cell 0
  have c1 : w5.cell? ⟨g, 1, none⟩ = some (.int .i64 60) := hI.1.cell 1
  have c2 : w5.cell? ⟨g, 2, none⟩ = some (.slice (some ⟨gs, 0, none⟩) 1 cap) := hI.1.cell 2
  have c6 : w5.cell? ⟨g6, 0, none⟩ = some (.slice none 0 0) := hI.2.1.cell 0
  have r3 : w5.cell? ⟨b, 3, none⟩ = some (.int .i64 (-1)) := (hI.2.2.2.1.cell 3).trans rt3
  have r4 : w5.cell? ⟨b, 4, none⟩ = some (.int .i64 7) := (hI.2.2.2.1.cell 4).trans rt4
  have r5 : w5.cell? ⟨b, 5, none⟩ = some (.int .i64 (-1)) := (hI.2.2.2.1.cell 5).trans rt5
  have r6 : w5.cell? ⟨b, 6, none⟩ = some (.int .i64 (-1)) := (hI.2.2.2.1.cell 6).trans rt6
  go_wp2_with fail
  refine (addDay_c g6 _ hI.2.1).mono ?_; rintro e w6 ⟨pv, rfl, hpc, hP6, hG6⟩
  obtain ⟨i1, i2, i3, i4, i5⟩ := hI
  have hSe6 : Se w6 (.slice (some ⟨gs, 0, none⟩) 1 cap) b := by
    obtain ⟨g', cap', e', k1, k2, k3, k4⟩ := i3
    obtain ⟨rfl, rfl⟩ : gs = g' ∧ cap = cap' := by cases e'; exact ⟨rfl, rfl⟩
    exact ⟨gs, cap, rfl, k1, k2, Nat.lt_of_lt_of_le k3 hG6.size, ((gcell_s hG6).1 gs _ k3 hgs6).trans k4⟩
  have hI : PInv w b g g6 (.slice (some ⟨gs, 0, none⟩) 1 cap) pv w6 := ⟨i1.grown hG6 (fun e => hgg6 (Option.some.inj e)), hP6, hSe6, i4.grown hG6 (fun e => hb6 (Option.some.inj e)), i5.other hG6 (fun j e => .inl (by have := Option.some.inj e; omega))⟩
  clear i1 i2 i3 i4 i5 hSe6 hP6 hG6
  clear c0 c1 c2 c6 r3 r4 r5 r6
  have c0 : w6.cell? ⟨g, 0, none⟩ = some (.int .i64 0) := hI.1.cell 0
  have c1 : w6.cell? ⟨g, 1, none⟩ = some (.int .i64 60) := hI.1.cell 1
  have c2 : w6.cell? ⟨g, 2, none⟩ = some (.slice (some ⟨gs, 0, none⟩) 1 cap) := hI.1.cell 2
  have c6 : w6.cell? ⟨g6, 0, none⟩ = some (pv) := hI.2.1.cell 0
  have r3 : w6.cell? ⟨b, 3, none⟩ = some (.int .i64 (-1)) := (hI.2.2.2.1.cell 3).trans rt3
  have r4 : w6.cell? ⟨b, 4, none⟩ = some (.int .i64 7) := (hI.2.2.2.1.cell 4).trans rt4
  have r5 : w6.cell? ⟨b, 5, none⟩ = some (.int .i64 (-1)) := (hI.2.2.2.1.cell 5).trans rt5
  have r6 : w6.cell? ⟨b, 6, none⟩ = some (.int .i64 (-1)) := (hI.2.2.2.1.cell 6).trans rt6
  go_wp2_with fail
  refine (weekendDays1_c _ b _ hI.2.2.1).mono ?_; rintro e w7 ⟨rfl, hG7⟩
  have hI := hI.quiet hG7
  have hpc := hpc.quiet hG7
  clear c0 c1 c2 c6 r3 r4 r5 r6
  have c0 : w7.cell? ⟨g, 0, none⟩ = some (.int .i64 0) := hI.1.cell 0
  have c1 : w7.cell? ⟨g, 1, none⟩ = some (.int .i64 60) := hI.1.cell 1
  have c2 : w7.cell? ⟨g, 2, none⟩ = some (.slice (some ⟨gs, 0, none⟩) 1 cap) := hI.1.cell 2
  have c6 : w7.cell? ⟨g6, 0, none⟩ = some (pv) := hI.2.1.cell 0
  have r3 : w7.cell? ⟨b, 3, none⟩ = some (.int .i64 (-1)) := (hI.2.2.2.1.cell 3).trans rt3
  have r4 : w7.cell? ⟨b, 4, none⟩ = some (.int .i64 7) := (hI.2.2.2.1.cell 4).trans rt4
  have r5 : w7.cell? ⟨b, 5, none⟩ = some (.int .i64 (-1)) := (hI.2.2.2.1.cell 5).trans rt5
  have r6 : w7.cell? ⟨b, 6, none⟩ = some (.int .i64 (-1)) := (hI.2.2.2.1.cell 6).trans rt6
  go_wp2_with fail
  refine wp_loop_rounds 2 ?_
  rw [rounds_succ]
  go_wp2_with fail
  refine (addNo_c _ _ _ _ _).mono ?_; rintro e w' ⟨rfl, rfl⟩
  go_wp2_with fail
  rw [rounds_succ]
  go_wp2_with fail
  refine (stDays1_c _ b _ hI.2.2.1).mono ?_; rintro e w8 ⟨rfl, hG8⟩
  have hI := hI.quiet hG8
  have hpc := hpc.quiet hG8
  clear c0 c1 c2 c6 r3 r4 r5 r6
  have c0 : w8.cell? ⟨g, 0, none⟩ = some (.int .i64 0) := hI.1.cell 0
  have c1 : w8.cell? ⟨g, 1, none⟩ = some (.int .i64 60) := hI.1.cell 1
  have c2 : w8.cell? ⟨g, 2, none⟩ = some (.slice (some ⟨gs, 0, none⟩) 1 cap) := hI.1.cell 2
  have c6 : w8.cell? ⟨g6, 0, none⟩ = some (pv) := hI.2.1.cell 0
  have r3 : w8.cell? ⟨b, 3, none⟩ = some (.int .i64 (-1)) := (hI.2.2.2.1.cell 3).trans rt3
  have r4 : w8.cell? ⟨b, 4, none⟩ = some (.int .i64 7) := (hI.2.2.2.1.cell 4).trans rt4
  have r5 : w8.cell? ⟨b, 5, none⟩ = some (.int .i64 (-1)) := (hI.2.2.2.1.cell 5).trans rt5
  have r6 : w8.cell? ⟨b, 6, none⟩ = some (.int .i64 (-1)) := (hI.2.2.2.1.cell 6).trans rt6
  go_wp2_with fail
  refine (sameSeason1_c _ b _ hI.2.2.1).mono ?_; rintro e w9 ⟨rfl, hG9⟩
  have hI := hI.quiet hG9
  have hpc := hpc.quiet hG9
  clear c0 c1 c2 c6 r3 r4 r5 r6
  have c0 : w9.cell? ⟨g, 0, none⟩ = some (.int .i64 0) := hI.1.cell 0
  have c1 : w9.cell? ⟨g, 1, none⟩ = some (.int .i64 60) := hI.1.cell 1
  have c2 : w9.cell? ⟨g, 2, none⟩ = some (.slice (some ⟨gs, 0, none⟩) 1 cap) := hI.1.cell 2
  have c6 : w9.cell? ⟨g6, 0, none⟩ = some (pv) := hI.2.1.cell 0
  have r3 : w9.cell? ⟨b, 3, none⟩ = some (.int .i64 (-1)) := (hI.2.2.2.1.cell 3).trans rt3
  have r4 : w9.cell? ⟨b, 4, none⟩ = some (.int .i64 7) := (hI.2.2.2.1.cell 4).trans rt4
  have r5 : w9.cell? ⟨b, 5, none⟩ = some (.int .i64 (-1)) := (hI.2.2.2.1.cell 5).trans rt5
  have r6 : w9.cell? ⟨b, 6, none⟩ = some (.int .i64 (-1)) := (hI.2.2.2.1.cell 6).trans rt6
  go_wp2_with fail
  refine (addNo_c _ _ _ _ _).mono ?_; rintro e w' ⟨rfl, rfl⟩
  go_wp2_with fail
  go_ret
  exact ⟨pv, rfl, hpc, hI.2.2.2.2⟩
end Go.Proofs.YtndeidcddlmhbaaDoor

/- The law's own 'priced': the plans of a stay of one rental day. -/
namespace Go.Proofs.YtndeidcddlmhbaaDoor
open Go.RowKit

abbrev plA : Array Value := #[.bool true, .int .i64 7, .int .i64 1, .int .i64 2, .int .i64 1, .int .i64 7]
abbrev plZ : Array Value := #[.bool false, .int .i64 0, .int .i64 0, .int .i64 0, .int .i64 0, .int .i64 0]
abbrev plE : Array Value := #[.bool true, .int .i64 0, .int .i64 0, .int .i64 0, .int .i64 0, .int .i64 0]
set_option maxRecDepth 100000 in
set_option maxHeartbeats 1000000 in
theorem better1_c (w : World) : Calls Tryd.prog 172 #[.agg plA, .agg plZ] w fun e w' => e = .returned (.bool true) ∧ G w w' none := by
  go_enter Tryd.func172, Tryd.ntmps172
  go_wp2_with fail
  go_ret
  exact ⟨rfl, ((G.refl _ _).alloc _).alloc _⟩
abbrev pl0 : Array Value := #[.bool false, .int .i64 0, .int .i64 0, .int .i64 0, .int .i64 0, .int .i64 0, .bool false, .int .i64 0, .int .i64 0, .int .i64 0, .int .i64 0, .int .i64 0]
abbrev pl1 : Array Value := #[.bool false, .int .i64 0, .int .i64 0, .int .i64 0, .int .i64 0, .int .i64 0, .bool true, .int .i64 0, .int .i64 0, .int .i64 0, .int .i64 0, .int .i64 0]
/-- The two plans, as they are at the end. -/
abbrev pl2 : Array Value := #[.bool true, .int .i64 7, .int .i64 1, .int .i64 2, .int .i64 1, .int .i64 7, .bool true, .int .i64 0, .int .i64 0, .int .i64 0, .int .i64 0, .int .i64 0]
/-- What stands while the plans are made. -/
def QInv (w0 : World) (b g0 gp : Nat) (v : Value) (pl : Array Value) (w : World) : Prop := Bk w g0 218 (syC v) ∧ Bk w gp 223 pl ∧ Se w v b ∧ Rt w b ∧ G w0 w none
theorem QInv.quiet {w0 w w' : World} {b g0 gp : Nat} {v : Value} {pl : Array Value} (h : QInv w0 b g0 gp v pl w) (hG : G w w' none) : QInv w0 b g0 gp v pl w' :=
  ⟨h.1.quiet hG, h.2.1.quiet hG, h.2.2.1.quiet hG, h.2.2.2.1.quiet hG, h.2.2.2.2.trans hG⟩
theorem QInv.set {w0 w : World} {b g0 gp : Nat} {v : Value} {pl : Array Value} (h : QInv w0 b g0 gp v pl w) (h0 : g0 ≠ gp) (hv : ∀ g, v.ownBlock = some g → g ≠ gp) (hb : b ≠ gp) (hw : w0.heap.size ≤ gp) (i : Nat) (x : Value) : QInv w0 b g0 gp v (pl.setIfInBounds i x) (w.setCell ⟨gp, i, none⟩ x) := by
  obtain ⟨h1, h2, h3, h4, h5⟩ := h
  refine ⟨h1.far (p := ⟨gp, i, none⟩) h0 x, h2.set i x, ?_, h4.far (p := ⟨gp, i, none⟩) hb x, h5.setCell (p := ⟨gp, i, none⟩) (.inl hw) x⟩
  obtain ⟨g, cap, rfl, q1, q2, q3, q4⟩ := h3
  exact ⟨g, cap, rfl, q1, q2, by simpa [World.setCell] using q3, (World.cell?_of_block (w := w) (Below.heap_setCell _ _ _ _ (hv g rfl))).trans q4⟩
theorem Bk.sub {w : World} {g : Nat} {T : TypeId} {cs : Array Value} (h : Bk w g T cs) (o : Nat) (sub : Array Value) (hs : ∀ (j : Nat) (u : Value), sub[j]? = some u → cs[o + j]? = some u) : ∀ j u, sub.toList[j]? = some u → w.cell? ((⟨g, o, none⟩ : Addr).add j) = some u := fun j u hu => by
  rw [add_at, h.cell]
  exact hs j u (by simpa using hu)
theorem pl_info : (Tryd.prog.info? 223).map (·.size) = some plA.size := (by kernel_rfl : (Tryd.prog.info? 223).map (·.size) = some 6)
set_option maxRecDepth 100000 in
set_option maxHeartbeats 8000000 in
theorem plans1_c (v : Value) (b : Nat) (w : World) (h : Se w v b) (hR : Rt w b) : Calls Tryd.prog 145 #[.agg (syC v)] w fun e w' => ∃ g, e = .returned (.slice (some ⟨g, 0, none⟩) 2 2) ∧ Bk w' g 223 pl2 ∧ G w w' none := by
  have hms : ∀ w : World, (Instr.makeSlice 220 (.int .i64 2) (.int .i64 2)).run Tryd.prog w = .ok (.slice (some ⟨w.heap.size, 0, none⟩) 2 2) (w.alloc (.cells pl0 223)) := fun _ => by kernel_rfl
  have hB := Bk.new w 218 (syC v)
  have hG := (G.refl w none).alloc (.cells (syC v) 218)
  have hS := h.quiet hG
  have hR' := hR.quiet hG
  have hvs : ∀ g, v.ownBlock = some g → g < w.heap.size := fun g e => by
    obtain ⟨g', cap, rfl, _, _, q3, _⟩ := h
    obtain rfl := Option.some.inj e
    exact q3
  have hbl := hR.lt
  go_enter Tryd.func145, Tryd.ntmps145
  go_wp2_with fail
  refine (stDays1_c _ b _ hS).mono ?_; rintro e w1 ⟨rfl, hG1⟩
  have hB1 := hB.quiet hG1
  have hS1 := hS.quiet hG1
  have hR1 := hR'.quiet hG1
  have hG01 := hG.trans hG1
  clear hB hS hR' hG hG1 h hR
  have hz1 := hB1.lt
  have hI : QInv w b w.heap.size w1.heap.size v pl0 (w1.alloc (.cells pl0 223)) := ⟨hB1.alloc _, Bk.new w1 _ _, hS1.quiet ((G.refl _ _).alloc _), hR1.alloc _, hG01.alloc _⟩
  have n1 : w.heap.size ≠ w1.heap.size := by omega
  have n2 : ∀ g, v.ownBlock = some g → g ≠ w1.heap.size := fun g e => by have := hvs g e; omega
  have n3 : b ≠ w1.heap.size := by omega
  have n4 : w.heap.size ≤ w1.heap.size := by omega
  clear hB1 hS1 hR1 hG01 hvs hbl hz1
  have hL := hI.1
  obtain ⟨g0, hg0⟩ : ∃ g, w.heap.size = g := ⟨_, rfl⟩
  rw [hg0] at hI n1 hL ⊢
  go_wp2_with (refine wpList_load_row rfl 218 _ rfl g0 rfl 218 (syC v) (0, 0) _ hL Tryd.underlying218 rfl (sy_info v) ?_)
  generalize w1.alloc (.cells pl0 223) = w2 at hI hL ⊢
  generalize w1.heap.size = gp at hI n1 n2 n3 n4 ⊢
  refine (stDays1_c _ b _ hI.2.2.1).mono ?_; rintro e w3 ⟨rfl, hG3⟩
  have hI := hI.quiet hG3
  clear hL
  have hL := hI.1.far (p := ⟨gp, 6, none⟩) n1 (.bool true)
  have d6 : w3.cell? ⟨gp, 6, none⟩ = some (.bool false) := hI.2.1.cell 6
  have f6 := hI.2.1.free 6
  have hI6 : QInv w b g0 gp v pl1 (w3.setCell ⟨gp, 6, none⟩ (.bool true)) := hI.set n1 n2 n3 n4 6 (.bool true)
  clear hI
  go_wp2_with (refine wpList_load_row rfl 218 _ rfl g0 rfl 218 (syC v) (0, 0) _ hL Tryd.underlying218 rfl (sy_info v) ?_)
  generalize w3.setCell ⟨gp, 6, none⟩ (.bool true) = w4 at hI6 hL ⊢
  refine (stDays1_c _ b _ hI6.2.2.1).mono ?_; rintro e w5 ⟨rfl, hG5⟩
  have hI := hI6.quiet hG5
  clear hI6 hL d6 f6
  have hL := hI.1
  go_wp2_with fail
  refine wp_loop_rounds 2 ?_
  rw [rounds_succ]
  go_wp2_with (refine wpList_load_row rfl 218 _ rfl g0 rfl 218 (syC v) (0, 0) _ hL Tryd.underlying218 rfl (sy_info v) ?_)
  refine (pieces1_c _ b _ hI.2.2.1 hI.2.2.2.1).mono ?_; rintro e w6 ⟨p, rfl, hp, hG6⟩
  have hI := hI.quiet hG6
  clear hL
  have hp' := hp
  obtain ⟨gc, cap, rfl, q1, q2, q3, q4, q5, q6⟩ := hp'
  go_wp2_with fail
  refine wp_loop_rounds 2 ?_
  rw [rounds_succ]
  have hI' := hI.quiet ((G.refl w6 none).alloc (.cells #[.int .i64 2, .int .i64 1, .int .i64 7] 155))
  have HA := Lib.hid (Bk.sub hI'.2.1 6 plE (fun j u hu => by
    match j, hu with
    | 0, hu => exact hu
    | 1, hu => exact hu
    | 2, hu => exact hu
    | 3, hu => exact hu
    | 4, hu => exact hu
    | 5, hu => exact hu
    | j + 6, hu => simp at hu))
  go_wp2_with (refine wpList_load_at rfl 223 _ rfl ⟨gp, 6, none⟩ rfl plE _ HA.out Tryd.underlying223 rfl pl_info ?_)
  have hP7 : Bk ((w6.alloc (.cells #[.int .i64 2, .int .i64 1, .int .i64 7] 155)).alloc (.cells #[.bool true, .int .i64 7, .int .i64 1, .int .i64 2, .int .i64 1, .int .i64 7] 223)) (w6.heap.size + 1) 223 plA := Bk.newAt (by simp) _ _
  have hI7 := hI'.quiet ((G.refl _ none).alloc (.cells #[.bool true, .int .i64 7, .int .i64 1, .int .i64 2, .int .i64 1, .int .i64 7] 223))
  have hgp : gp < w6.heap.size := hI.2.1.lt
  have n7 : w6.heap.size + 1 ≠ gp := by omega
  clear hI' HA hI hp q3 q4 q5 q6
  generalize ((w6.alloc (.cells #[.int .i64 2, .int .i64 1, .int .i64 7] 155)).alloc (.cells #[.bool true, .int .i64 7, .int .i64 1, .int .i64 2, .int .i64 1, .int .i64 7] 223)) = w7 at hP7 hI7 ⊢
  generalize w6.heap.size + 1 = g7 at hP7 n7 ⊢
  have hS7 : w7.cell? ⟨g7, 0, none⟩ = some (.bool true) ∧ w7.cell? ⟨g7, 1, none⟩ = some (.int .i64 7) ∧ w7.cell? ⟨g7, 2, none⟩ = some (.int .i64 1) ∧ w7.cell? ⟨g7, 3, none⟩ = some (.int .i64 2) ∧ w7.cell? ⟨g7, 4, none⟩ = some (.int .i64 1) ∧ w7.cell? ⟨g7, 5, none⟩ = some (.int .i64 7) ∧ w7.cell? ⟨gp, 0, none⟩ = some (.bool false) ∧ w7.cell? ⟨gp, 1, none⟩ = some (.int .i64 0) ∧ w7.cell? ⟨gp, 2, none⟩ = some (.int .i64 0) ∧ w7.cell? ⟨gp, 3, none⟩ = some (.int .i64 0) ∧ w7.cell? ⟨gp, 4, none⟩ = some (.int .i64 0) ∧ w7.cell? ⟨gp, 5, none⟩ = some (.int .i64 0) := ⟨hP7.cell 0, hP7.cell 1, hP7.cell 2, hP7.cell 3, hP7.cell 4, hP7.cell 5, hI7.2.1.cell 0, hI7.2.1.cell 1, hI7.2.1.cell 2, hI7.2.1.cell 3, hI7.2.1.cell 4, hI7.2.1.cell 5⟩
  go_region_held3 (fun w' => w'.cell? ⟨g7, 0, none⟩ = some (.bool true) ∧ w'.cell? ⟨g7, 1, none⟩ = some (.int .i64 7) ∧ w'.cell? ⟨g7, 2, none⟩ = some (.int .i64 1) ∧ w'.cell? ⟨g7, 3, none⟩ = some (.int .i64 2) ∧ w'.cell? ⟨g7, 4, none⟩ = some (.int .i64 1) ∧ w'.cell? ⟨g7, 5, none⟩ = some (.int .i64 7) ∧ w'.cell? ⟨gp, 0, none⟩ = some (.bool false) ∧ w'.cell? ⟨gp, 1, none⟩ = some (.int .i64 0) ∧ w'.cell? ⟨gp, 2, none⟩ = some (.int .i64 0) ∧ w'.cell? ⟨gp, 3, none⟩ = some (.int .i64 0) ∧ w'.cell? ⟨gp, 4, none⟩ = some (.int .i64 0) ∧ w'.cell? ⟨gp, 5, none⟩ = some (.int .i64 0)) (first | exact hS7 | exact hS8 | go_keep) (first | (go_at_call 172; refine (better1_c _).mono ?_; rintro e w8 ⟨rfl, hG8⟩; have hP8 := (hP7.quiet ((G.refl w7 none).drew)).quiet hG8; have hI8 := (hI7.quiet ((G.refl w7 none).drew)).quiet hG8; have hS8 : w8.cell? ⟨g7, 0, none⟩ = some (.bool true) ∧ w8.cell? ⟨g7, 1, none⟩ = some (.int .i64 7) ∧ w8.cell? ⟨g7, 2, none⟩ = some (.int .i64 1) ∧ w8.cell? ⟨g7, 3, none⟩ = some (.int .i64 2) ∧ w8.cell? ⟨g7, 4, none⟩ = some (.int .i64 1) ∧ w8.cell? ⟨g7, 5, none⟩ = some (.int .i64 7) ∧ w8.cell? ⟨gp, 0, none⟩ = some (.bool false) ∧ w8.cell? ⟨gp, 1, none⟩ = some (.int .i64 0) ∧ w8.cell? ⟨gp, 2, none⟩ = some (.int .i64 0) ∧ w8.cell? ⟨gp, 3, none⟩ = some (.int .i64 0) ∧ w8.cell? ⟨gp, 4, none⟩ = some (.int .i64 0) ∧ w8.cell? ⟨gp, 5, none⟩ = some (.int .i64 0) := ⟨hP8.cell 0, hP8.cell 1, hP8.cell 2, hP8.cell 3, hP8.cell 4, hP8.cell 5, hI8.2.1.cell 0, hI8.2.1.cell 1, hI8.2.1.cell 2, hI8.2.1.cell 3, hI8.2.1.cell 4, hI8.2.1.cell 5⟩))
  have e0 : w8.cell? ⟨gp, 0, none⟩ = some (.bool false) := hI8.2.1.cell 0
  have f0 := hI8.2.1.free 0
  have e1 : w8.cell? ⟨gp, 1, none⟩ = some (.int .i64 0) := hI8.2.1.cell 1
  have f1 := hI8.2.1.free 1
  have e2 : w8.cell? ⟨gp, 2, none⟩ = some (.int .i64 0) := hI8.2.1.cell 2
  have f2 := hI8.2.1.free 2
  have e3 : w8.cell? ⟨gp, 3, none⟩ = some (.int .i64 0) := hI8.2.1.cell 3
  have f3 := hI8.2.1.free 3
  have e4 : w8.cell? ⟨gp, 4, none⟩ = some (.int .i64 0) := hI8.2.1.cell 4
  have f4 := hI8.2.1.free 4
  have e5 : w8.cell? ⟨gp, 5, none⟩ = some (.int .i64 0) := hI8.2.1.cell 5
  have f5 := hI8.2.1.free 5
  have hJ0 := hI8.set n1 n2 n3 n4 0 (.bool true)
  have hJ1 := hJ0.set n1 n2 n3 n4 1 (.int .i64 7)
  have hJ2 := hJ1.set n1 n2 n3 n4 2 (.int .i64 1)
  have hJ3 := hJ2.set n1 n2 n3 n4 3 (.int .i64 2)
  have hJ4 := hJ3.set n1 n2 n3 n4 4 (.int .i64 1)
  have hJ5 := hJ4.set n1 n2 n3 n4 5 (.int .i64 7)
  have hset : w8.setCells gp 0 plA.toList = ((((((w8.setCell ⟨gp, 0, none⟩ (.bool true)).setCell ⟨gp, 1, none⟩ (.int .i64 7)).setCell ⟨gp, 2, none⟩ (.int .i64 1)).setCell ⟨gp, 3, none⟩ (.int .i64 2)).setCell ⟨gp, 4, none⟩ (.int .i64 1)).setCell ⟨gp, 5, none⟩ (.int .i64 7)) := rfl
  have hJ : QInv w b g0 gp v pl2 (w8.setCells gp 0 plA.toList) := by rw [hset]; exact hJ5
  have hth : w8.there gp 0 6 := fun j hj => by
    match j, hj with
    | 0, _ => exact ⟨by rw [e0]; rfl, f0⟩
    | 1, _ => exact ⟨by rw [e1]; rfl, f1⟩
    | 2, _ => exact ⟨by rw [e2]; rfl, f2⟩
    | 3, _ => exact ⟨by rw [e3]; rfl, f3⟩
    | 4, _ => exact ⟨by rw [e4]; rfl, f4⟩
    | 5, _ => exact ⟨by rw [e5]; rfl, f5⟩
  have HT := Lib.hid hth
  have HJ := Lib.hid hJ
  clear hJ hset hth hJ0 hJ1 hJ2 hJ3 hJ4 hJ5 hS7 hS8 hI7 hI8 n1 n2 n3 n4 hms hP7 e0 e1 e2 e3 e4 e5 f0 f1 f2 f3 f4 f5
  go_wp2_with (first | (refine wpList_load_row rfl 223 _ rfl g7 rfl 223 plA (0, 0) _ hP8 Tryd.underlying223 rfl pl_info ?_) | (refine wpList_store_mid rfl 223 _ _ rfl gp 0 plA rfl rfl HT.out pl_info (by simp [Value.oneCell']) ?_; generalize w8.setCells gp 0 plA.toList = w9 at HJ ⊢))
  rw [rounds_succ]
  go_wp2_with fail
  rw [rounds_succ]
  go_wp2_with fail
  go_ret
  exact ⟨gp, rfl, HJ.out.2.1, HJ.out.2.2.2.2⟩
end Go.Proofs.YtndeidcddlmhbaaDoor

/- The law's own 'priced': Divide at one rate and one hour. -/
namespace Go.Proofs.YtndeidcddlmhbaaDoor
open Go.RowKit

set_option maxRecDepth 100000 in
set_option maxHeartbeats 2000000 in
theorem pcEqual_c (v u : Value) (w : World) (hv : Pc w v) (hu : Pc w u) : Calls Tryd.prog 105 #[v, u] w fun e w' => e = .returned (.bool true) ∧ G w w' none := by
  have hnq : ∀ w : World, (binOp .neq 155 (.agg pcC) (.agg pcC)).run Tryd.prog w = .ok (.bool false) w := fun _ => by kernel_rfl
  obtain ⟨g, cap, rfl, q1, q2, q3, q4, q5, q6⟩ := hv
  obtain ⟨k, cap', rfl, r1, r2, r3, r4, r5, r6⟩ := hu
  go_enter Tryd.func105, Tryd.ntmps105
  go_wp2_with fail
  refine wp_loop_rounds 2 ?_
  rw [rounds_succ]
  go_wp2_with fail
  go_quiet (fail)
  have hG := (G.refl w none).drewN nq
  go_wp2_with fail
  rw [rounds_succ]
  go_wp2_with fail
  go_ret
  exact ⟨rfl, hG⟩
set_option maxRecDepth 100000 in
set_option maxHeartbeats 8000000 in
theorem divide1_c (b : Nat) (w : World) (hR : Rt w b) : Calls Tryd.prog 104 #[.slice (some ⟨b, 0, none⟩) 1 1, .string ⟨#[99]⟩, .agg #[.int .i64 0, .int .i64 60]] w fun e w' => ∃ p, e = .returned (.tuple #[p, .int .i64 0]) ∧ Pc w' p ∧ G w w' none := by
  have hT := Bk.new w 29 #[.int .i64 0, .int .i64 60]
  have hG := (G.refl w none).alloc (.cells #[.int .i64 0, .int .i64 60] 29)
  have hR0 := hR.quiet hG
  go_enter Tryd.func104, Tryd.ntmps104
  go_wp2_with fail
  refine (checkStay1_c _ b hR0).mono ?_; rintro e w1 ⟨rfl, hG1⟩
  have hT := hT.quiet hG1
  have hR1 := hR0.quiet hG1
  have hG := hG.trans hG1
  clear hG1 hR hR0
  have c0 : w1.cell? ⟨w.heap.size, 0, none⟩ = some (.int .i64 0) := hT.cell 0
  have c1 : w1.cell? ⟨w.heap.size, 1, none⟩ = some (.int .i64 60) := hT.cell 1
  go_wp2_with fail
  refine (stayOf1_c _ b hR1).mono ?_; rintro e w2 ⟨v, rfl, hS2, hG2⟩
  have hR2 := hR1.quiet hG2
  have hG := hG.trans hG2
  clear hG2 hR1 hT c0 c1
  have hS2' := hS2
  obtain ⟨gs, cap, rfl, _, _, _, _⟩ := hS2'
  have hB := Bk.new w2 218 #[.int .i64 0, .int .i64 60, .slice (some ⟨gs, 0, none⟩) 1 cap]
  have hA := (G.refl w2 none).alloc (.cells #[.int .i64 0, .int .i64 60, .slice (some ⟨gs, 0, none⟩) 1 cap] 218)
  have hS3 := hS2.quiet hA
  have hR3 := hR2.quiet hA
  have hG := hG.trans hA
  clear hS2 hR2
  go_wp2_with fail
  refine (plans1_c _ b _ hS3 hR3).mono ?_; rintro e w4 ⟨gp, rfl, hP, hG4⟩
  have hB := hB.quiet hG4
  have hS4 := hS3.quiet hG4
  have hG := hG.trans hG4
  clear hG4 hS3 hR3 hA
  have p0 : w4.cell? ⟨gp, 0, none⟩ = some (.bool true) := hP.cell 0
  have d0 : w4.cell? ⟨w2.heap.size, 0, none⟩ = some (.int .i64 0) := hB.cell 0
  have d1 : w4.cell? ⟨w2.heap.size, 1, none⟩ = some (.int .i64 60) := hB.cell 1
  have d2 : w4.cell? ⟨w2.heap.size, 2, none⟩ = some (.slice (some ⟨gs, 0, none⟩) 1 cap) := hB.cell 2
  go_wp2_with fail
  refine wp_loop_rounds 2 ?_
  rw [rounds_succ]
  go_wp2_with fail
  refine (stDays1_c _ b _ hS4).mono ?_; rintro e w5 ⟨rfl, hG5⟩
  have hB := hB.quiet hG5
  have hS5 := hS4.quiet hG5
  have hP := hP.quiet hG5
  have hG := hG.trans hG5
  clear hG5 hS4 p0 d0 d1 d2
  have p3 : w5.cell? ⟨gp, 3, none⟩ = some (.int .i64 2) := hP.cell 3
  have p4 : w5.cell? ⟨gp, 4, none⟩ = some (.int .i64 1) := hP.cell 4
  have p5 : w5.cell? ⟨gp, 5, none⟩ = some (.int .i64 7) := hP.cell 5
  have hPl := hP.lt
  go_wp2_with (at_builtin; refine wpList_plain rfl fun K' hK' => wp_append_pc _ _ rfl rfl w5.heap.size rfl (Bk.newAt rfl _ _) fun p w7 hpc hvne hG7 => ?_; refine hK' _ _ ?_; clear hK'; have hP7 := (hP.alloc _).quiet hG7; have hB7 := (hB.alloc _).quiet hG7; have hS7 := (hS5.quiet ((G.refl _ none).alloc _)).quiet hG7; have hG07 := (hG.alloc _).trans hG7; have p4' : w7.cell? ⟨gp, 4, none⟩ = some (.int .i64 1) := hP7.cell 4)
  rw [rounds_succ]
  have d0 : w7.cell? ⟨w2.heap.size, 0, none⟩ = some (.int .i64 0) := hB7.cell 0
  have d1 : w7.cell? ⟨w2.heap.size, 1, none⟩ = some (.int .i64 60) := hB7.cell 1
  have d2 : w7.cell? ⟨w2.heap.size, 2, none⟩ = some (.slice (some ⟨gs, 0, none⟩) 1 cap) := hB7.cell 2
  go_wp2_with fail
  refine (stDays1_c _ b _ hS7).mono ?_; rintro e w8 ⟨rfl, hG8⟩
  go_wp2_with fail
  go_ret2
  exact ⟨p, rfl, hpc.quiet hG8, hG07.trans hG8⟩
set_option maxRecDepth 100000 in
set_option maxHeartbeats 4000000 in
theorem priced_c (w : World) : Calls Tryd.prog 50 #[] w fun e w' => e = .returned (.bool true) ∧ G w w' none := by
  have hR := Bk.new w 79 rtC
  go_enter Tryd.func50, Tryd.ntmps50
  go_wp2_with fail
  refine (divide1_c w.heap.size _ hR).mono ?_; rintro e w1 ⟨p, rfl, hp, hG1⟩
  have hG := ((G.refl w none).alloc (.cells rtC 79)).trans hG1
  clear hG1 hR
  have hA := (G.refl w1 none).alloc (.cells #[.int .i64 2, .int .i64 1, .int .i64 7] 155)
  have hp1 := hp.quiet hA
  have hn := Bk.new w1 155 #[.int .i64 2, .int .i64 1, .int .i64 7]
  have hp2 : Pc (w1.alloc (.cells #[.int .i64 2, .int .i64 1, .int .i64 7] 155)) (.slice (some ⟨w1.heap.size, 0, none⟩) 1 1) := ⟨_, 1, rfl, by omega, by decide, hn.lt, hn.cell 0, hn.cell 1, hn.cell 2⟩
  go_wp2_with fail
  refine (pcEqual_c _ _ _ hp1 hp2).mono ?_; rintro e w2 ⟨rfl, hG2⟩
  go_wp2_with fail
  go_ret
  exact ⟨rfl, (hG.trans hA).trans hG2⟩
end Go.Proofs.YtndeidcddlmhbaaDoor

/- Fees: CheckFees, its reference. -/
namespace Go.Proofs.YtndeidcddlmhbaaDoor
open Go.RowKit

/-- A fee: from, to, cents. -/
abbrev Fe := ByteArray × ByteArray × Int
def feC (x : Fe) : Array Value := #[.string x.1, .string x.2.1, .int .i64 x.2.2]
theorem feC_sz (x : Fe) : (feC x).size = 3 := rfl
def FeOk (l : List Fe) : Prop := ∀ x ∈ l, Small x.1 ∧ Small x.2.1 ∧ bnd x.2.2
/-- The first that is not 0. -/
def orI (x y : Int) : Int := if x = 0 then y else x
def cmpF (x y : Fe) : Int := orI (cmpI x.1 y.1) (cmpI x.2.1 y.2.1)
set_option maxRecDepth 100000 in
set_option maxHeartbeats 1000000 in
theorem or2_c (x y : Int) (g : Nat) (w : World) (hB : Bk w g 3 #[.int .i64 x, .int .i64 y]) :
    Calls Tryd.prog 140 #[.slice (some ⟨g, 0, none⟩) 2 2] w fun e w' => e = .returned (.int .i64 (orI x y)) ∧ w = w' := by
  have hc0 := hB.cell 0
  have hc1 := hB.cell 1
  rw [show (#[Value.int .i64 x, .int .i64 y] : Array Value)[0]? = some (.int .i64 x) from rfl] at hc0
  rw [show (#[Value.int .i64 x, .int .i64 y] : Array Value)[1]? = some (.int .i64 y) from rfl] at hc1
  clear hB
  by_cases hx : x = 0
  · rw [orI, if_pos hx]
    subst hx
    by_cases hy : y = 0
    · subst hy
      go_enter Tryd.func140, Tryd.ntmps140
      go_wp2_with fail
      refine wp_loop_rounds 3 ?_
      rw [rounds_succ]
      go_wp2_with fail
      rw [rounds_succ]
      go_wp2_with fail
      rw [rounds_succ]
      go_wp2_with fail
      go_ret
      exact ⟨rfl, rfl⟩
    · have hy' : (y != 0) = true := by rw [bne_iff_ne]; exact hy
      clear hy
      go_enter Tryd.func140, Tryd.ntmps140
      go_wp2_with fail
      refine wp_loop_rounds 3 ?_
      rw [rounds_succ]
      go_wp2_with fail
      rw [rounds_succ]
      go_wp2_with fail
      go_ret
      exact ⟨rfl, rfl⟩
  · rw [orI, if_neg hx]
    have hx' : (x != 0) = true := by rw [bne_iff_ne]; exact hx
    clear hx
    go_enter Tryd.func140, Tryd.ntmps140
    go_wp2_with fail
    refine wp_loop_rounds 3 ?_
    rw [rounds_succ]
    go_wp2_with fail
    go_ret
    exact ⟨rfl, rfl⟩
def feAfter (b : Option Fe) (x : Fe) : Bool := match b with | none => false | some y => decide (0 ≤ cmpF y x)
def feErr : Option Fe → List Fe → Int
  | _, [] => 0
  | b, x :: r => if keyB x.1 = false then 5 else if keyB x.2.1 = false then 5 else if eqB x.1 x.2.1 = true then 14 else if feAfter b x = true then 7 else if inB x.2.2 0 1000000 = false then 1 else feErr (some x) r
def feE (l : List Fe) : Int := if 500 < l.length then 2 else feErr none l
def prevAt {α : Type} (l : List α) (k : Nat) : Option α := if k = 0 then none else l[k - 1]?
theorem prevAt_succ {α : Type} (l : List α) (k : Nat) (p : α) (h : l[k]? = some p) : prevAt l (k + 1) = some p := by
  unfold prevAt
  rw [if_neg (by omega), Nat.add_sub_cancel, h]
def FeRel (w : World) (l : List Fe) (i : Value) (wr : World) : Prop :=
  ∃ k : Nat, k ≤ l.length ∧ i = .int .i64 k ∧ feErr none l = feErr (prevAt l k) (l.drop k) ∧ G w wr none
end Go.Proofs.YtndeidcddlmhbaaDoor

/- Rates: compareRates, checkRate. -/
namespace Go.Proofs.YtndeidcddlmhbaaDoor
open Go.RowKit

/-- A rate: class, from, to, hour, day, weekend, week. -/
abbrev Ra := ByteArray × Int × Int × Int × Int × Int × Int
def raC (x : Ra) : Array Value := #[.string x.1, .int .i64 x.2.1, .int .i64 x.2.2.1, .int .i64 x.2.2.2.1, .int .i64 x.2.2.2.2.1, .int .i64 x.2.2.2.2.2.1, .int .i64 x.2.2.2.2.2.2]
theorem raC_sz (x : Ra) : (raC x).size = 7 := rfl
theorem ra_info (x : Ra) : (Tryd.prog.info? 79).map (·.size) = some (raC x).size := (by kernel_rfl : (Tryd.prog.info? 79).map (·.size) = some 7)
def raB (x : Ra) : Prop := Small x.1 ∧ bnd x.2.1 ∧ bnd x.2.2.1 ∧ bnd x.2.2.2.1 ∧ bnd x.2.2.2.2.1 ∧ bnd x.2.2.2.2.2.1 ∧ bnd x.2.2.2.2.2.2
def RaOk (l : List Ra) : Prop := ∀ x ∈ l, raB x
def cmpS (x y : Int) : Int := if x < y then -1 else if y < x then 1 else 0
def cmpR (x y : Ra) : Int := orI (cmpI x.1 y.1) (cmpS x.2.1 y.2.1)
set_option maxRecDepth 100000 in
theorem isNaN_c (x : Int) (w : World) : Calls Tryd.prog 170 #[.int .i64 x] w fun e w' => e = .returned (.bool false) ∧ w = w' := by
  go_enter Tryd.func170, Tryd.ntmps170
  go_wp2_with fail
  go_ret
  exact ⟨ret_bool (by simp), rfl⟩
set_option maxRecDepth 100000 in
theorem cmpInt_c (x y : Int) (w : World) : Calls Tryd.prog 142 #[.int .i64 x, .int .i64 y] w fun e w' => e = .returned (.int .i64 (cmpS x y)) ∧ w = w' := by
  rcases (show x < y ∨ y < x ∨ x = y by omega) with h | h | h
  · have HF : Hid (cmpS x y = -1) := Lib.hid (by simp [cmpS, h])
    go_enter Tryd.func142, Tryd.ntmps142
    go_wp2_with fail
    refine (isNaN_c _ _).mono ?_; rintro e w' ⟨rfl, rfl⟩
    go_wp2_with fail
    refine (isNaN_c _ _).mono ?_; rintro e w' ⟨rfl, rfl⟩
    go_wp2_with fail
    go_ret
    exact ⟨by rw [HF.out]; rfl, rfl⟩
  · have HF : Hid (cmpS x y = 1) := Lib.hid (by rw [cmpS, if_neg (by omega), if_pos h])
    go_enter Tryd.func142, Tryd.ntmps142
    go_wp2_with fail
    refine (isNaN_c _ _).mono ?_; rintro e w' ⟨rfl, rfl⟩
    go_wp2_with fail
    refine (isNaN_c _ _).mono ?_; rintro e w' ⟨rfl, rfl⟩
    go_wp2_with fail
    go_ret
    exact ⟨by rw [HF.out]; rfl, rfl⟩
  · have HF : Hid (cmpS x y = 0) := Lib.hid (by rw [cmpS, if_neg (by omega), if_neg (by omega)])
    go_enter Tryd.func142, Tryd.ntmps142
    go_wp2_with fail
    refine (isNaN_c _ _).mono ?_; rintro e w' ⟨rfl, rfl⟩
    go_wp2_with fail
    refine (isNaN_c _ _).mono ?_; rintro e w' ⟨rfl, rfl⟩
    go_wp2_with fail
    go_ret
    exact ⟨by rw [HF.out]; rfl, rfl⟩
set_option maxRecDepth 100000 in
set_option maxHeartbeats 2000000 in
theorem compareRates_c (x y : Ra) (w : World) :
    Calls Tryd.prog 103 #[.agg (raC x), .agg (raC y)] w fun e w' => e = .returned (.int .i64 (cmpR x y)) ∧ G w w' none := by
  have hBx := (Bk.new w 79 (raC x)).alloc (.cells (raC y) 79)
  have hBy := Bk.newAt (w := w.alloc (.cells (raC x) 79)) (b := w.heap.size + 1) (by simp) 79 (raC y)
  have hG := ((G.refl w none).alloc (.cells (raC x) 79)).alloc (.cells (raC y) 79)
  have HF : Hid (orI (cmpI x.1 y.1) (cmpS x.2.1 y.2.1) = cmpR x y) := Lib.hid rfl
  go_enter Tryd.func103, Tryd.ntmps103
  go_wp2_with fail
  generalize ((w.alloc (.cells (raC x) 79)).alloc (.cells (raC y) 79)) = w3 at hBx hBy hG ⊢
  have c1 : w3.cell? ⟨w.heap.size, 0, none⟩ = some (.string x.1) := hBx.cell 0
  have c2 : w3.cell? ⟨w.heap.size, 1, none⟩ = some (.int .i64 x.2.1) := hBx.cell 1
  have c3 : w3.cell? ⟨w.heap.size + 1, 0, none⟩ = some (.string y.1) := hBy.cell 0
  have c4 : w3.cell? ⟨w.heap.size + 1, 1, none⟩ = some (.int .i64 y.2.1) := hBy.cell 1
  have hGd := hG.drew
  clear hBx hBy hG
  go_region_held3 (fun w' => w'.cell? ⟨w.heap.size, 0, none⟩ = some (.string x.1) ∧ w'.cell? ⟨w.heap.size, 1, none⟩ = some (.int .i64 x.2.1) ∧ w'.cell? ⟨w.heap.size + 1, 0, none⟩ = some (.string y.1) ∧ w'.cell? ⟨w.heap.size + 1, 1, none⟩ = some (.int .i64 y.2.1)) (first | exact ⟨c1, c2, c3, c4⟩ | go_keep) (first | (go_at_call 141; refine (compare_c _ _ _).mono ?_; rintro e w' ⟨rfl, rfl⟩) | (go_at_call 142; refine (cmpInt_c _ _ _).mono ?_; rintro e w' ⟨rfl, rfl⟩) | (go_at_call 140; refine (or2_c _ _ _ _ ((Bk.new w3 _ _).quiet ((G.refl _ none).drew))).mono ?_; rintro e w' ⟨rfl, rfl⟩))
  go_wp2_with fail
  go_ret
  exact ⟨ret_int HF.out, hGd.alloc _⟩
def spanB (a z : Int) : Bool := decide (0 ≤ a) && (decide (a < z) && decide (z ≤ 4001))
def priceB (h d e v : Int) : Bool := inB h (-1) 1000000 && (inB d (-1) 1000000 && (inB e (-1) 1000000 && inB v (-1) 1000000))
def chE (x : Ra) : Int := if keyB x.1 = false then 5 else if spanB x.2.1 x.2.2.1 = false then 1 else if priceB x.2.2.2.1 x.2.2.2.2.1 x.2.2.2.2.2.1 x.2.2.2.2.2.2 = false then 1 else 0
set_option maxRecDepth 100000 in
set_option maxHeartbeats 4000000 in
theorem checkRate_c (x : Ra) (w : World) (hs : Small x.1) :
    Calls Tryd.prog 102 #[.agg (raC x)] w fun e w' => e = .returned (.int .i64 (chE x)) ∧ G w w' none := by
  obtain ⟨k, a, z, h, d, e4, v⟩ := x
  unfold Small at hs
  dsimp only at hs
  have HB : Hid (chE (k, a, z, h, d, e4, v) = if keyB k = false then 5 else if spanB a z = false then 1 else if priceB h d e4 v = false then 1 else 0) := Lib.hid rfl
  have hG : G w (w.alloc (.cells (raC (k, a, z, h, d, e4, v)) 79)) none := (G.refl w none).alloc _
  have hB := Bk.new w 79 (raC (k, a, z, h, d, e4, v))
  generalize chE (k, a, z, h, d, e4, v) = E at HB ⊢
  rw [show raC (k, a, z, h, d, e4, v) = #[.string k, .int .i64 a, .int .i64 z, .int .i64 h, .int .i64 d, .int .i64 e4, .int .i64 v] from rfl] at *
  clear hB
  have i0 : ∀ w : World, (Instr.index 213 (.agg #[.int .i64 h, .int .i64 d, .int .i64 e4, .int .i64 v]) (.int .i64 0)).run Tryd.prog w = .ok (.int .i64 h) w := fun _ => by kernel_rfl
  have i1 : ∀ w : World, (Instr.index 213 (.agg #[.int .i64 h, .int .i64 d, .int .i64 e4, .int .i64 v]) (.int .i64 1)).run Tryd.prog w = .ok (.int .i64 d) w := fun _ => by kernel_rfl
  have i2 : ∀ w : World, (Instr.index 213 (.agg #[.int .i64 h, .int .i64 d, .int .i64 e4, .int .i64 v]) (.int .i64 2)).run Tryd.prog w = .ok (.int .i64 e4) w := fun _ => by kernel_rfl
  have i3 : ∀ w : World, (Instr.index 213 (.agg #[.int .i64 h, .int .i64 d, .int .i64 e4, .int .i64 v]) (.int .i64 3)).run Tryd.prog w = .ok (.int .i64 v) w := fun _ => by kernel_rfl
  go_enter Tryd.func102, Tryd.ntmps102
  go_wp2_with fail
  refine (isKey_c k _ hs).mono ?_; rintro e w' ⟨rfl, rfl⟩
  cases hk : keyB k with
  | false =>
    have HF : Hid (E = 5) := Lib.hid (by rw [HB.out, if_pos hk])
    clear hk
    go_wp2_with fail
    go_ret
    exact ⟨by rw [HF.out]; rfl, hG⟩
  | true =>
    have HS : Hid (E = if spanB a z = false then 1 else if priceB h d e4 v = false then 1 else 0) := Lib.hid (by rw [HB.out, if_neg (by simp [hk])])
    clear hk HB
    rcases (show a < 0 ∨ (0 ≤ a ∧ z ≤ a) ∨ (0 ≤ a ∧ a < z ∧ 4001 < z) ∨ (0 ≤ a ∧ a < z ∧ z ≤ 4001) by omega) with h1 | ⟨h1, h2⟩ | ⟨h1, h2, h3⟩ | ⟨h1, h2, h3⟩
    · have HF : Hid (E = 1) := Lib.hid (by rw [HS.out, if_pos (by rw [spanB, decide_eq_false (by omega)]; rfl)])
      go_wp2_with fail
      go_ret
      exact ⟨by rw [HF.out]; rfl, hG⟩
    · have HF : Hid (E = 1) := Lib.hid (by rw [HS.out, if_pos (by rw [spanB, decide_eq_false (show ¬ a < z by omega)]; simp)])
      go_wp2_with fail
      go_ret
      exact ⟨by rw [HF.out]; rfl, hG⟩
    · have HF : Hid (E = 1) := Lib.hid (by rw [HS.out, if_pos (by rw [spanB, decide_eq_false (show ¬ z ≤ 4001 by omega)]; simp)])
      go_wp2_with fail
      go_ret
      exact ⟨by rw [HF.out]; rfl, hG⟩
    · have HP : Hid (E = if priceB h d e4 v = false then 1 else 0) := Lib.hid (by rw [HS.out, if_neg (by simp [spanB, h1, h2, h3])])
      clear HS
      cases p1 : inB h (-1) 1000000 with
      | false =>
        have HF : Hid (E = 1) := Lib.hid (by rw [HP.out, if_pos (by simp [priceB, p1])])
        clear HP
        go_wp2_with fail
        refine wp_loop_rounds 5 ?_
        rw [rounds_succ]
        go_wp2_with fail
        refine (within_c _ _ _ _).mono ?_; rintro e w' ⟨rfl, rfl⟩
        rw [p1]
        go_wp2_with fail
        go_ret
        exact ⟨by rw [HF.out]; rfl, hG⟩
      | true =>
        cases p2 : inB d (-1) 1000000 with
        | false =>
          have HF : Hid (E = 1) := Lib.hid (by rw [HP.out, if_pos (by simp [priceB, p2])])
          clear HP
          go_wp2_with fail
          refine wp_loop_rounds 5 ?_
          rw [rounds_succ]
          go_wp2_with fail
          refine (within_c _ _ _ _).mono ?_; rintro e w' ⟨rfl, rfl⟩
          rw [p1]
          go_wp2_with fail
          rw [rounds_succ]
          go_wp2_with fail
          refine (within_c _ _ _ _).mono ?_; rintro e w' ⟨rfl, rfl⟩
          rw [p2]
          go_wp2_with fail
          go_ret
          exact ⟨by rw [HF.out]; rfl, hG⟩
        | true =>
          cases p3 : inB e4 (-1) 1000000 with
          | false =>
            have HF : Hid (E = 1) := Lib.hid (by rw [HP.out, if_pos (by simp [priceB, p3])])
            clear HP
            go_wp2_with fail
            refine wp_loop_rounds 5 ?_
            rw [rounds_succ]
            go_wp2_with fail
            refine (within_c _ _ _ _).mono ?_; rintro e w' ⟨rfl, rfl⟩
            rw [p1]
            go_wp2_with fail
            rw [rounds_succ]
            go_wp2_with fail
            refine (within_c _ _ _ _).mono ?_; rintro e w' ⟨rfl, rfl⟩
            rw [p2]
            go_wp2_with fail
            rw [rounds_succ]
            go_wp2_with fail
            refine (within_c _ _ _ _).mono ?_; rintro e w' ⟨rfl, rfl⟩
            rw [p3]
            go_wp2_with fail
            go_ret
            exact ⟨by rw [HF.out]; rfl, hG⟩
          | true =>
            have HF : Hid (E = if inB v (-1) 1000000 = false then 1 else 0) := Lib.hid (by rw [HP.out]; simp [priceB, p1, p2, p3])
            clear HP
            go_wp2_with fail
            refine wp_loop_rounds 5 ?_
            rw [rounds_succ]
            go_wp2_with fail
            refine (within_c _ _ _ _).mono ?_; rintro e w' ⟨rfl, rfl⟩
            rw [p1]
            go_wp2_with fail
            rw [rounds_succ]
            go_wp2_with fail
            refine (within_c _ _ _ _).mono ?_; rintro e w' ⟨rfl, rfl⟩
            rw [p2]
            go_wp2_with fail
            rw [rounds_succ]
            go_wp2_with fail
            refine (within_c _ _ _ _).mono ?_; rintro e w' ⟨rfl, rfl⟩
            rw [p3]
            go_wp2_with fail
            rw [rounds_succ]
            go_wp2_with fail
            refine (within_c _ _ _ _).mono ?_; rintro e w' ⟨rfl, rfl⟩
            cases p4 : inB v (-1) 1000000 with
            | false =>
              rw [p4] at HF
              go_wp2_with fail
              go_ret
              exact ⟨by rw [HF.out]; rfl, hG⟩
            | true =>
              rw [p4] at HF
              go_wp2_with fail
              rw [rounds_succ]
              go_wp2_with fail
              go_ret
              exact ⟨by rw [HF.out]; rfl, hG⟩
end Go.Proofs.YtndeidcddlmhbaaDoor

/- Rates: CheckRates. -/
namespace Go.Proofs.YtndeidcddlmhbaaDoor
open Go.RowKit

def raAfter (b : Option Ra) (x : Ra) : Bool := match b with | none => false | some y => decide (0 ≤ cmpR y x)
def raHits (b : Option Ra) (x : Ra) : Bool := match b with | none => false | some y => eqB y.1 x.1 && decide (x.2.1 < y.2.2.1)
def raErr : Option Ra → List Ra → Int
  | _, [] => 0
  | b, x :: r => if chE x = 0 then (if raAfter b x = true then 7 else if raHits b x = true then 13 else raErr (some x) r) else chE x
def raE (l : List Ra) : Int := if 200 < l.length then 2 else raErr none l
def RaRel (w : World) (l : List Ra) (i : Value) (wr : World) : Prop :=
  ∃ k : Nat, k ≤ l.length ∧ i = .int .i64 k ∧ raErr none l = raErr (prevAt l k) (l.drop k) ∧ G w wr none
theorem raRow {W w : World} {bb bo n cap : Nat} {l : List Ra} (h : RdR W 7 raC (.slice (some ⟨bb, bo, none⟩) n cap) l) (hG : G W w none) {k : Nat} {p : Ra} (hp : l[k]? = some p) :
    ∀ j v, (raC p).toList[j]? = some v → w.cell? ((⟨bb, bo + k * 7, none⟩ : Addr).add j) = some v := fun j v hv => by
  rw [add_at]
  exact RdR.cell raC_sz h hG hp j v hv
theorem bkRow {w : World} {g : Nat} {T : TypeId} {cs : Array Value} (h : Bk w g T cs) : ∀ j v, cs.toList[j]? = some v → w.cell? ((⟨g, 0, none⟩ : Addr).add j) = some v := fun j v hv => by
  rw [add_at, Nat.zero_add, h.cell]
  simpa using hv
set_option maxRecDepth 100000 in
set_option maxHeartbeats 4000000 in
theorem checkRates_c (v : Value) (l : List Ra) (w : World) (hr : RdR w 7 raC v l) (hl : RaOk l) (hn : l.length ≤ 1000) :
    Calls Tryd.prog 47 #[v] w fun e w' => e = .returned (.int .i64 (raE l)) ∧ G w w' none := by
  have HR := Lib.hid hr
  obtain ⟨a, cap, rfl, hcap, hm⟩ := RdR.form hr
  clear hr
  by_cases h30 : 200 < l.length
  · have H := Lib.hid (show raE l = 2 by simp [raE, h30])
    go_enter Tryd.func47, Tryd.ntmps47
    go_wp2_with fail
    go_ret
    exact ⟨by rw [H.out]; rfl, G.refl _ _⟩
  · have H := Lib.hid (show raE l = raErr none l by simp [raE, h30])
    go_enter Tryd.func47, Tryd.ntmps47
    go_wp2_with fail
    go_loopw [12] (RaRel w l) (fun i _ => l.length - (intOf i).toNat)
    case atStart => exact ⟨0, by omega, rfl, rfl, G.refl _ _⟩
    case round =>
      obtain ⟨k, hkl, rfl, heq, hG⟩ := hrel
      have HE := Lib.hid heq
      clear heq
      by_cases hk : k < l.length
      · obtain ⟨p, hp⟩ : ∃ p, l[k]? = some p := ⟨_, List.getElem?_eq_getElem hk⟩
        have hdrop : l.drop k = p :: l.drop (k + 1) := by rw [List.drop_eq_getElem_cons hk, ← (List.getElem?_eq_some_iff.1 hp).2]
        have hpl := hl p (List.mem_of_getElem? hp)
        obtain ⟨bb, bo, rfl, hbb, _⟩ := RdR.elem raC_sz HR.out hG hp
        have HW := Lib.hid (raRow HR.out hG hp)
        have HP := Lib.hid hp
        have hs1 := hpl.1
        have HS : Hid (raErr (prevAt l k) (l.drop k) = if chE p = 0 then (if raAfter (prevAt l k) p = true then 7 else if raHits (prevAt l k) p = true then 13 else raErr (some p) (l.drop (k + 1))) else chE p) := Lib.hid (by rw [hdrop]; rfl)
        have HL := Lib.hid (bkRow (Bk.new wr 79 (raC p)))
        clear hdrop hp hpl
        go_wp2_with (first | (refine wpList_load_at rfl 79 _ rfl ⟨bb, bo + k * 7, none⟩ rfl #[.string p.1, .int .i64 p.2.1, .int .i64 p.2.2.1, .int .i64 p.2.2.2.1, .int .i64 p.2.2.2.2.1, .int .i64 p.2.2.2.2.2.1, .int .i64 p.2.2.2.2.2.2] _ HW.out Tryd.underlying79 rfl (ra_info p) ?_) | (refine wpList_load_at rfl 79 _ rfl ⟨wr.heap.size, 0, none⟩ rfl #[.string p.1, .int .i64 p.2.1, .int .i64 p.2.2.1, .int .i64 p.2.2.2.1, .int .i64 p.2.2.2.2.1, .int .i64 p.2.2.2.2.2.1, .int .i64 p.2.2.2.2.2.2] _ HL.out Tryd.underlying79 rfl (ra_info p) ?_))
        refine (checkRate_c p _ hs1).mono ?_; rintro e w1 ⟨rfl, hG1⟩
        have hpb := Bk.new wr 79 (raC p)
        have hpn : (wr.alloc (.cells (raC p) 79)).heap.size = wr.heap.size + 1 := by simp
        have hG01 := (hG.alloc (.cells (raC p) 79)).trans hG1
        have hB5 := hpb.quiet hG1
        have hg5 := hB5.lt
        clear hG hG1 HW HL hpb hpn
        generalize wr.heap.size = g at hB5 hg5 ⊢
        by_cases hch : chE p = 0
        · rw [hch]
          cases k with
          | zero =>
            have HF : Hid (raErr none l = raErr (prevAt l (0 + 1)) (l.drop (0 + 1))) := Lib.hid (by rw [HE.out, HS.out, if_pos hch, if_neg (by simp [raAfter, prevAt]), if_neg (by simp [raHits, prevAt]), prevAt_succ l 0 p HP.out])
            clear hch HS HE
            go_wp2_with fail
            go_roundw
            case rel => exact ⟨0 + 1, by omega, by go_num, HF.out, hG01⟩
            case measure => simp [intOf]; omega
          | succ m =>
            obtain ⟨q, hq2⟩ : ∃ q, l[m]? = some q := ⟨_, List.getElem?_eq_getElem (by omega)⟩
            have HPA : Hid (prevAt l (m + 1) = some q) := Lib.hid (prevAt_succ l m q hq2)
            have HX : Hid (raErr none l = if raAfter (some q) p = true then 7 else if raHits (some q) p = true then 13 else raErr (some p) (l.drop (m + 1 + 1))) := Lib.hid (by rw [HE.out, HS.out, if_pos hch, HPA.out])
            have hsub : IntKind.i64.wrap (((m + 1 : Nat) : Int) - 1) = (m : Int) := by rw [show ((m + 1 : Nat) : Int) - 1 = (m : Int) by omega]; rw [IntKind.wrap_i64]; omega
            have hsub2 : IntKind.i64.wrap (m : Int) = (m : Int) := by rw [IntKind.wrap_i64]; omega
            have hsub3 : IntKind.i64.wrap ((m : Int) + 1 - 1) = (m : Int) := by rw [IntKind.wrap_i64]; omega
            have hm0 : (0 : Int) ≤ (m : Int) := Int.natCast_nonneg m
            have hml : (m : Int) < (l.length : Int) := by omega
            have HW := Lib.hid (raRow HR.out hG01 hq2)
            have HL1 := Lib.hid (bkRow (hB5.alloc (.cells (raC q) 79)))
            have HL2 := Lib.hid (bkRow (Bk.new w1 79 (raC q)))
            have HB6 := Lib.hid (hB5.alloc (.cells (raC q) 79))
            have HB7 := Lib.hid (Bk.new w1 79 (raC q))
            clear hq2 hch HS HE hB5
            go_wp2_with (first | (refine wpList_load_at rfl 79 _ rfl ⟨bb, bo + m * 7, none⟩ rfl #[.string q.1, .int .i64 q.2.1, .int .i64 q.2.2.1, .int .i64 q.2.2.2.1, .int .i64 q.2.2.2.2.1, .int .i64 q.2.2.2.2.2.1, .int .i64 q.2.2.2.2.2.2] _ HW.out Tryd.underlying79 rfl (ra_info q) ?_) | (refine wpList_load_at rfl 79 _ rfl ⟨g, 0, none⟩ rfl #[.string p.1, .int .i64 p.2.1, .int .i64 p.2.2.1, .int .i64 p.2.2.2.1, .int .i64 p.2.2.2.2.1, .int .i64 p.2.2.2.2.2.1, .int .i64 p.2.2.2.2.2.2] _ HL1.out Tryd.underlying79 rfl (ra_info p) ?_) | (refine wpList_load_at rfl 79 _ rfl ⟨w1.heap.size, 0, none⟩ rfl #[.string q.1, .int .i64 q.2.1, .int .i64 q.2.2.1, .int .i64 q.2.2.2.1, .int .i64 q.2.2.2.2.1, .int .i64 q.2.2.2.2.2.1, .int .i64 q.2.2.2.2.2.2] _ HL2.out Tryd.underlying79 rfl (ra_info q) ?_))
            refine (compareRates_c q p _).mono ?_; rintro e w2 ⟨rfl, hG2⟩
            have hB8 := HB6.out.quiet hG2
            have hB9 := HB7.out.quiet hG2
            have hG02 := (hG01.alloc (.cells (raC q) 79)).trans hG2
            have c0 : w2.cell? ⟨g, 0, none⟩ = some (.string p.1) := hB8.cell 0
            have c1 : w2.cell? ⟨g, 1, none⟩ = some (.int .i64 p.2.1) := hB8.cell 1
            have d0 : w2.cell? ⟨w1.heap.size, 0, none⟩ = some (.string q.1) := hB9.cell 0
            have d2 : w2.cell? ⟨w1.heap.size, 2, none⟩ = some (.int .i64 q.2.2.1) := hB9.cell 2
            have HY : Hid (raErr none l = if 0 ≤ cmpR q p then 7 else if raHits (some q) p = true then 13 else raErr (some p) (l.drop (m + 1 + 1))) := Lib.hid (by rw [HX.out]; simp [raAfter])
            clear hG2 hB8 hB9 HX HW HL1 HL2 HB6 HB7 hG01
            generalize cmpR q p = C at HY ⊢
            rcases (show 0 ≤ C ∨ C < 0 by omega) with hC | hC
            · have HF : Hid (raE l = 7) := Lib.hid (by rw [H.out, HY.out, if_pos hC])
              go_wp2_with fail
              go_ret
              exact ⟨by rw [HF.out]; rfl, hG02⟩
            · have HZ : Hid (raErr none l = if raHits (some q) p = true then 13 else raErr (some p) (l.drop (m + 1 + 1))) := Lib.hid (by rw [HY.out, if_neg (by omega)])
              clear HY
              cases hq : eqB q.1 p.1 with
              | false =>
                have HF : Hid (raErr none l = raErr (prevAt l (m + 1 + 1)) (l.drop (m + 1 + 1))) := Lib.hid (by rw [HZ.out, if_neg (by simp [raHits, hq]), prevAt_succ l (m + 1) p HP.out])
                unfold eqB at hq
                clear HZ
                go_wp2_with fail
                go_roundw
                case rel => exact ⟨m + 1 + 1, by omega, by go_num, HF.out, hG02⟩
                case measure => simp [intOf]; omega
              | true =>
                rcases (show p.2.1 < q.2.2.1 ∨ q.2.2.1 ≤ p.2.1 by omega) with hz | hz
                · have HF : Hid (raE l = 13) := Lib.hid (by rw [H.out, HZ.out, if_pos (by simp [raHits, hq, hz])])
                  unfold eqB at hq
                  clear HZ
                  go_wp2_with fail
                  go_ret
                  exact ⟨by rw [HF.out]; rfl, hG02⟩
                · have HF : Hid (raErr none l = raErr (prevAt l (m + 1 + 1)) (l.drop (m + 1 + 1))) := Lib.hid (by rw [HZ.out, if_neg (by simp [raHits, hq, hz]), prevAt_succ l (m + 1) p HP.out])
                  unfold eqB at hq
                  clear HZ
                  go_wp2_with fail
                  go_roundw
                  case rel => exact ⟨m + 1 + 1, by omega, by go_num, HF.out, hG02⟩
                  case measure => simp [intOf]; omega
        · have HF : Hid (raE l = chE p) := Lib.hid (by rw [H.out, HE.out, HS.out, if_neg hch])
          have hch' : (chE p != 0) = true := by rw [bne_iff_ne]; exact hch
          clear hch
          go_wp2_with fail
          go_ret
          exact ⟨by rw [HF.out]; rfl, hG01⟩
      · obtain rfl : k = l.length := by omega
        have HE2 : Hid (raE l = 0) := Lib.hid (by rw [H.out, HE.out, List.drop_length]; rfl)
        go_wp2_with fail
        go_ret
        exact ⟨by rw [HE2.out]; rfl, hG⟩
end Go.Proofs.YtndeidcddlmhbaaDoor

/- Rates: seasonOn, RateOn; the reference's RateAt. -/
namespace Go.Proofs.YtndeidcddlmhbaaDoor
open Go.RowKit

/-- Two results, the first a struct that lies in memory. -/
theorem results_cell_two {P : Program} {fn : Func} {p u : Tmp} {ty : TypeId} (h : fn.results = #[.cell p ty, .tmp u]) (tmps : Array Value) (w : World) (g : Nat) (t : TypeId) (cs : Array Value) (fr : Nat × Nat) (d : TypeDesc)
    (hp : tmps.getD p undef = .pointer (some ⟨g, 0, none⟩)) (hg : w.heap[g]? = some (.cells cs t fr))
    (hu : P.underlying ty = some d) (hd : (match d with | .struct _ | .array _ _ => true | _ => false) = true) (hi : (P.info? ty).map (·.size) = some cs.size) :
    (results fn tmps).run P w = .ok (.tuple #[.agg cs, tmps.getD u undef]) w := by
  have hp' : tmps[p]?.getD undef = .pointer (some ⟨g, 0, none⟩) := by simpa using hp
  simp [results, h, hp', asAddr, run_loadVar_row w g t ty cs fr d hg hu hd hi]
theorem raC_one (r : Ra) : ∀ u ∈ (raC r).toList, u.oneCell' = true := by
  intro u hu
  simp [raC] at hu
  rcases hu with rfl | rfl | rfl | rfl | rfl | rfl | rfl <;> rfl
def raZ : Ra := (⟨#[]⟩, 0, 0, 0, 0, 0, 0)
def raF (k : ByteArray) (d : Int) (x : Ra) : Bool := eqB x.1 k && (decide (x.2.1 ≤ d) && decide (d < x.2.2.1))
/-- The pointer to the element of that number; below 0: nil. -/
def raPtr : Value → Int → Value
  | .slice (some ⟨b, o, _⟩) _ _, .ofNat i => .pointer (some ⟨b, o + i * 7, none⟩)
  | _, _ => .pointer none
def SeaRel (w : World) (l : List Ra) (k : ByteArray) (d : Int) (i : Value) (wr : World) : Prop :=
  ∃ n : Nat, n ≤ l.length ∧ i = .int .i64 n ∧ ixP (raF k d) l 0 = ixP (raF k d) (l.drop n) n ∧ w = wr
set_option maxRecDepth 100000 in
set_option maxHeartbeats 4000000 in
theorem seasonOn_c (v : Value) (l : List Ra) (k : ByteArray) (d : Int) (w : World) (hr : RdR w 7 raC v l) (hn : l.length ≤ 1000) :
    Calls Tryd.prog 101 #[v, .string k, .int .i64 d] w fun e w' => e = .returned (raPtr v (ixP (raF k d) l 0)) ∧ w = w' := by
  have HR := Lib.hid hr
  obtain ⟨a, cap, rfl, hcap, hm⟩ := RdR.form hr
  clear hr
  have HV : Hid (∀ i : Int, raPtr (.slice a l.length cap) i = raPtr (.slice a l.length cap) i) := Lib.hid fun _ => rfl
  go_enter Tryd.func101, Tryd.ntmps101
  go_wp2_with fail
  go_loopw [11] (SeaRel w l k d) (fun i _ => l.length - (intOf i).toNat)
  case atStart => exact ⟨0, by omega, rfl, rfl, rfl⟩
  case round =>
    obtain ⟨n, hnl, rfl, heq, rfl⟩ := hrel
    have HE := Lib.hid heq
    clear heq
    by_cases hlt : n < l.length
    · obtain ⟨p, hp⟩ : ∃ p, l[n]? = some p := ⟨_, List.getElem?_eq_getElem hlt⟩
      have HD : Hid (ixP (raF k d) l 0 = if raF k d p = true then (n : Int) else ixP (raF k d) (l.drop (n + 1)) (n + 1 : Nat)) := Lib.hid (by
        rw [HE.out, List.drop_eq_getElem_cons hlt, (List.getElem?_eq_some_iff.1 hp).2]; rfl)
      obtain ⟨bb, bo, rfl, hbb, _⟩ := RdR.elem raC_sz HR.out (G.refl w none) hp
      have c0 := RdR.cell raC_sz HR.out (G.refl w none) hp 0 (.string p.1) rfl
      have c1 := RdR.cell raC_sz HR.out (G.refl w none) hp 1 (.int .i64 p.2.1) rfl
      have c2 := RdR.cell raC_sz HR.out (G.refl w none) hp 2 (.int .i64 p.2.2.1) rfl
      simp only [Nat.add_zero] at c0
      have HEF : Hid (raF k d p = (eqB p.1 k && (decide (p.2.1 ≤ d) && decide (d < p.2.2.1)))) := Lib.hid rfl
      clear hp
      cases h1 : eqB p.1 k with
      | false =>
        have HF : Hid (ixP (raF k d) l 0 = ixP (raF k d) (l.drop (n + 1)) (n + 1 : Nat)) := Lib.hid (by rw [HD.out, if_neg (by simp [HEF.out, h1])])
        unfold eqB at h1
        clear HD HEF
        go_wp2_with fail
        go_roundw
        case rel => exact ⟨n + 1, by omega, by go_num, HF.out, rfl⟩
        case measure => simp [intOf]; omega
      | true =>
        have H1 := Lib.hid h1
        unfold eqB at h1
        rcases (show d < p.2.1 ∨ (p.2.1 ≤ d ∧ p.2.2.1 ≤ d) ∨ (p.2.1 ≤ d ∧ d < p.2.2.1) by omega) with h2 | ⟨h2, h3⟩ | ⟨h2, h3⟩
        · have HF : Hid (ixP (raF k d) l 0 = ixP (raF k d) (l.drop (n + 1)) (n + 1 : Nat)) := Lib.hid (by rw [HD.out, if_neg (by rw [HEF.out, decide_eq_false (show ¬ p.2.1 ≤ d by omega)]; simp)])
          clear HD HEF
          go_wp2_with fail
          go_roundw
          case rel => exact ⟨n + 1, by omega, by go_num, HF.out, rfl⟩
          case measure => simp [intOf]; omega
        · have HF : Hid (ixP (raF k d) l 0 = ixP (raF k d) (l.drop (n + 1)) (n + 1 : Nat)) := Lib.hid (by rw [HD.out, if_neg (by rw [HEF.out, decide_eq_false (show ¬ d < p.2.2.1 by omega)]; simp)])
          clear HD HEF
          go_wp2_with fail
          go_roundw
          case rel => exact ⟨n + 1, by omega, by go_num, HF.out, rfl⟩
          case measure => simp [intOf]; omega
        · have HF : Hid (ixP (raF k d) l 0 = (n : Int)) := Lib.hid (by rw [HD.out, if_pos (by rw [HEF.out, H1.out, decide_eq_true h2, decide_eq_true h3]; rfl)])
          clear HD HEF
          go_wp2_with fail
          go_ret
          exact ⟨by rw [HF.out]; rfl, rfl⟩
    · obtain rfl : n = l.length := by omega
      have HF : Hid (ixP (raF k d) l 0 = -1) := Lib.hid (by rw [HE.out, List.drop_length]; rfl)
      go_wp2_with fail
      go_ret
      exact ⟨by rw [HF.out]; cases a <;> rfl, rfl⟩
end Go.Proofs.YtndeidcddlmhbaaDoor

/- The reference's FeesFault. -/
namespace Go.Proofs.YtndeidcddlmhbaaDoor
open Go.RowKit

end Go.Proofs.YtndeidcddlmhbaaDoor

/- Fees: the search by halves. -/
namespace Go.Proofs.YtndeidcddlmhbaaDoor
open Go.RowKit

theorem cmpF_neg (x y : Fe) : cmpF y x = - cmpF x y := by
  have h1 := cmpI_neg x.1 y.1
  have h2 := cmpI_neg x.2.1 y.2.1
  unfold cmpF orI
  rw [h1, h2]
  split <;> split <;> omega
theorem cmpF_trans {x y z : Fe} (h : cmpF x y < 0) (k : cmpF y z < 0) : cmpF x z < 0 := by
  unfold cmpF orI at *
  by_cases h1 : cmpI x.1 y.1 = 0
  · rw [if_pos h1] at h
    have e1 := cmpI_eq.1 h1
    rw [e1]
    by_cases h2 : cmpI y.1 z.1 = 0
    · rw [if_pos h2] at k ⊢
      exact cmpI_trans h k
    · rw [if_neg h2] at k ⊢
      exact k
  · rw [if_neg h1] at h
    by_cases h2 : cmpI y.1 z.1 = 0
    · rw [← cmpI_eq.1 h2, if_neg h1]
      exact h
    · rw [if_neg h2] at k
      have h3 := cmpI_trans h k
      rw [if_neg (by omega)]
      exact h3
theorem cmpF_zero {x y : Fe} : cmpF x y = 0 ↔ x.1 = y.1 ∧ x.2.1 = y.2.1 := by
  unfold cmpF orI
  by_cases h1 : cmpI x.1 y.1 = 0
  · rw [if_pos h1, cmpI_eq]
    exact ⟨fun h => ⟨cmpI_eq.1 h1, h⟩, fun h => h.2⟩
  · rw [if_neg h1]
    exact ⟨fun h => absurd h h1, fun h => absurd (cmpI_eq.2 h.1) h1⟩
def RiseF (l : List Fe) : Prop := l.Pairwise (fun a b => cmpF a b < 0)
theorem fe_rise {b : Option Fe} {l : List Fe} (h : feErr b l = 0) : RiseF l ∧ (∀ y, b = some y → ∀ x ∈ l, cmpF y x < 0) ∧ ∀ x ∈ l, (0 ≤ x.2.2 ∧ x.2.2 ≤ 1000000) ∧ x.1 ≠ x.2.1 := by
  induction l generalizing b with
  | nil => exact ⟨List.Pairwise.nil, fun _ _ x hx => (by cases hx), fun x hx => (by cases hx)⟩
  | cons p r ih =>
    unfold feErr at h
    split at h
    · omega
    · split at h
      · omega
      · split at h
        · omega
        · rename_i hq
          split at h
          · omega
          · rename_i ha
            split at h
            · omega
            · rename_i hb
              obtain ⟨i1, i2, i3⟩ := ih h
              have hp := i2 p rfl
              have hin : 0 ≤ p.2.2 ∧ p.2.2 ≤ 1000000 := by
                unfold inB at hb
                simp only [Bool.and_eq_false_iff, decide_eq_false_iff_not] at hb
                omega
              have hy : ∀ y, b = some y → cmpF y p < 0 := fun y e => by
                subst e
                have : ¬ 0 ≤ cmpF y p := fun h => ha (decide_eq_true h)
                omega
              refine ⟨List.pairwise_cons.2 ⟨hp, i1⟩, fun y e x hx => ?_, fun x hx => ?_⟩
              · rcases List.mem_cons.1 hx with rfl | hx
                · exact hy y e
                · exact cmpF_trans (hy y e) (hp x hx)
              · rcases List.mem_cons.1 hx with rfl | hx
                · exact ⟨hin, fun e => hq (eqB_iff.2 e)⟩
                · exact i3 x hx
def BelowF (l : List Fe) (t : Fe) (i : Nat) : Prop := ∀ (j : Nat) (s : Fe), j < i → l[j]? = some s → cmpF s t < 0
def FromF (l : List Fe) (t : Fe) (i : Nat) : Prop := ∀ (j : Nat) (s : Fe), i ≤ j → l[j]? = some s → 0 ≤ cmpF s t
theorem RiseF.lt {l : List Fe} (h : RiseF l) {i j : Nat} {a b : Fe} (hij : i < j) (ha : l[i]? = some a) (hb : l[j]? = some b) : cmpF a b < 0 := by
  obtain ⟨h1, rfl⟩ := List.getElem?_eq_some_iff.1 ha
  obtain ⟨h2, rfl⟩ := List.getElem?_eq_some_iff.1 hb
  exact (List.pairwise_iff_getElem.1 h) i j h1 h2 hij
theorem BelowF.up {l : List Fe} {t s : Fe} {i : Nat} (hr : RiseF l) (hs : l[i]? = some s) (h : cmpF s t < 0) : BelowF l t (i + 1) := fun j u hj hu => by
  rcases Nat.lt_or_ge j i with hji | hji
  · exact cmpF_trans (hr.lt hji hu hs) h
  · obtain rfl : j = i := by omega
    rw [hs] at hu
    obtain rfl := Option.some.inj hu
    exact h
theorem FromF.down {l : List Fe} {t s : Fe} {i : Nat} (hr : RiseF l) (hs : l[i]? = some s) (h : 0 ≤ cmpF s t) : FromF l t i := fun j u hj hu => by
  rcases Nat.lt_or_ge i j with hji | hji
  · have h1 := hr.lt hji hs hu
    rcases Int.lt_or_le (cmpF u t) 0 with h2 | h2
    · have := cmpF_trans h1 h2; omega
    · exact h2
  · obtain rfl : j = i := by omega
    rw [hs] at hu
    obtain rfl := Option.some.inj hu
    exact h
def feF (a b : ByteArray) (x : Fe) : Bool := eqB x.1 a && eqB x.2.1 b
theorem feF_iff {a b : ByteArray} {x : Fe} {c : Int} : feF a b x = true ↔ cmpF x (a, b, c) = 0 := by
  unfold feF
  rw [Bool.and_eq_true, eqB_iff, eqB_iff, cmpF_zero]
theorem fb_found {l : List Fe} {a b : ByteArray} {c : Int} {i : Nat} (hr : RiseF l) (h1 : BelowF l (a, b, c) i) (h2 : FromF l (a, b, c) i) :
    (∀ p, l[i]? = some p → cmpF p (a, b, c) = 0 → l.find? (feF a b) = some p) ∧ (∀ p, l[i]? = some p → cmpF p (a, b, c) ≠ 0 → l.find? (feF a b) = none) ∧ (l[i]? = none → l.find? (feF a b) = none) := by
  refine ⟨fun p hp h0 => ?_, fun p hp h0 => ?_, fun hp => ?_⟩
  · obtain ⟨hi, e⟩ := List.getElem?_eq_some_iff.1 hp
    refine List.find?_eq_some_iff_getElem.2 ⟨feF_iff.2 h0, i, hi, e, fun j hj => ?_⟩
    have h3 := h1 j l[j] hj (List.getElem?_eq_getElem (by omega))
    rw [Bool.not_eq_true']
    cases hb : feF a b l[j] with
    | false => rfl
    | true => have := (feF_iff (c := c)).1 hb; omega
  · refine List.find?_eq_none.2 fun x hx hxf => ?_
    obtain ⟨j, hj, rfl⟩ := List.getElem_of_mem hx
    have hg := List.getElem?_eq_getElem hj
    have h0' := (feF_iff (c := c)).1 hxf
    rcases Nat.lt_or_ge j i with hji | hji
    · have := h1 j _ hji hg; omega
    · rcases Nat.lt_or_ge i j with hij | hij
      · have h3 := h2 i p (Nat.le_refl _) hp
        have h4 := hr.lt hij hp hg
        have h5 := cmpF_neg l[j] (a, b, c)
        have h6 := cmpF_neg p (a, b, c)
        have h7 : cmpF (a, b, c) p < 0 := by omega
        have h8 := cmpF_trans h7 h4
        omega
      · obtain rfl : j = i := by omega
        rw [hg] at hp
        obtain rfl := Option.some.inj hp
        exact h0 h0'
  · refine List.find?_eq_none.2 fun x hx hxf => ?_
    obtain ⟨j, hj, rfl⟩ := List.getElem_of_mem hx
    have hg := List.getElem?_eq_getElem hj
    have h0' := (feF_iff (c := c)).1 hxf
    have hil : l.length ≤ i := List.getElem?_eq_none_iff.1 hp
    have := h1 j _ (by omega) hg
    omega
def BfPost (l : List Fe) (a b : ByteArray) (w : World) (e : Ending) (w' : World) : Prop := ∃ i : Nat, e = .returned (.tuple #[.int .i64 i, .bool (l.find? (feF a b)).isSome]) ∧ (∀ q, l.find? (feF a b) = some q → l[i]? = some q) ∧ G w w' none
end Go.Proofs.YtndeidcddlmhbaaDoor

/- Fees: FeeOf, its reference; keyFault. -/
namespace Go.Proofs.YtndeidcddlmhbaaDoor
open Go.RowKit

def keyE (s : ByteArray) : Int := if keyB s = true then 0 else 5
set_option maxRecDepth 100000 in
theorem keyFault_c (s : ByteArray) (w : World) (hs : Small s) : Calls Tryd.prog 40 #[.string s] w fun e w' => e = .returned (.int .i64 (keyE s)) ∧ G w w' none := by
  unfold Small at hs
  cases hk : keyB s with
  | true =>
    have HE : Hid (keyE s = 0) := Lib.hid (by rw [keyE, if_pos hk])
    have HK := Lib.hid hk
    clear hk
    go_enter Tryd.func40, Tryd.ntmps40
    go_wp2_with fail
    refine (rkey_c s _ hs).mono ?_; rintro e w1 ⟨rfl, hG1⟩
    rw [HK.out]
    go_wp2_with fail
    refine (when_c _ _ _).mono ?_; rintro e w' ⟨rfl, rfl⟩
    simp only [Bool.not_true, Bool.false_eq_true, if_false]
    go_wp2_with fail
    go_ret
    exact ⟨by rw [HE.out]; rfl, hG1⟩
  | false =>
    have HE : Hid (keyE s = 5) := Lib.hid (by rw [keyE, if_neg (by simp [hk])])
    have HK := Lib.hid hk
    clear hk
    go_enter Tryd.func40, Tryd.ntmps40
    go_wp2_with fail
    refine (rkey_c s _ hs).mono ?_; rintro e w1 ⟨rfl, hG1⟩
    rw [HK.out]
    go_wp2_with fail
    refine (when_c _ _ _).mono ?_; rintro e w' ⟨rfl, rfl⟩
    simp only [Bool.not_false, if_true]
    go_wp2_with fail
    go_ret
    exact ⟨by rw [HE.out]; rfl, hG1⟩
def foE (l : List Fe) (a b : ByteArray) : Int :=
  if feE l = 0 then (if keyB a = false then 5 else if keyB b = false then 5 else if eqB a b = true then 0 else if (l.find? (feF a b)).isSome = true then 0 else 8) else feE l
def foN (l : List Fe) (a b : ByteArray) : Int := if foE l a b = 0 then (match l.find? (feF a b) with | some x => x.2.2 | none => 0) else 0
theorem feE_zero {l : List Fe} (h : feE l = 0) : feErr none l = 0 ∧ l.length ≤ 500 := by
  unfold feE at h
  split at h
  · omega
  · exact ⟨h, by omega⟩
/-- No fee from a station to itself. -/
theorem fe_loop {l : List Fe} {a b : ByteArray} (h0 : feE l = 0) (h : eqB a b = true) : l.find? (feF a b) = none := by
  refine List.find?_eq_none.2 fun x hx hxf => ?_
  unfold feF at hxf
  rw [Bool.and_eq_true, eqB_iff, eqB_iff] at hxf
  exact ((fe_rise (feE_zero h0).1).2.2 x hx).2 (by rw [hxf.1, hxf.2]; exact eqB_iff.1 h)
/-! ### The reference's FeeFrom -/
def ffF (l : List Fe) (a b : ByteArray) : Int × Bool := match l.find? (feF a b) with | some x => (x.2.2, true) | none => (0, eqB a b)
def FfRel (w : World) (l : List Fe) (a b : ByteArray) (i : Value) (wr : World) : Prop :=
  ∃ n : Nat, n ≤ l.length ∧ i = .int .i64 n ∧ l.find? (feF a b) = (l.drop n).find? (feF a b) ∧ G w wr none
end Go.Proofs.YtndeidcddlmhbaaDoor

/- Extras: ExtraCost, and its reference. -/
namespace Go.Proofs.YtndeidcddlmhbaaDoor
open Go.RowKit

def exF (k : ByteArray) (x : Ext) : Bool := eqB x.1 k
def exAt (l : List Ext) (k : ByteArray) : Int := ixP (exF k) l 0
def IxeRel (w : World) (l : List Ext) (t : ByteArray) (i : Value) (wr : World) : Prop :=
  ∃ k : Nat, k ≤ l.length ∧ i = .int .i64 k ∧ exAt l t = ixP (exF t) (l.drop k) k ∧ G w wr none
/-- An extra within its bounds. -/
def ExIn (x : Ext) : Prop := (0 ≤ x.2.1 ∧ x.2.1 ≤ 1000000) ∧ (0 ≤ x.2.2.1 ∧ x.2.2.1 ≤ 1000000) ∧ (-1 ≤ x.2.2.2 ∧ x.2.2.2 ≤ 1000000)
theorem exErr_in {b : ByteArray} {l : List Ext} (h : exErr b l = 0) : ∀ x ∈ l, ExIn x := by
  induction l generalizing b with
  | nil => intro x hx; cases hx
  | cons y r ih =>
    intro x hx
    unfold exErr at h
    split at h
    · omega
    · split at h
      · omega
      · split at h
        · omega
        · rename_i hb
          rcases List.mem_cons.1 hx with rfl | hx
          · unfold exBad inB at hb
            simp only [Bool.or_eq_true, Bool.not_eq_true', Bool.and_eq_false_iff, decide_eq_false_iff_not, not_or, Bool.not_eq_true, not_and] at hb
            unfold ExIn
            omega
          · exact ih h x hx
theorem exE_zero {l : List Ext} (h : exE l = 0) : exErr ⟨#[]⟩ l = 0 ∧ l.length ≤ 30 := by
  unfold exE at h
  split at h
  · omega
  · exact ⟨h, by omega⟩
def costF (x : Ext) (d : Int) : Int := x.2.1 + (if x.2.2.2 = -1 then x.2.2.1 * d else min (x.2.2.1 * d) x.2.2.2)
theorem mul_in {y d : Int} (h1 : 0 ≤ y) (h2 : y ≤ 1000000) (h3 : 0 ≤ d) (h4 : d ≤ 1000) : 0 ≤ y * d ∧ y * d ≤ 1000000000 := by
  refine ⟨Int.mul_nonneg h1 h3, ?_⟩
  have h5 : y * d ≤ 1000000 * d := Int.mul_le_mul_of_nonneg_right h2 h3
  omega
end Go.Proofs.YtndeidcddlmhbaaDoor

/- Extras: ExtraCost, ExtraOf. -/
namespace Go.Proofs.YtndeidcddlmhbaaDoor
open Go.RowKit

def ecE (l : List Ext) (k : ByteArray) (d : Int) : Int := if exE l = 0 then (if (l.find? (exF k)).isSome = true then (if inB d 1 120 = true then 0 else 1) else 8) else exE l
def ecN (l : List Ext) (k : ByteArray) (d : Int) : Int := if ecE l k d = 0 then (match l.find? (exF k) with | some x => costF x d | none => 0) else 0
theorem exAt_find (l : List Ext) (k : ByteArray) : (exAt l k = -1 ∧ l.find? (exF k) = none) ∨ ∃ (i : Nat) (p : Ext), exAt l k = (i : Int) ∧ l[i]? = some p ∧ l.find? (exF k) = some p := by
  rcases ixP_find (exF k) l 0 with h | ⟨i, p, h1, h2, h3⟩
  · exact .inl h
  · rw [Nat.zero_add] at h1
    exact .inr ⟨i, p, h1, h2, h3⟩
/-! ### The reference's ExtraOf -/
def accN (day most : Int) : Nat → Int
  | 0 => 0
  | n + 1 => if 0 ≤ most then min (accN day most n + day) most else accN day most n + day
theorem accN_in {day most : Int} (h1 : 0 ≤ day) (h2 : day ≤ 1000000) (h3 : -1 ≤ most) (n : Nat) : 0 ≤ accN day most n ∧ accN day most n ≤ 1000000 * n := by
  induction n with
  | zero => exact ⟨Int.le_refl _, by simp [accN]⟩
  | succ n ih =>
    unfold accN
    split <;> omega
theorem accN_eq {day most : Int} (h1 : 0 ≤ day) (n : Nat) : accN day most n = if 0 ≤ most then min (day * n) most else day * n := by
  induction n with
  | zero => simp [accN]; intro h; omega
  | succ n ih =>
    have e : day * ((n + 1 : Nat) : Int) = day * n + day := by rw [Int.natCast_succ, Int.mul_add, Int.mul_one]
    have e0 : 0 ≤ day * (n : Int) := Int.mul_nonneg h1 (Int.natCast_nonneg n)
    rw [e]
    unfold accN
    rw [ih]
    generalize day * (n : Int) = z at e0
    split <;> omega
def eoF (l : List Ext) (k : ByteArray) (d : Nat) : Int × Bool := match l.find? (exF k) with | some x => (x.2.1 + accN x.2.2.1 x.2.2.2 d, true) | none => (0, false)
def EoRel (w : World) (l : List Ext) (k : ByteArray) (i : Value) (wr : World) : Prop :=
  ∃ n : Nat, n ≤ l.length ∧ i = .int .i64 n ∧ l.find? (exF k) = (l.drop n).find? (exF k) ∧ G w wr none
def AccRel (day most : Int) (d : Nat) (s10 s22 : Value) : Prop := ∃ j : Nat, j ≤ d ∧ s22 = .int .i64 j ∧ s10 = .int .i64 (accN day most j)
/-- The two agree. -/
theorem eo_cost {l : List Ext} {k : ByteArray} {x : Ext} {d : Int} (h0 : exE l = 0) (hx : l.find? (exF k) = some x) (h1 : 1 ≤ d) : (eoF l k d.toNat).1 = costF x d := by
  obtain ⟨n, rfl⟩ := Int.eq_ofNat_of_zero_le (show 0 ≤ d by omega)
  obtain ⟨_, ⟨b1, _⟩, c1, _⟩ := exErr_in (exE_zero h0).1 x (List.mem_of_find?_eq_some hx)
  rw [eoF, hx, costF]
  show x.2.1 + accN x.2.2.1 x.2.2.2 n = _
  rw [accN_eq b1]
  congr 1
  by_cases h : x.2.2.2 = -1
  · rw [if_pos h, if_neg (by omega)]
  · rw [if_neg h, if_pos (by omega)]
end Go.Proofs.YtndeidcddlmhbaaDoor

/- What was picked; a block as a row; 'when' at literals. -/
namespace Go.Proofs.YtndeidcddlmhbaaDoor
open Go.RowKit

theorem small_of {s : ByteArray} (h : s.size ≤ 100) : Small s := by unfold Small; omega
theorem bnd_pick {zs : List Int} {r : Int} (h : r ∈ zs) (hz : zs.all (fun z => decide (-1099511627776 ≤ z ∧ z ≤ 1099511627776)) = true) : bnd r := by
  unfold bnd
  exact of_decide_eq_true (List.all_eq_true.1 hz r h)
theorem small_pick {zs : List ByteArray} {r : ByteArray} (h : r ∈ zs) (hz : zs.all (fun z => decide (z.size ≤ 100)) = true) : Small r := small_of (of_decide_eq_true (List.all_eq_true.1 hz r h))
theorem Bk.rd {w : World} {g : Nat} {T : TypeId} {cs : Array Value} (h : Bk w g T cs) (z n : Nat) (hc : cs.size = n * z) (hn : n ≤ 1000) : Rd w z (.slice (some ⟨g, 0, none⟩) n n) n cs.toList := by
  refine ⟨_, n, rfl, Nat.le_refl _, by unfold maxLen; omega, by simpa using hc, (fun e => by cases e), fun b hb => ?_⟩
  obtain rfl := Option.some.inj hb
  refine ⟨rfl, h.lt, fun j u hj => ?_⟩
  rw [Nat.zero_add, h.cell]
  simpa using hj
theorem when_t (n : Int) (w : World) : Calls Tryd.prog 20 #[.bool true, .int .i64 n] w fun e w' => e = .returned (.int .i64 n) ∧ w = w' := by simpa using when_c true n w
theorem when_f (n : Int) (w : World) : Calls Tryd.prog 20 #[.bool false, .int .i64 n] w fun e w' => e = .returned (.int .i64 0) ∧ w = w' := by simpa using when_c false n w
end Go.Proofs.YtndeidcddlmhbaaDoor

/- Generators: Extras, Fees. -/
namespace Go.Proofs.YtndeidcddlmhbaaDoor
open Go.RowKit

def ex2 (x y : Ext) : Array Value := #[.string x.1, .int .i64 x.2.1, .int .i64 x.2.2.1, .int .i64 x.2.2.2, .string y.1, .int .i64 y.2.1, .int .i64 y.2.2.1, .int .i64 y.2.2.2]
theorem ex2_set (x y z : Ext) : ((((ex2 x y).setIfInBounds 4 (.string z.1)).setIfInBounds 5 (.int .i64 z.2.1)).setIfInBounds 6 (.int .i64 z.2.2.1)).setIfInBounds 7 (.int .i64 z.2.2.2) = ex2 x z := rfl
def ExtrasPost (s K : Nat) (w : World) (e : Ending) (w' : World) : Prop :=
  ∃ (v : Value) (l : List Ext), e = .returned v ∧ RdR w' 4 exC v l ∧ ExOk l ∧ l.length ≤ 2 ∧ (∀ r, v.ownBlock = some r → w.heap.size ≤ r) ∧ SB w' s (K + 13) ∧ G w w' (some s)
end Go.Proofs.YtndeidcddlmhbaaDoor

/- Generator: right rates. -/
namespace Go.Proofs.YtndeidcddlmhbaaDoor
open Go.RowKit

/-- A row of rates that the call owns. -/
abbrev OwnRa (w : World) (base : Nat) (v : Value) (l : List Ra) : Prop := w.ownsRow base 79 7 v l.length (rowL raC l)
theorem ra_row : (Tryd.prog.info? 79).map (fun i => (i.zero, i.size, i.bytes)) = some (some (.agg (raC raZ)), 7, 64) := by kernel_rfl
theorem wp_append_ra {w : World} {o : Oper} {a : Act} {K : Act → World → Prop} {Q : Exit → Act → World → Prop} (s x : Operand)
    (ho : o.op = .call { callee := .builtin .append, args := #[s, x], argTypes := #[75, 75] }) (base : Nat) (v : Value) (l : List Ra) (hs : a.eval s = v) (hown : OwnRa w base v l)
    (g : Nat) (r : Ra) (hx : a.eval x = .slice (some ⟨g, 0, none⟩) 1 1) (hb : Bk w g 79 (raC r)) (hl : l.length ≤ 1000) (hbase : base ≤ w.heap.size)
    (hK : ∀ v' w', OwnRa w' base v' (l ++ [r]) → w.grownBy w' v.ownBlock → K (a.put o.dst v') w') : o.wp Tryd.prog a w K Q := by
  obtain ⟨i0, hi, hz0, hz1, hz2⟩ := info_parts ra_row
  refine wp_append_own w s x 75 ho base 79 i0 _ 7 64 Tryd.underlying75 hi hz0 hz1 hz2 rfl (by decide) v l.length (rowL raC l) hs hown ⟨g, 0, none⟩ 1 1 (raC r).toList hx rfl hb.at_ (raC_one r) (by unfold maxLen; omega) (by omega) hbase ?_
  intro v' w' h1 h2 _
  refine hK v' w' ?_ h2
  unfold OwnRa
  rw [List.length_append, rowL_snoc]
  exact h1
theorem OwnRa.alloc {w : World} {base : Nat} {v : Value} {l : List Ra} (h : OwnRa w base v l) (o : Obj) : OwnRa (w.alloc o) base v l := World.ownsRow.alloc h o
theorem OwnRa.kept {w w' : World} {base : Nat} {v : Value} {l : List Ra} {s : Nat} (h : OwnRa w base v l) (hg : G w w' (some s)) (hs : s < base) : OwnRa w' base v l := by
  refine World.ownsRow.kept h hg (.inr fun e => ?_)
  have := (World.ownsRow.lt h s e).1
  omega
theorem RaOk.snoc {l : List Ra} {r : Ra} (h : RaOk l) (hr : raB r) : RaOk (l ++ [r]) := fun p hp => by
  rcases List.mem_append.1 hp with hp | hp
  · exact h p hp
  · obtain rfl := List.mem_singleton.1 hp
    exact hr
theorem min2r (x y : Int) (w : World) : (Builtin.min_ #[3, 3] 3 #[.int .i64 x, .int .i64 y]).run Tryd.prog w = .ok (.int .i64 (min x y)) w := by
  have e : (if y < x then y else x) = min x y := by
    rw [Int.min_def]
    split <;> split <;> omega
  simp [Builtin.min_, Builtin.min2, e]
theorem OwnRa.grown {w w' : World} {base : Nat} {v : Value} {l : List Ra} {o : Option Nat} (h : OwnRa w base v l) (hg : G w w' o) (ho : v.ownBlock = none ∨ v.ownBlock ≠ o) : OwnRa w' base v l := World.ownsRow.kept h hg ho
theorem OwnRa.ne {w : World} {base : Nat} {v : Value} {l : List Ra} (h : OwnRa w base v l) {r : Nat} (hr : r < base ∨ w.heap.size ≤ r) : some r ≠ v.ownBlock := fun e => by
  have := World.ownsRow.lt h r e.symm
  omega
def clsC : Array Value := #[.string ⟨#[109, 97, 120, 105]⟩, .string ⟨#[109, 105, 100, 105]⟩, .string ⟨#[109, 105, 110, 105]⟩]
theorem cls_at (k : Nat) (hk : k < 3) : ∃ a : ByteArray, Small a ∧ clsC[k]? = some (.string a) := by
  match k, hk with
  | 0, _ => exact ⟨_, small_of (s := ⟨#[109, 97, 120, 105]⟩) (by decide), rfl⟩
  | 1, _ => exact ⟨_, small_of (s := ⟨#[109, 105, 100, 105]⟩) (by decide), rfl⟩
  | 2, _ => exact ⟨_, small_of (s := ⟨#[109, 105, 110, 105]⟩) (by decide), rfl⟩
def RrPost (s K : Nat) (w : World) (e : Ending) (w' : World) : Prop :=
  ∃ (v : Value) (l : List Ra), e = .returned v ∧ OwnRa w' (w.heap.size + 1) v l ∧ RaOk l ∧ l.length ≤ 9 ∧ SB w' s (K + 60) ∧ G w w' (some s)
def RrRel (w : World) (s K : Nat) (s3 s10 : Value) (wr : World) : Prop :=
  ∃ (k : Nat) (l : List Ra), k ≤ 3 ∧ l.length ≤ 3 * k ∧ s10 = .int .i64 k ∧ OwnRa wr (w.heap.size + 1) s3 l ∧ RaOk l ∧ SB wr s (K + 20 * k) ∧ G w wr (some s) ∧ Bk wr w.heap.size 9 clsC
def RiRel (w : World) (s K k c : Nat) (s3 s6 s20 : Value) (wr : World) : Prop :=
  ∃ (j : Nat) (f : Int) (l : List Ra), j ≤ c ∧ l.length ≤ 3 * k + j ∧ s20 = .int .i64 j ∧ s6 = .int .i64 f ∧ 0 ≤ f ∧ f ≤ 4003 ∧ OwnRa wr (w.heap.size + 1) s3 l ∧ RaOk l ∧ SB wr s (K + 20 * k + 2 + 6 * j) ∧ G w wr (some s) ∧ Bk wr w.heap.size 9 clsC
set_option maxRecDepth 100000 in
set_option maxHeartbeats 8000000 in
theorem rightRates_c (w : World) (s : Nat) (K : Nat) (hs : SB w s K) (hk : K ≤ 900000000000) :
    Calls Tryd.prog 98 #[.pointer (some ⟨s, 0, none⟩)] w (RrPost s K w) := by
  have hslt := hs.lt
  have hsw := hs.lt
  go_enter Tryd.func98, Tryd.ntmps98
  go_wp2_with fail
  go_loopw [3, 10] (RrRel w s K) (fun _ i _ => 3 - (intOf i).toNat)
  case atStart =>
    exact ⟨0, [], by omega, by simp, rfl, World.ownsRow_nil _ _ _ _, fun p hp => (by cases hp), hs.alloc _, (G.refl _ _).alloc _, Bk.new w _ _⟩
  case round =>
    obtain ⟨k, l, hk3, hlk, rfl, hown, hl, hSB, hG, hB⟩ := hrel
    have hsz := hG.size
    have hBl := hB.lt
    have HL := Lib.hid hl
    clear hl
    by_cases hk2 : k < 3
    · obtain ⟨cls, hcls, hpa⟩ := cls_at k hk2
      have hrow : wr.cell? ⟨w.heap.size, k, none⟩ = some (.string cls) := by rw [hB.cell]; exact hpa
      clear hpa
      go_wp2_with fail
      refine (pick_c _ _ _ [0, 0, 0, 3] _ _ _ (hSB.alloc _) (by omega) (by decide) (by decide) (Rd.newAt _ rfl rfl (by decide)) (hSB.newAt _ _ _ (Nat.le_refl _))).mono ?_; rintro e w3 ⟨f, rfl, hf, hSB3, hG3⟩
      have hf0 : 0 ≤ f ∧ f ≤ 3 := by simp only [List.mem_cons, List.mem_nil_iff, or_false] at hf; omega
      obtain ⟨f0, f1⟩ := hf0
      have hB3 := (hB.alloc (.cells _ 3)).grown hG3 (fun e => by have := Option.some.inj e; omega)
      have hown3 := (OwnRa.alloc hown (.cells _ 3)).kept hG3 (by omega)
      have hG03 := (hG.alloc (.cells _ 3)).trans hG3
      clear hB hG hG3 hSB hown hf hrow
      go_wp2_with fail
      refine (pick_c _ _ _ [0, 1, 1, 2, 3] _ _ _ (hSB3.alloc _) (by omega) (by decide) (by decide) (Rd.newAt _ rfl rfl (by decide)) (hSB3.newAt _ _ _ (Nat.le_refl _))).mono ?_; rintro e w4 ⟨c, rfl, hc, hSB4, hG4⟩
      have hc0 : 0 ≤ c ∧ c ≤ 3 := by simp only [List.mem_cons, List.mem_nil_iff, or_false] at hc; omega
      obtain ⟨c0, c1⟩ := hc0
      obtain ⟨c, rfl⟩ := Int.eq_ofNat_of_zero_le c0
      have hB4 := (hB3.alloc (.cells _ 3)).grown hG4 (fun e => by have := Option.some.inj e; omega)
      have hown4 := (OwnRa.alloc hown3 (.cells _ 3)).kept hG4 (by omega)
      have hG04 := (hG03.alloc (.cells _ 3)).trans hG4
      clear hB3 hG03 hG4 hSB3 hown3 hc
      go_wp2_with fail
      go_loopw [3, 6, 20] (RiRel w s K k c) (fun _ _ i _ => c - (intOf i).toNat)
      case atStart => exact ⟨0, f, l, by omega, by omega, rfl, rfl, by omega, by omega, hown4, HL.out, hSB4.le (by omega), hG04, hB4⟩
      case round =>
        clear hsz hBl hslt hlk HL hown4 hSB4 hG04 hB4 f0 f1
        obtain ⟨j, f, l, hjc, hlk, rfl, rfl, f0, f1, hown, hl, hSB, hG, hB⟩ := hrel
        have hsz := hG.size
        have hBl := hB.lt
        have hslt := hSB.lt
        have HL := Lib.hid hl
        clear hl
        by_cases hjc2 : j < c
        · have hsb : s < w.heap.size + 1 := Nat.lt_succ_of_lt hsw
          go_wp2_with fail
          refine (pick_c _ _ _ [1, 5, 20, 4000] _ _ _ (hSB.alloc _) (by omega) (by decide) (by decide) (Rd.newAt _ rfl rfl (by decide)) (hSB.newAt _ _ _ (Nat.le_refl _))).mono ?_; rintro e w5 ⟨t, rfl, hp, hSBw5, hg⟩
          have ht0 : 1 ≤ t ∧ t ≤ 4000 := by simp only [List.mem_cons, List.mem_nil_iff, or_false] at hp; omega
          obtain ⟨t0, t1⟩ := ht0
          have hBw5 := (hB.alloc (.cells _ 3)).grown hg (fun e => by have := Option.some.inj e; omega)
          have hownw5 := (OwnRa.alloc hown (.cells _ 3)).kept hg hsb
          have hGw5 := (hG.alloc (.cells _ 3)).trans hg
          clear hB hown hG hSB hg hp
          go_wp2_with fail
          refine (pick_c _ _ _ [-1, 5, 10, 10, 0] _ _ _ (hSBw5.alloc _) (by omega) (by decide) (by decide) (Rd.newAt _ rfl rfl (by decide)) (hSBw5.newAt _ _ _ (Nat.le_refl _))).mono ?_; rintro e w6 ⟨h, rfl, hp, hSBw6, hg⟩
          have bh := Lib.hid (bnd_pick hp (by decide))
          have hBw6 := (hBw5.alloc (.cells _ 3)).grown hg (fun e => by have := Option.some.inj e; omega)
          have hownw6 := (OwnRa.alloc hownw5 (.cells _ 3)).kept hg hsb
          have hGw6 := (hGw5.alloc (.cells _ 3)).trans hg
          clear hBw5 hownw5 hGw5 hSBw5 hg hp
          go_wp2_with fail
          refine (pick_c _ _ _ [-1, 50, 50, 70, 40] _ _ _ (hSBw6.alloc _) (by omega) (by decide) (by decide) (Rd.newAt _ rfl rfl (by decide)) (hSBw6.newAt _ _ _ (Nat.le_refl _))).mono ?_; rintro e w7 ⟨d, rfl, hp, hSBw7, hg⟩
          have bd := Lib.hid (bnd_pick hp (by decide))
          have hBw7 := (hBw6.alloc (.cells _ 3)).grown hg (fun e => by have := Option.some.inj e; omega)
          have hownw7 := (OwnRa.alloc hownw6 (.cells _ 3)).kept hg hsb
          have hGw7 := (hGw6.alloc (.cells _ 3)).trans hg
          clear hBw6 hownw6 hGw6 hSBw6 hg hp
          go_wp2_with fail
          refine (pick_c _ _ _ [-1, 70, 90, 100] _ _ _ (hSBw7.alloc _) (by omega) (by decide) (by decide) (Rd.newAt _ rfl rfl (by decide)) (hSBw7.newAt _ _ _ (Nat.le_refl _))).mono ?_; rintro e w8 ⟨e4, rfl, hp, hSBw8, hg⟩
          have be4 := Lib.hid (bnd_pick hp (by decide))
          have hBw8 := (hBw7.alloc (.cells _ 3)).grown hg (fun e => by have := Option.some.inj e; omega)
          have hownw8 := (OwnRa.alloc hownw7 (.cells _ 3)).kept hg hsb
          have hGw8 := (hGw7.alloc (.cells _ 3)).trans hg
          clear hBw7 hownw7 hGw7 hSBw7 hg hp
          go_wp2_with fail
          refine (pick_c _ _ _ [-1, 200, 250, 300] _ _ _ (hSBw8.alloc _) (by omega) (by decide) (by decide) (Rd.newAt _ rfl rfl (by decide)) (hSBw8.newAt _ _ _ (Nat.le_refl _))).mono ?_; rintro e w9 ⟨v0, rfl, hp, hSBw9, hg⟩
          have bv0 := Lib.hid (bnd_pick hp (by decide))
          have hBw9 := (hBw8.alloc (.cells _ 3)).grown hg (fun e => by have := Option.some.inj e; omega)
          have hownw9 := (OwnRa.alloc hownw8 (.cells _ 3)).kept hg hsb
          have hGw9 := (hGw8.alloc (.cells _ 3)).trans hg
          clear hBw8 hownw8 hGw8 hSBw8 hg hp
          obtain ⟨M, hM⟩ : ∃ M, min (f + t) 4001 = M := ⟨_, rfl⟩
          have hmin : ∀ w : World, (Builtin.min_ #[3, 3] 3 #[.int .i64 (f + t), .int .i64 4001]).run Tryd.prog w = .ok (.int .i64 M) w := fun w => by rw [min2r, hM]
          obtain ⟨M0, M1⟩ : 0 ≤ M ∧ M ≤ 4001 := by omega
          clear hM
          have hgw : w.heap.size + 1 ≤ w9.heap.size := by have := hGw9.size; have := hBw9.lt; omega
          have hsg : s < w9.heap.size := by omega
          have hne := OwnRa.ne hownw9 (r := w9.heap.size) (.inr (Nat.le_refl _))
          have hR6 : Bk (w9.alloc (.cells #[.string cls, .int .i64 f, .int .i64 M, .int .i64 h, .int .i64 d, .int .i64 e4, .int .i64 v0] 79)) w9.heap.size 79 (raC (cls, f, M, h, d, e4, v0)) := Bk.new w9 79 (raC (cls, f, M, h, d, e4, v0))
          have hown6 : OwnRa (w9.alloc (.cells #[.string cls, .int .i64 f, .int .i64 M, .int .i64 h, .int .i64 d, .int .i64 e4, .int .i64 v0] 79)) (w.heap.size + 1) _ l := OwnRa.alloc hownw9 (.cells #[.string cls, .int .i64 f, .int .i64 M, .int .i64 h, .int .i64 d, .int .i64 e4, .int .i64 v0] 79)
          have hSB6 := hSBw9.alloc (.cells #[.string cls, .int .i64 f, .int .i64 M, .int .i64 h, .int .i64 d, .int .i64 e4, .int .i64 v0] 79)
          have hB6 := hBw9.alloc (.cells #[.string cls, .int .i64 f, .int .i64 M, .int .i64 h, .int .i64 d, .int .i64 e4, .int .i64 v0] 79)
          have hG6 := hGw9.alloc (.cells #[.string cls, .int .i64 f, .int .i64 M, .int .i64 h, .int .i64 d, .int .i64 e4, .int .i64 v0] 79)
          have hz6 : (w9.alloc (.cells #[.string cls, .int .i64 f, .int .i64 M, .int .i64 h, .int .i64 d, .int .i64 e4, .int .i64 v0] 79)).heap.size = w9.heap.size + 1 := by simp
          clear hownw9 hSBw9 hBw9 hGw9
          rcases (show M ≤ f ∨ f < M by omega) with hfm | hfm
          · go_wp2_with fail
            go_roundw
            case rel => exact ⟨k + 1, l, by omega, by omega, by go_num, hown6, HL.out, hSB6.le (by omega), hG6, hB6⟩
            case measure => simp [intOf]; omega
          · have hnm : ¬ M ≤ f := by omega
            have hRB : raB (cls, f, M, h, d, e4, v0) := ⟨hcls, (by show bnd f; unfold bnd; omega), (by show bnd M; unfold bnd; omega), bh.out, bd.out, be4.out, bv0.out⟩
            have HRB := Lib.hid hRB
            clear hRB
            go_wp2_with (first | (refine wpList_load_row rfl 79 _ rfl w9.heap.size rfl 79 #[.string cls, .int .i64 f, .int .i64 M, .int .i64 h, .int .i64 d, .int .i64 e4, .int .i64 v0] (0, 0) _ hR6 Tryd.underlying79 rfl (ra_info (cls, f, M, h, d, e4, v0)) ?_) | (at_builtin; refine wpList_plain rfl fun K' hK' => wp_append_ra _ _ rfl (w.heap.size + 1) u3 l rfl (OwnRa.alloc hown6 _) (w9.heap.size + 1) (cls, f, M, h, d, e4, v0) rfl (Bk.newAt hz6 _ _) (by omega) (by simp; omega) ?_; intro v7 w7 hown7 hgrow; refine hK' _ _ ?_))
            have hob := fun r e => (World.ownsRow.lt hown6 r e).1
            have hR7 := (hR6.alloc _).grown hgrow hne
            have hB7 := (hB6.alloc _).grown hgrow (OwnRa.ne hown6 (.inl (Nat.lt_succ_self _)))
            have hSB7 := (hSB6.alloc _).own hgrow (fun r e => Nat.lt_of_lt_of_le hsb (hob r e))
            have hG7 := (hG6.alloc _).other hgrow (fun r e => .inl (Nat.le_of_succ_le (hob r e)))
            clear hR6 hB6 hSB6 hG6 hown6 hob hne hgrow hz6 hmin
            generalize w9.heap.size = g at hR7 hgw hsg ⊢
            have c2 : w7.cell? ⟨g, 2, none⟩ = some (.int .i64 M) := hR7.cell 2
            have hSBd := hSB7.quiet ((G.refl w7 none).drew)
            have HOD := Lib.hid (World.ownsRow.drew hown7)
            have HRD := Lib.hid (hR7.quiet ((G.refl w7 none).drew))
            have HBD := Lib.hid (hB7.quiet ((G.refl w7 none).drew))
            have hGd := hG7.drew
            clear hR7 hB7 hSB7 hG7 hown7
            go_region_held3 (fun w' => w'.cell? ⟨g, 2, none⟩ = some (.int .i64 M)) (first | exact c2 | exact c28 | go_keep) (first | (go_at_call 12; refine (pick_c _ _ _ [0, 0, 0, 2] _ _ _ (hSBd.alloc _) (by omega) (by decide) (by decide) (Rd.newAt _ rfl rfl (by decide)) (hSBd.newAt _ _ _ (Nat.le_refl _))).mono ?_; rintro e w8 ⟨r, rfl, hr, hSB8, hG8⟩; have hr0 : 0 ≤ r ∧ r ≤ 2 := (by simp only [List.mem_cons, List.mem_nil_iff, or_false] at hr; omega); obtain ⟨r0, r1⟩ := hr0; have hR8 := (HRD.out.alloc _).grown hG8 (fun e => by have := Option.some.inj e; omega); have c28 : w8.cell? ⟨g, 2, none⟩ = some (.int .i64 M) := hR8.cell 2; have hown8 := OwnRa.kept (OwnRa.alloc HOD.out _) hG8 hsb; have hB8 := (HBD.out.alloc _).grown hG8 (fun e => by have := Option.some.inj e; omega); have hG08 := (hGd.alloc _).trans hG8; have hwr : IntKind.i64.wrap (M + r) = M + r := (by rw [IntKind.wrap_i64]; omega); clear hr hG8))
            go_wp2_with fail
            go_roundw
            case rel => exact ⟨j + 1, M + r, l ++ [(cls, f, M, h, d, e4, v0)], by omega, by simp; omega, by go_num, rfl, by omega, by omega, hown8, HL.out.snoc HRB.out, hSB8.le (by omega), hG08, hB8⟩
            case measure => simp [intOf]; omega
        · obtain rfl : j = c := by omega
          go_wp2_with fail
          go_roundw
          case rel => exact ⟨k + 1, l, by omega, by omega, by go_num, hown, HL.out, hSB.le (by omega), hG, hB⟩
          case measure => simp [intOf]; omega
    · obtain rfl : k = 3 := by omega
      go_wp2_with fail
      go_ret
      exact ⟨_, l, rfl, hown, HL.out, by omega, hSB, hG⟩
end Go.Proofs.YtndeidcddlmhbaaDoor

/- Generator: ClassKey. -/
namespace Go.Proofs.YtndeidcddlmhbaaDoor
open Go.RowKit

def ClassKeyPost (s K : Nat) (w : World) (e : Ending) (w' : World) : Prop := ∃ r : ByteArray, e = .returned (.string r) ∧ Small r ∧ SB w' s (K + 1) ∧ G w w' (some s)
theorem classKey_c (w : World) (s : Nat) (K : Nat) (hs : SB w s K) (hk : K ≤ 900000000000) :
    Calls Tryd.prog 33 #[.pointer (some ⟨s, 0, none⟩)] w (ClassKeyPost s K w) := by
  go_enter Tryd.func33, Tryd.ntmps33
  go_wp2_with fail
  refine (some_c _ _ _ [⟨#[109, 105, 110, 105]⟩, ⟨#[109, 105, 110, 105]⟩, ⟨#[109, 105, 100, 105]⟩, ⟨#[109, 97, 120, 105]⟩, ⟨#[98, 105, 103]⟩, ⟨#[109, 105, 110, 105]⟩, ⟨#[110, 111, 110, 101]⟩, ⟨#[]⟩, ⟨#[65]⟩] _ _ K (hs.alloc _) (by omega) (by decide) (by decide) (Rd.newAt _ rfl rfl (by decide)) (hs.newAt _ _ _ (Nat.le_refl _))).mono ?_; rintro e w1 ⟨r, rfl, hr, hSB1, hG1⟩
  have hrs := small_pick hr (by decide)
  have hG01 := ((G.refl w (some s)).alloc _).trans hG1
  clear hr
  go_wp2_with fail
  go_ret
  exact ⟨r, rfl, hrs, hSB1, hG01⟩
end Go.Proofs.YtndeidcddlmhbaaDoor

/- Generators: Rates, ClassKey. -/
namespace Go.Proofs.YtndeidcddlmhbaaDoor
open Go.RowKit

def RatesPost (s K : Nat) (w : World) (e : Ending) (w' : World) : Prop :=
  ∃ (v : Value) (l : List Ra), e = .returned v ∧ RdR w' 7 raC v l ∧ RaOk l ∧ l.length ≤ 10 ∧ (∀ r, v.ownBlock = some r → w.heap.size ≤ r) ∧ SB w' s (K + 70) ∧ G w w' (some s)
theorem RaOk.set {l : List Ra} (h : RaOk l) {r : Ra} (hr : raB r) (k : Nat) : RaOk (l.set k r) := fun p hp => by
  rcases List.mem_or_eq_of_mem_set hp with hp | rfl
  · exact h p hp
  · exact hr
theorem rates_fin {w w' : World} {s K : Nat} {v : Value} {l : List Ra} (hown : OwnRa w' (w.heap.size + 1) v l) (hl : RaOk l) (hn : l.length ≤ 10) (hSB : SB w' s (K + 70)) (hG : G w w' (some s)) : RatesPost s K w (.returned v) w' :=
  ⟨v, l, rfl, Rd.of_owns hown, hl, hn, fun r e => Nat.le_of_succ_le (World.ownsRow.lt hown r e).1, hSB, hG⟩
theorem ra_set {w : World} {base g n cap : Nat} {l : List Ra} {k : Nat} {p q : Ra} (h : w.ownsRow base 79 7 (.slice (some ⟨g, 0, none⟩) n cap) n (rowL raC l)) (hp : l[k]? = some p) (j : Nat) (u : Value) (hj : j < 7) (hq : (raC q).toList = (raC p).toList.set j u) :
    (w.setCell ⟨g, k * 7 + j, none⟩ u).ownsRow base 79 7 (.slice (some ⟨g, 0, none⟩) n cap) n (rowL raC (l.set k q)) := by
  rw [← rowL_set raC_sz l k p q hp j u hj hq]
  exact ownsRow_set h _ _
set_option maxRecDepth 100000 in
set_option maxHeartbeats 8000000 in
theorem rates_c (w : World) (s : Nat) (K : Nat) (hs : SB w s K) (hk : K ≤ 800000000000) :
    Calls Tryd.prog 43 #[.pointer (some ⟨s, 0, none⟩)] w (RatesPost s K w) := by
  have hslt := hs.lt
  have hsb : s < w.heap.size + 1 := Nat.lt_succ_of_lt hslt
  go_enter Tryd.func43, Tryd.ntmps43
  go_wp2_with fail
  refine (rightRates_c w s K hs (by omega)).mono ?_; rintro e w1 ⟨v, l, rfl, hown, hl, hln, hSB1, hG1⟩
  have HL := Lib.hid hl
  clear hl hs
  have hf := hown.2
  rcases hf with ⟨rfl, hn0⟩ | ⟨g, cap, cur, rfl, hbg, _, hnc, hmc, _, _⟩
  · clear hn0
    go_wp2_with fail
    go_ret
    exact rates_fin hown HL.out (by omega) (hSB1.le (by omega)) hG1
  · by_cases h0 : l.length = 0
    · have h0i : ¬ ((0 : Int) < (l.length : Int)) := by omega
      clear h0
      go_wp2_with fail
      go_ret
      exact rates_fin hown HL.out (by omega) (hSB1.le (by omega)) hG1
    · have h0i : ((0 : Int) < (l.length : Int)) := by omega
      have hsg : s < g := by omega
      have hgw : w.heap.size ≤ g := by omega
      clear h0
      go_wp2_with fail
      refine (flip_c _ _ _ _ hSB1 (by omega) (by omega)).mono ?_; rintro e w2 ⟨b, rfl, hSB2, hG2⟩
      have hown2 := OwnRa.kept hown hG2 hsb
      have hG02 := hG1.trans hG2
      clear hown hG1 hG2 hSB1
      cases b with
      | false =>
        go_wp2_with fail
        go_ret
        exact rates_fin hown2 HL.out (by omega) (hSB2.le (by omega)) hG02
      | true =>
        go_wp2_with fail
        refine (next_c _ _ _ _ hSB2 (by omega) (by omega)).mono ?_; rintro e w3 ⟨j, rfl, hj, hSB3, hG3⟩
        obtain ⟨j0, j1⟩ := hj
        obtain ⟨j, rfl⟩ := Int.eq_ofNat_of_zero_le j0
        have jl : j < l.length := by omega
        have jli : (j : Int) < (l.length : Int) := by omega
        clear j1
        have hown3 := OwnRa.kept hown2 hG3 hsb
        have hG03 := hG02.trans hG3
        clear hown2 hG02 hG3 hSB2
        go_wp2_with fail
        refine (next_c _ _ _ _ hSB3 (by omega) (by omega)).mono ?_; rintro e w4 ⟨t, rfl, ht, hSB4, hG4⟩
        have hown4 := OwnRa.kept hown3 hG4 hsb
        have hG04 := hG03.trans hG4
        clear hown3 hG03 hG4 hSB3
        obtain ⟨p, hp⟩ : ∃ p, l[j]? = some p := ⟨_, List.getElem?_eq_getElem jl⟩
        have HP := Lib.hid hp
        have hpb := Lib.hid (HL.out p (List.mem_of_getElem? hp))
        clear hp
        obtain ⟨t0, t1⟩ := ht
        rcases (show t = 0 ∨ t = 1 ∨ t = 2 ∨ t = 3 by omega) with rfl | rfl | rfl | rfl
        · clear t0 t1
          go_wp2_with fail
          refine (some_c _ _ _ [⟨#[]⟩, ⟨#[65]⟩, ⟨#[109, 105, 110, 105]⟩, ⟨#[122, 101, 100]⟩] _ _ _ (hSB4.alloc _) (by omega) (by decide) (by decide) (Rd.newAt _ rfl rfl (by decide)) (hSB4.newAt _ _ _ (Nat.le_refl _))).mono ?_; rintro e w5 ⟨r, rfl, hr, hSB5, hG5⟩
          have hrs := small_pick hr (by decide)
          have hown5 := OwnRa.kept (OwnRa.alloc hown4 _) hG5 hsb
          have hG05 := (hG04.alloc _).trans hG5
          clear hr hown4 hSB4 hG04 hG5
          have c0 := RdR.cell raC_sz (Rd.of_owns hown5) (G.refl _ _) HP.out 0 (.string p.1) rfl
          have f0 := ownsRow_free hown5 (j * 7 + 0)
          have hown6 := ra_set hown5 HP.out (q := (r, p.2)) 0 (.string r) (by omega) rfl
          simp only [Nat.zero_add, Nat.add_zero] at c0 f0 hown6
          go_wp2_with fail
          go_ret
          exact rates_fin (l := l.set j (r, p.2)) (by unfold OwnRa; rw [List.length_set]; exact hown6) (HL.out.set (r := (r, p.2)) ⟨hrs, hpb.out.2⟩ j) (by rw [List.length_set]; omega) ((hSB5.setCell (p := ⟨g, j * 7, none⟩) hsg _).le (by omega)) (hG05.setCell (p := ⟨g, j * 7, none⟩) (.inl hgw) _)
        · clear t0 t1
          go_wp2_with fail
          refine (odd_c _ _ _ _ _ hSB4 (by omega) (by omega) (by omega) (by omega) (by omega)).mono ?_; rintro e w5 ⟨y1, rfl, y10, y11, hSB5, hG5⟩
          have hown5 := OwnRa.kept hown4 hG5 hsb
          have hG05 := hG04.trans hG5
          clear hown4 hSB4 hG04 hG5
          go_wp2_with fail
          refine (odd_c _ _ _ _ _ hSB5 (by omega) (by omega) (by omega) (by omega) (by omega)).mono ?_; rintro e w6 ⟨y2, rfl, y20, y21, hSB6, hG6⟩
          have hown6 := OwnRa.kept hown5 hG6 hsb
          have hG06 := hG05.trans hG6
          clear hown5 hSB5 hG05 hG6
          have c1 := RdR.cell raC_sz (Rd.of_owns hown6) (G.refl _ _) HP.out 1 (.int .i64 p.2.1) rfl
          have c2 := RdR.cell raC_sz (Rd.of_owns hown6) (G.refl _ _) HP.out 2 (.int .i64 p.2.2.1) rfl
          have f1 := ownsRow_free hown6 (j * 7 + 1)
          have f2 := ownsRow_free hown6 (j * 7 + 2)
          have hown7 := ra_set hown6 HP.out (q := (p.1, y1, p.2.2)) 1 (.int .i64 y1) (by omega) rfl
          have hown8 := ra_set hown7 (show (l.set j (p.1, y1, p.2.2))[j]? = some (p.1, y1, p.2.2) by rw [List.getElem?_set_self jl]) (q := (p.1, y1, y2, p.2.2.2)) 2 (.int .i64 y2) (by omega) rfl
          rw [List.set_set] at hown8
          simp only [Nat.zero_add] at c1 c2
          clear hown7
          go_wp2_with fail
          go_ret
          exact rates_fin (l := l.set j (p.1, y1, y2, p.2.2.2)) (by unfold OwnRa; rw [List.length_set]; exact hown8) (HL.out.set (r := (p.1, y1, y2, p.2.2.2)) ⟨hpb.out.1, ⟨y10, y11⟩, ⟨y20, y21⟩, hpb.out.2.2.2⟩ j) (by rw [List.length_set]; omega) (((hSB6.setCell (p := ⟨g, j * 7 + 1, none⟩) hsg _).setCell (p := ⟨g, j * 7 + 2, none⟩) hsg _).le (by omega)) ((hG06.setCell (p := ⟨g, j * 7 + 1, none⟩) (.inl hgw) _).setCell (p := ⟨g, j * 7 + 2, none⟩) (.inl hgw) _)
        · clear t0 t1
          go_wp2_with fail
          refine (odd_c _ _ _ _ _ hSB4 (by omega) (by omega) (by omega) (by omega) (by omega)).mono ?_; rintro e w5 ⟨y1, rfl, y10, y11, hSB5, hG5⟩
          have hown5 := OwnRa.kept hown4 hG5 hsb
          have hG05 := hG04.trans hG5
          clear hown4 hSB4 hG04 hG5
          have c4 := RdR.cell raC_sz (Rd.of_owns hown5) (G.refl _ _) HP.out 4 (.int .i64 p.2.2.2.2.1) rfl
          have f4 := ownsRow_free hown5 (j * 7 + 4)
          have hown6 := ra_set hown5 HP.out (q := (p.1, p.2.1, p.2.2.1, p.2.2.2.1, y1, p.2.2.2.2.2)) 4 (.int .i64 y1) (by omega) rfl
          simp only [Nat.zero_add] at c4
          go_wp2_with fail
          go_ret
          exact rates_fin (l := l.set j (p.1, p.2.1, p.2.2.1, p.2.2.2.1, y1, p.2.2.2.2.2)) (by unfold OwnRa; rw [List.length_set]; exact hown6) (HL.out.set (r := (p.1, p.2.1, p.2.2.1, p.2.2.2.1, y1, p.2.2.2.2.2)) ⟨hpb.out.1, hpb.out.2.1, hpb.out.2.2.1, hpb.out.2.2.2.1, ⟨y10, y11⟩, hpb.out.2.2.2.2.2⟩ j) (by rw [List.length_set]; omega) ((hSB5.setCell (p := ⟨g, j * 7 + 4, none⟩) hsg _).le (by omega)) (hG05.setCell (p := ⟨g, j * 7 + 4, none⟩) (.inl hgw) _)
        · clear t0 t1
          obtain ⟨q, hq⟩ : ∃ q, l[0]? = some q := ⟨_, List.getElem?_eq_getElem (by omega)⟩
          have HRW := Lib.hid (raRow (Rd.of_owns hown4) (G.refl _ _) hq)
          have hqb := Lib.hid (HL.out q (List.mem_of_getElem? hq))
          clear hq HP hpb
          go_wp2_with (first | (refine wpList_load_at rfl 79 _ rfl ⟨g, 0 + 0 * 7, none⟩ rfl #[.string q.1, .int .i64 q.2.1, .int .i64 q.2.2.1, .int .i64 q.2.2.2.1, .int .i64 q.2.2.2.2.1, .int .i64 q.2.2.2.2.2.1, .int .i64 q.2.2.2.2.2.2] _ HRW.out Tryd.underlying79 rfl (ra_info q) ?_) | (at_builtin; refine wpList_plain rfl fun K' hK' => wp_append_ra _ _ rfl (w.heap.size + 1) _ l rfl (OwnRa.alloc hown4 _) w4.heap.size q rfl (Bk.newAt rfl _ _) (by omega) (by have := hG04.size; have := hSB4.lt; simp; omega) ?_; intro v7 w7 hown7 hgrow; refine hK' _ _ ?_))
          go_ret
          have hob : ∀ r, some r = (Value.slice (some ⟨g, 0, none⟩) l.length cap).ownBlock → r = g := fun r e => Option.some.inj e
          exact rates_fin hown7 (HL.out.snoc hqb.out) (by simp; omega) (((hSB4.alloc _).own hgrow (fun r e => by rw [hob r e.symm]; exact hsg)).le (by omega)) ((hG04.alloc _).other hgrow (fun r e => .inl (by rw [hob r e.symm]; exact hgw)))
end Go.Proofs.YtndeidcddlmhbaaDoor

/- Generator: the time of a hire. -/
namespace Go.Proofs.YtndeidcddlmhbaaDoor
open Go.RowKit

def TimePost (s K : Nat) (w : World) (e : Ending) (w' : World) : Prop :=
  ∃ a z : Int, e = .returned (.agg #[.int .i64 a, .int .i64 z]) ∧ bnd a ∧ bnd z ∧ SB w' s (K + 8) ∧ G w w' (some s)
theorem time_fin {w w3 : World} {s K : Nat} {a z : Int} (hs : s < w.heap.size) (ha : bnd a) (hz : bnd z) (hSB : SB w3 s (K + 8)) (hG : G w w3 (some s)) :
    TimePost s K w (.returned (.agg #[.int .i64 a, .int .i64 z])) (w3.setRow w.heap.size #[.int .i64 a, .int .i64 z]) :=
  ⟨a, z, rfl, ha, hz, hSB.setRow hs _, hG.setRow (.inl (Nat.le_refl _)) _⟩
set_option maxRecDepth 100000 in
set_option maxHeartbeats 2000000 in
theorem time_c (w : World) (s : Nat) (K : Nat) (hs : SB w s K) (hk : K ≤ 900000000000) :
    Calls Tryd.prog 25 #[.pointer (some ⟨s, 0, none⟩)] w (TimePost s K w) := by
  have hslt := hs.lt
  go_enter Tryd.func25, Tryd.ntmps25
  go_wp2_with fail
  refine (pick_c _ _ _ [0, 0, 700, 5040, 5700, 6480, 6500, 8000, 10079, 20000] _ _ K ((hs.alloc _).alloc _) (by omega) (by decide) (by decide) (Rd.newAt _ (by simp) rfl (by decide)) (hs.newAt _ _ _ (by omega))).mono ?_
  rintro e w2 ⟨a, rfl, ha, hSB2, hG2⟩
  have ha0 : 0 ≤ a ∧ a ≤ 20000 := by simp only [List.mem_cons, List.mem_nil_iff, or_false] at ha; omega
  obtain ⟨a0, a1⟩ := ha0
  have hz2 : w.heap.size + 2 ≤ w2.heap.size := by have := hG2.size; simp at this; omega
  have hB2 := ((Bk.new w 29 #[.int .i64 0, .int .i64 0]).alloc (.cells _ 3)).grown hG2 (by simp; omega)
  have hG02 : G w w2 (some s) := (((G.refl w (some s)).alloc _).alloc _).trans hG2
  clear hG2 ha
  go_wp2_with fail
  refine (pick_c _ _ _ [1, 59, 60, 61, 300, 1440, 1441, 1500, 2880, 4320, 5850, 7200, 8641, 10080, 11520, 14800, 21600] _ _ _ (hSB2.alloc _) (by omega) (by decide) (by decide) (Rd.newAt _ rfl rfl (by decide)) (hSB2.newAt _ _ _ (Nat.le_refl _))).mono ?_
  rintro e w3 ⟨d, rfl, hd, hSB3, hG3⟩
  have hd0 : 1 ≤ d ∧ d ≤ 21600 := by simp only [List.mem_cons, List.mem_nil_iff, or_false] at hd; omega
  obtain ⟨d0, d1⟩ := hd0
  have hz3 := hG3.size
  have hB3 := (hB2.alloc (.cells _ 3)).grown hG3 (by simp; omega)
  have hG03 := (hG02.alloc _).trans hG3
  simp at hz3
  clear hG3 hd hB2 hG02 hSB2
  obtain ⟨z, hz⟩ : ∃ z, a + d = z := ⟨_, rfl⟩
  have hzb : 1 ≤ z ∧ z ≤ 41600 := by omega
  obtain ⟨z0, z1⟩ := hzb
  have hN4 := Bk.new w3 29 #[.int .i64 a, .int .i64 z]
  have hSB4 := hSB3.alloc (.cells #[.int .i64 a, .int .i64 z] 29)
  have hB4 := hB3.alloc (.cells #[.int .i64 a, .int .i64 z] 29)
  have hG04 := hG03.alloc (.cells #[.int .i64 a, .int .i64 z] 29)
  have hs3 := hSB3.lt
  have hl3 := hB3.lt
  have hgw : w.heap.size ≤ w3.heap.size := hG03.size
  clear hB3 hG03 hSB3 hz3
  have HZ : Hid (bnd a ∧ bnd z) := Lib.hid (by unfold bnd; omega)
  go_wp2_with fail
  generalize w3.alloc (.cells #[.int .i64 a, .int .i64 z] 29) = w4 at hN4 hSB4 hB4 hG04 ⊢
  generalize w3.heap.size = g at hN4 hs3 hl3 hgw ⊢
  clear hz z0 z1 a0 a1 d0 d1
  refine (flip_c _ _ _ _ hSB4 (by omega) (by omega)).mono ?_; rintro e w5 ⟨q, rfl, hSB5, hG5⟩
  have hN5 := hN4.grown hG5 (fun e => by have := Option.some.inj e; omega)
  have hB5 := hB4.grown hG5 (fun e => by have := Option.some.inj e; omega)
  have hG05 := hG04.trans hG5
  clear hN4 hB4 hG04 hG5 hSB4
  cases q with
  | false =>
    go_wp2_with (first | (refine wpList_load_row rfl 29 _ rfl g rfl 29 #[.int .i64 a, .int .i64 z] (0, 0) _ hN5 Tryd.underlying29 rfl (wi_info a z) ?_) | (refine wpList_store_row rfl 29 _ _ rfl w.heap.size #[.int .i64 a, .int .i64 z] rfl rfl 29 _ hB5 (wi_info a z) rfl (wi_one a z) ?_))
    refine bodyPost_ret (results_cell_row rfl _ _ w.heap.size 29 #[.int .i64 a, .int .i64 z] (0, 0) _ rfl (hB5.setRow _) Tryd.underlying29 rfl (wi_info a z)) rfl ?_
    exact time_fin hslt HZ.out.1 HZ.out.2 (hSB5.le (by omega)) hG05
  | true =>
    go_wp2_with fail
    refine (odd_c _ _ _ _ _ hSB5 (by omega) (by omega) (by omega) (by omega) (by omega)).mono ?_; rintro e w6 ⟨y1, rfl, y10, y11, hSB6, hG6⟩
    have hN6 := hN5.grown hG6 (fun e => by have := Option.some.inj e; omega)
    have hB6 := hB5.grown hG6 (fun e => by have := Option.some.inj e; omega)
    have hG06 := hG05.trans hG6
    clear hN5 hB5 hG05 hG6 hSB5
    go_wp2_with fail
    refine (pick_c _ _ _ [0, 1000, 5761439, 5761440, 172800, 173801] _ _ _ (hSB6.alloc _) (by omega) (by decide) (by decide) (Rd.newAt _ rfl rfl (by decide)) (hSB6.newAt _ _ _ (Nat.le_refl _))).mono ?_; rintro e w7 ⟨y2, rfl, hy2, hSB7, hG7⟩
    have b2 := bnd_pick hy2 (by decide)
    have hN7 := (hN6.alloc _).grown hG7 (fun e => by have := Option.some.inj e; omega)
    have hB7 := (hB6.alloc _).grown hG7 (fun e => by have := Option.some.inj e; omega)
    have hG07 := (hG06.alloc _).trans hG7
    clear hN6 hB6 hG06 hG7 hSB6 hy2
    have hN8 := hN7.setRow #[.int .i64 y1, .int .i64 y2]
    have hB8 := hB7.farRow (show w.heap.size ≠ g by omega) #[.int .i64 y1, .int .i64 y2]
    go_wp2_with (first | (refine wpList_store_row rfl 29 _ _ rfl g #[.int .i64 y1, .int .i64 y2] rfl rfl 29 _ hN7 (wi_info y1 y2) rfl (wi_one y1 y2) ?_) | (refine wpList_load_row rfl 29 _ rfl g rfl 29 #[.int .i64 y1, .int .i64 y2] (0, 0) _ hN8 Tryd.underlying29 rfl (wi_info y1 y2) ?_) | (refine wpList_store_row rfl 29 _ _ rfl w.heap.size #[.int .i64 y1, .int .i64 y2] rfl rfl 29 _ hB8 (wi_info y1 y2) rfl (wi_one y1 y2) ?_))
    refine bodyPost_ret (results_cell_row rfl _ _ w.heap.size 29 #[.int .i64 y1, .int .i64 y2] (0, 0) _ rfl (hB8.setRow _) Tryd.underlying29 rfl (wi_info y1 y2)) rfl ?_
    exact time_fin hslt ⟨y10, y11⟩ b2 ((hSB7.setRow hs3 _).le (by omega)) (hG07.setRow (.inl hgw) _)
end Go.Proofs.YtndeidcddlmhbaaDoor
